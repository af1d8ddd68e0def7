import PyProof.Rows.All
import Wide.All
import OpenK.AllK
import Wide.FinOn
import Lean
import PyProof.EqAt
import PyProof.EqKinds
import PyProof.TupleCall
import PySem.Challenge.RW_ringhouse_k40_measure_and_often
set_option Elab.async false
set_option linter.all false
open PySem.W (instObj methodObj Frag lookIn InstAt plainGet hasDictIn findIn plainOver takerIn makesIn emptyDict keepIn fnOf codeIn excIn clsIn nsIn)
open List (set_cons_zero set_cons_succ replicate length all_cons any_cons foldl forIn_nil drop_one Nodup)
open Nat (le_of_eq add_comm mul_comm one_mul reduceEqDiff)
open Int (natAbs_neg mul_nonneg)
open PySem.Heap (SameBut ExtBut FlyingW HeldW MadeExcOf)
open Option (getD_none bind_some)
open Array (toList)
set_option maxRecDepth 100000
local macro_rules | `(tactic| walk_at "z") => `(tactic| first|exact .inl rfl|exact .inr rfl|assumption)
def aa{p:Prop}(h:p:=by omega):p:=h
def ac{p:Prop}(h:p:=by decide):p:=h
def ad{p:Prop}(h:p:=by lia):p:=h
def ae{p:Prop}(h:p:=by simp):p:=h
def af{p:Prop}(h:p:=by decide +kernel):p:=h
def ag{p:Prop}(h:p:=by walk_at "n"):p:=h
def ah{p:Prop}(h:p:=by walk_at "b2"):p:=h
def aI:= @List.getD_eq_getElem?_getD
def a8:= @PySem.wpAny_bind
def a6:= @if_neg
def aO:= @List.getElem?_eq_getElem
def a7:= @if_pos
def aG:= @List.length_map
def aS:= @PySem.Heap.get?_push_of_some
def aE:= @Nat.le_refl
def aH:= @PySem.wpAny_pure
def aM:= @Nat.le_trans
def aY:= @Nat.lt_of_lt_of_le
def b6:= @List.size_toArray
def aT:= @PySem.Heap.lt_size
def bC:= @Bool.false_ne_true
def b7:= @List.getElem?_map
def bH:= @List.mem_cons_of_mem
def aX:= @List.mem_cons
def bN:= @List.length_append
def bU:= @PySem.Heap.get?_push_size
def d3:= @Int.dvd_of_emod_eq_zero
def bX:= @Int.emod_lt_of_pos
def bM:= @List.mem_append
def bS:= @List.getElem_mem
def bD:= @Nat.ne_of_lt
def cO:= @List.mem_cons_self
def bV:= @List.map_append
def bW:= @List.range_succ
def bY:= @Int.emod_nonneg
def cP:= @Int.toNat_natCast
def bI:= @Int.zero_add
def cQ:= @Nat.zero_lt_succ
def bO:= @Int.mul_zero
def gH:= @List.getElem?_append_left
def d4:= @List.lookup_cons
def fJ:= @List.mem_append_right
def fK:= @List.getElem?_eq_none
def gU:= @List.getElem?_append_right
def bG:= @PySem.wpAny_mono
def dU:= @Int.emod_eq_of_lt
def eC:= @PySem.W.mg_none_of
def dW:= @Bool.and_eq_true
def gI:= @Int.emod_add_mul_ediv
def cT:= @PySem.W.mg_of
def eO:= @List.length_cons
def eS:= @List.all_eq_true
def eT:= @List.not_mem_nil
def eE:= @List.length_set
def dX:= @List.mem_range
def dI:= @Nat.lt_irrefl
def dJ:= @List.map_cons
def dL:= @Int.zero_emod
def jS:= @PyProof.Rows.callWith_type1
def d5:= @Int.pow_zero
def fW:= @decide_eq_true_eq
def gJ:= @List.mem_singleton
def kP:= @Int.mul_le_mul_of_nonneg_left
def dM:= @List.mem_map
def d6:= @PySem.wpAny_field
def iD:= @Nat.pow_le_pow_right
def gW:= @Nat.add_sub_cancel
def fL:= @Int.natAbs_mul
def dN:= @Nat.zero_le
def kQ:= @List.getElem?_eq_some_iff
def gK:= @decide_eq_false
def cU:= @And.right
def kR:= @PySem.wpAny_callSpecial?_slot
def kS:= @Int.emod_eq_zero_of_dvd
def iE:= @PySem.wpAny_loadPart'
def gX:= @PySem.PassesOwn.never
def bZ:= @if_true
def jT:= @List.filterMap_cons
def jU:= @List.replicate_succ
def iZ:= @PySem.wpAny_newObj_type
def fX:= @List.map_map
def iF:= @Option.some.inj
def tD:= @List.getElem?_cons_zero
def nB:= @Int.dvd_mul_of_dvd_left
def kT:= @PySem.Heap.get?_none_of_le
def j0:= @PySem.wpAny_call_entry
def gL:= @Int.mul_emod
def gM:= @Int.zero_mul
def dO:= @congrArg
def pI:= @Int.natAbs_ediv_le_natAbs
def gY:= @Int.mul_comm
def gN:= @Int.pow_one
def j1:= @PySem.Heap.size_push
def j2:= @Nat.mul_le_mul
def kU:= @PySem.wpAny_truthy_bool
def eG:= @if_false
def kW:= @Nat.lt_succ_of_lt
def kX:= @List.length_range
def jV:= @List.append_nil
def iG:= @Int.add_zero
def iH:= @Int.add_emod
def j3:= @PySem.wpAny_holding
def gO:= @beq_iff_eq
def j4:= @List.map_take
def j5:= @Int.emod_emod
def j6:= @Int.le_of_dvd
def yS:= @PySem.F.slot_tuple_iterator_next
def eU:= @or_false
def kY:= @List.ext_getElem
def pJ:= @PySem.Heap.get?_update_self
def jW:= @decide_eq_true
def pK:= @Bool.beq_eq_decide_eq
def nE:= @Nat.lt_of_le_of_lt
def yT:= @PyProof.Rows.slot_tuple_getitem
def pL:= @PySem.wpAny_loadName_local
def nF:= @List.length_nil
def j7:= @Nat.sub_self
def nG:= @List.flatten_cons
def nI:= @PySem.wpAny_loadPart_at
def nJ:= @List.ext_getElem?
def tE:= @List.getElem?_replicate
def tF:= @List.length_eq_zero_iff
def pM:= @beq_eq_false_iff_ne
def pN:= @PySem.mem_of_lookup
def nK:= @List.length_drop
def kZ:= @PySem.wpAny_seqItems
def j8:= @Nat.pow_add
def pO:= @PySem.wpAny_Call_Name_kw
def jX:= @List.map_nil
def pP:= @PySem.Obj.data_mapFields
def pQ:= @PySem.wpAny_setField_rec
def jY:= @Int.pow_succ
def nL:= @PySem.wpAny_execs_nil
def nM:= @PySem.wpAny_passesOwn
def tG:= @List.length_replicate
def nN:= @Nat.min_eq_left
def nO:= @Nat.not_lt_zero
def yU:= @PySem.F.excBase_ValueError
def pR:= @PySem.Heap.get?_push_ne
def tH:= @List.mem_append_left
def yV:= @Decidable.byContradiction
def jZ:= @Int.mul_one
def k7:= @PySem.wpAny_of_eq
def nP:= @Bool.false_xor
def pS:= @Nat.lt_succ_self
def pT:= @List.length_take
def yW:= @List.mem_of_mem_eraseIdx
def tI:= @PyProof.Rows.call_isinstance_yes
def tJ:= @PySem.Heap.SameBut.update
def tK:= @Nat.mul_le_mul_left
def aJ7:= @PySem.plainObj_wpAny_Assign_Attribute
def b95:= @List.getElem?_cons_succ
def yX:= @List.pairwise_singleton
def nQ:= @PySem.wpAny_standAt
def nR:= @Int.mul_assoc
def tL:= @PySem.W.of_hideAll
def k8:= @PySem.call_meets
def tM:= @of_decide_eq_true
def nS:= @Nat.le_of_lt
def yY:= @List.length_singleton
def yZ:= @PySem.F.slot_zip_next
def pU:= @PySem.isSubtype_type
def zA:= @PySem.builtinLookup_eq_fast
def tN:= @PySem.wpAny_execs_cons
def zB:= @List.mem_of_getElem?
def j9:= @Prod.ext
def tO:= @PySem.Heap.size_update
def pV:= @Bool.true_xor
def pW:= @List.map_drop
def aJ8:= @List.length_eraseIdx_of_lt
def pX:= @Nat.add_assoc
def zC:= @PySem.Heap.get?_update_ne
def zD:= @PySem.wpAny_isSubtype_exc
def zE:= @List.map_congr_left
def tP:= @Bool.eq_iff_iff
def pY:= @Nat.ne_of_gt
def aJ9:= @PySem.F.args_tuple_add_2
def aK0:= @PySem.AutoSeq1.wpAny_loadPart'
def aK1:= @PySem.F.args_tuple_mul_2
def b96:= @set_cons_zero
def b97:= @set_cons_succ
def aK2:= @Int.mul_ediv_cancel_left
def nT:= @PySem.wpAny_Name
def nU:= @PySem.wpAny_rule
def tQ:= @PySem.wpAny_setField
def aK3:= @PySem.F.entry_tuple_add
def aK4:= @PySem.F.entry_tuple_mul
def aK5:= @decide_eq_false_iff_not
def zF:= @PySem.wpAny_pyIter_list
def zG:= @Int.natAbs_sub_le
def aK6:= @PySem.wpAny_pyIter_rangeiter
def aK7:= @PySem.W.cellsFrom_some
def aK8:= @PySem.F.slot_tuple_add
def aK9:= @PySem.Heap.get?_update_other
def aL0:= @List.take_of_length_le
def aL1:= @PySem.F.slot_tuple_mul
def tT:= @PySem.wpAny_attempt
def zH:= @PySem.AutoSeq1.idx_int
def aL2:= @PySem.Obj.isFreed_of_fields
def tU:= @PySem.codeAny_mono
def zI:= @List.nodup_cons
def zJ:= @List.of_mem_zip
def pZ:= @PySem.typeIs_int
def aL3:= @PySem.Calls.evalArgs_plain
def zK:= @List.nil_append
def aL4:= @PySem.isinstance_false_int
def zL:= @List.forIn_cons
def aL5:= @PySem.wpAny_updateSeq_pair
def zM:= @PySem.typeLookup_type
def aL6:= @Nat.mul_le_mul_right
def aL7:= @Nat.pow_lt_pow_right
def tV:= @Nat.sub_zero
def zN:= @Bool.or_eq_true
def aL8:= @List.pairwise_append
def aL9:= @List.forall_mem_cons
def zO:= @Nat.one_ne_zero
def aM0:= @Array.length_toList
def aM1:= @PySem.W.looks_clsIn
def aM2:= @Int.toNat_of_nonneg
def tW:= @Nat.le_succ
def tX:= @Int.mul_neg
def tY:= @Int.dvd_add
def aM3:= @PyProof.Rows.assignInOrder_cons
def qA:= @PyProof.Rows.IsTup.new
def aM4:= @List.mem_filterMap
def aM5:= @PySem.W.callWith_K
def aM6:= @List.zip_cons_cons
def aM7:= @List.contains_cons
def aM8:= @List.pairwise_cons
def aM9:= @List.append_of_mem
def zP:= @PySem.wpAny_onRaise
def aN0:= @List.getElem?_set
def aN1:= @Bool.not_eq_true'
def aN2:= @Nat.le_succ_of_le
def aN3:= @Int.natAbs_add_le
def aN4:= @Int.lt_trichotomy
def aN5:= @Int.dvd_mul_right
def tZ:= @PySem.wpAny_call
def aN6:= @PySem.noFill_tuple_add
def zQ:= @PySem.wpAny_typeOf
def zR:= @PySem.seqIndex_neg
def aN7:= @beq_self_eq_true
def zS:= @Nat.pow_succ
def zT:= @Nat.mul_succ
def zU:= @Int.sub_emod
def zV:= @Int.add_comm
def zW:= @Int.dvd_refl
def aN8:= @List.mem_filter
def aN9:= @PySem.pushCells_keeps
def aO0:= @Int.natCast_mul
def aO1:= @List.sum_append
def zX:= @PySem.seqIndex_of
def zY:= @Int.one_mul
def zZ:= @Int.add_mul
def a00:= @Int.mul_add
set_option compiler.extract_closed false
set_option bootstrap.genMatcherCode false
namespace L2
open PySem PySem.Spec PyProof.Rows
abbrev Key:=Sum Int Str
noncomputable def dQ2:Key->Value->Bool
 | .inl k,v=>Value.isInt k v
 | .inr x,v=>Value.isStrOf x v
noncomputable def keyH (w:World):Key->Int
 | .inl k=>hashInt k
 | .inr x=>hashStr w x
theorem iQ: ∀{k:Key} {v:Value},dQ2 k v=true->(∃i t,k=Sum.inl i/\v=Value.int i t)\/(∃x t,k=Sum.inr x/\v=Value.str x t)
 | .inl i,v,h=>by
  obtain⟨t,e⟩:=Value.isInt_shape (k:=i) (v:=v) h;exact .inl ⟨i,t,rfl,e⟩
 | .inr x,v,h=>by
  obtain⟨t,e⟩:=Value.isStrOf_shape (x:=x) (v:=v) h;exact .inr ⟨x,t,rfl,e⟩
theorem key_ll (a b:Int):decide ((Sum.inl a:Key)=Sum.inl b)=(a==b):=by
 by_cases e:a=b
 ·subst e;simp
 ·have h: ¬(Sum.inl a:Key)=Sum.inl b:=λq=>e (Sum.inl.inj q)
  rw[gK h];exact(pM.mpr e).symm
theorem key_rr (a b:Str):decide ((Sum.inr a:Key)=Sum.inr b)=decide (a=b):=by
 by_cases e:a=b
 ·subst e;simp
 ·have h: ¬(Sum.inr a:Key)=Sum.inr b:=λq=>e (Sum.inr.inj q)
  rw[gK h,gK e]
theorem key_lr (a:Int)(b:Str):decide ((Sum.inl a:Key)=Sum.inr b)=false:=gK (λq=>nomatch q)
theorem key_rl (a:Str)(b:Int):decide ((Sum.inr a:Key)=Sum.inl b)=false:=gK (λq=>nomatch q)
noncomputable def cN0 (prog:Program)(w:World):PySem.KeyKind prog w Key where
 is:=dQ2
 hash:=keyH w
 inj:=λv a b ha hb=>by
  rcases iQ ha with⟨i,t,rfl,rfl⟩| ⟨x,t,rfl,rfl⟩
  ·rcases iQ hb with⟨j,u,rfl,e⟩| ⟨y,u,rfl,e⟩
   ·injection e with e1 _;rw[e1]
   ·exact nomatch e
  ·rcases iQ hb with⟨j,u,rfl,e⟩| ⟨y,u,rfl,e⟩
   ·exact nomatch e
   ·injection e with e1 _;rw[e1]
 byValue:=λk v h=>by
  rcases iQ h with⟨i,t,rfl,rfl⟩| ⟨x,t,rfl,rfl⟩<;>rfl
 pyHash:=λhv h=>by
  rcases iQ hv with⟨i,t,rfl,rfl⟩| ⟨x,t,rfl,rfl⟩
  ·exact wpAny_pyHash_int h
  ·exact wpAny_pyHash_str h
 eqBool:=λhu hv h=>by
  rcases iQ hu with⟨i,t,rfl,rfl⟩| ⟨x,t,rfl,rfl⟩
  ·rcases iQ hv with⟨j,u,rfl,rfl⟩| ⟨y,u,rfl,rfl⟩
   ·rw[key_ll]at h;exact wpAny_eqBool_int h
   ·rw[key_lr]at h;exact SeqAt.EqAt.int_str i t y u _ _ _ _ h
  ·rcases iQ hv with⟨j,u,rfl,rfl⟩| ⟨y,u,rfl,rfl⟩
   ·rw[key_rl]at h;exact SeqAt.EqAt.str_int x t j u _ _ _ _ h
   ·rw[key_rr]at h;exact wpAny_eqBool_str h
 «strs» :=λk x t v h=>by
  rcases iQ h with⟨i,u,rfl,e⟩| ⟨y,u,rfl,e⟩
  ·exact nomatch e
  ·injection e with e1 _
   subst e1;cases v<;>rfl
end L2
namespace L2
open PySem PySem.Spec PyProof.Rows
inductive V where
 | non|bl (b:Bool)|int (i:Int)|str (x:Str)|byt (b:Array UInt8)|flt (b:UInt64)|ref (a:Addr)|ty (n:String)
 deriving DecidableEq
def RelV:V->Value->Prop
 | .non,u=>u=Value.none
 | .bl b,u=>u=Value.bool b
 | .int i,u=> ∃t,u=Value.int i t
 | .str x,u=> ∃t,u=Value.str x t
 | .byt b,u=> ∃t,u=Value.bytes b t
 | .flt b,u=> ∃t,u=Value.float b t
 | .ref a,u=>u=Value.ref a
 | .ty n,u=>u=Value.type n
abbrev Vals:List V->List Value->Prop:=Paired RelV
theorem Vals.length {xs:List V}{us:List Value}(r:Vals xs us):xs.length=us.length:=Paired.length r
theorem Vals.get: ∀{xs:List V} {us:List Value} {i:Nat} {x:V},Vals xs us->xs[i]? =some x-> ∃u,us[i]? =some u/\RelV x u
 | _,_,_,_,.nil,e=>by simp at e
 | _,_,0,_,.cons r _,e=>by simp at e;subst e;exact⟨_,rfl,r⟩
 | _,_,i+1,x,.cons _ t,e=>by
  obtain⟨u,h1,h2⟩:=Vals.get (i:=i) (x:=x) t (by simpa using e)
  exact⟨u,by simpa using h1,h2⟩
theorem Vals.set {x:V}{u:Value}(r:RelV x u): ∀{xs:List V} {us:List Value} (i:Nat),Vals xs us->Vals (xs.set i x) (us.set i u)
 | _,_,_,.nil=> .nil
 | _,_,0,.cons _ t=> .cons r t
 | _,_,i+1,.cons q t=> .cons q (Vals.set r i t)
theorem Vals.append: ∀{xs ys:List V} {us ws:List Value},Vals xs us->Vals ys ws->Vals (xs++ys) (us++ws)
 | _,_,_,_,.nil,s=>s
 | _,_,_,_,.cons r t,s=> .cons r (Vals.append t s)
theorem Vals.take: ∀{xs:List V} {us:List Value} (n:Nat),Vals xs us->Vals (xs.take n) (us.take n)
 | _,_,0,_=> .nil
 | _,_,_+1,.nil=> .nil
 | _,_,n+1,.cons r t=> .cons r (Vals.take n t)
theorem Vals.drop: ∀{xs:List V} {us:List Value} (n:Nat),Vals xs us->Vals (xs.drop n) (us.drop n)
 | _,_,0,r=>r
 | _,_,_+1,.nil=> .nil
 | _,_,n+1,.cons _ t=>Vals.drop n t
def cD9:Option V->Option Value->Prop
 | some v,some u=>RelV v u
 | none,none=>True
 | _,_=>False
def KV {κ:Type}:List (κ×V)->List (κ×Value)->Prop:=Paired fun(p:κ×V) (q:κ×Value)=>p.1=q.1/\RelV p.2 q.2
noncomputable def kV:Key->V
 | .inl i=> .int i
 | .inr x=> .str x
inductive HO where
 | lst (xs:List V)
 | tup (xs:List V)
 | dK (kvs:List (Key×V))|dT (kvs:List (List Key×V))
 | set (S:Int->Bool) (n:Nat)
 | ins (C dx:Addr) (fs:List (Str×V))
 | own (x:Addr)
 | xd (fs:List (Str×V))
 | met (f x:Addr)
 | rng (lo hi:Int)
 | frz (o:Obj) (u:HO)
 | tbl (ps:Array Value)
 | ext (φ:Heap->Prop)
abbrev Hp:=Addr->Option HO
noncomputable def upd (H:Hp)(a:Addr)(o:HO):Hp:=λb=>if b=a then some o else H b
theorem iR {H:Hp}{a:Addr}{o:HO}:upd H a o a=some o:=by unfold upd;rw[a7 rfl]
theorem cH {H:Hp}{a b:Addr}{o:HO}(h:b≠a):upd H a o b=H b:=by unfold upd;rw[a6 h]
theorem d7 {H:Hp}{a b:Addr}{o:HO}(h:H a=some o)(h':H b=none):a≠b:=by
 intro e;subst e;rw[h]at h';cases h'
section
variable (P:Program)(w:World)
def rB (H:Hp)(h:Heap)(a:Addr):HO->Prop
 | .lst xs=>xs.length<=sizeLine/\ ∃(its:List Value) (n:Nat),Vals xs its/\h.get? a=some {cls:= .type "list",data:= .seq its.toArray n}
 | .tup xs=>xs.length<=sizeLine/\ ∃its:List Value,Vals xs its/\IsTup h a its.toArray
 | .dK kvs=>kvs.length<=sizeLine/\(a==sysModules)=false/\ ∃vs,KV kvs vs/\h.DictOf (cN0 P w) a vs
 | .dT kvs=>kvs.length<=sizeLine/\(a==sysModules)=false/\ ∃xs:List (List Key×Addr×Value),
   Paired (fun(p:List Key×V) (q:List Key×Addr×Value)=>p.1=q.1/\H q.2.1=some (.tup<|p.1.map kV)/\RelV p.2 q.2.2) kvs xs/\
   ∃o es ep,h.get? a=some o/\o.ExactDict/\o.data= .dict es ep/\es.toList=xs.map (entryOfKey<|tupleKind<|cN0 P w)/\(xs.map (·.1)).Nodup
 | .set S n=>h.SetOf (intKind P w) a S n
 | .ins C dx fs=>H dx=some (.own a)/\fs.length<=1000/\dx≠a/\h.get? a=some (instObj C dx)/\
   ∃mA,h.Ns1 dx mA/\(∀f,cD9 (fs.lookup f)<|mA f)/\PySem.Within mA (fs.map (·.1))
 | .own _=> ∃o,h.get? a=some o
 | .xd fs=> ∃mA,h.Ns1 a mA/\ ∀f,cD9 (fs.lookup f) (mA f)
 | .rng lo hi=> ∃t u v,h.get? a=some {cls:= .type "range",data:= .fields #[.int lo t,.int hi u,.int 1 v]}
 | .frz o u=>h.get? a=some o/\rB H h a u
 | .tbl ps=>h.get? a=some {cls:= .none,data:= .fields ps}
 | .met f x=>h.get? a=some (methodObj (.ref f)<|.ref x)
 | .ext φ=>φ h/\(∃o,h.get? a=some o)/\ ∀h1 h2:Heap,φ h1->(∀o,h1.get? a=some o->h2.get? a=some o)->φ h2
def HOk (H:Hp)(h:Heap):Prop:= ∀a o,H a=some o->rB P w H h a o
end
section
variable {P:Program}{w:World}{H H':Hp}{h h':Heap}{a:Addr}{o:HO}
theorem rB.lt (x:rB P w H h a o):a<h.objs.size:=by
 cases o with
 | lst xs=>obtain⟨_,_,_,_,e⟩:=x;exact aT e
 | tup xs=>obtain⟨_,_,_,p⟩:=x;exact p.lt
 | dK kvs=>obtain⟨_,_,_,_,o,_,_,e,_⟩:=x;exact aT e
 | dT kvs=>obtain⟨_,_,_,_,o,_,_,e,_⟩:=x;exact aT e
 | set S n=>obtain⟨o,_,_,_,e,_⟩:=x;exact aT e
 | ins C dx fs=>obtain⟨_,_,_,e,_⟩:=x;exact aT e
 | own y=>obtain⟨_,e⟩:=x;exact aT e
 | xd fs=>obtain⟨_,⟨_,_,_,e,_⟩,_⟩:=x;exact aT e
 | rng lo hi=>obtain⟨_,_,_,e⟩:=x;exact aT e
 | frz ob u=>obtain⟨e,_⟩:=x;exact aT e
 | tbl ps=>exact aT (show h.get? a=some _ from x)
 | met f y=>exact aT (show h.get? a=some _ from x)
 | ext φ=>obtain⟨_,⟨_,e⟩,_⟩:=x;exact aT e
theorem Paired.mapP {α β:Type}{F G:α->β->Prop}: ∀{l₁:List α} {l₂:List β},Paired F l₁ l₂->(∀a b,F a b->G a b)->Paired G l₁ l₂
 | _,_,.nil,_=> .nil
 | _,_,.cons r t,f=> .cons (f _ _ r) (Paired.mapP t f)
theorem rB.stay (x:rB P w H h a o)(k: ∀b u,(b=a\/H b=some (.own a))->h.get? b=some u->h'.get? b=some u)
  (ho: ∀b,H b=some (.own a)->H' b=some (.own a)) (ht: ∀b xs,H b=some (.tup xs)->H' b=some (.tup xs)):rB P w H' h' a o:=by
 induction o with
 | lst xs=>obtain⟨z,its,n,r,e⟩:=x;exact⟨z,its,n,r,k _ _ (.inl rfl) e⟩
 | tup xs=>obtain⟨z,its,r,ob,e,c⟩:=x;exact⟨z,its,r,ob,k _ _ (.inl rfl) e,c⟩
 | dK kvs=>obtain⟨z,y,vs,r,ob,es,ep,e,c⟩:=x;exact⟨z,y,vs,r,ob,es,ep,k _ _ (.inl rfl) e,c⟩
 | dT kvs=>
  obtain⟨z,y,xs,r,ob,es,ep,e,c⟩:=x;exact⟨z,y,xs,Paired.mapP r λp q z=>⟨z.1,ht _ _ z.2.1,z.2.2⟩,ob,es,ep,k _ _ (.inl rfl) e,c⟩
 | set S n=>obtain⟨ob,es,ep,t,e,c⟩:=x;exact⟨ob,es,ep,t,k _ _ (.inl rfl) e,c⟩
 | ins C dx fs=>
  obtain⟨d,z,ne,e,mA,⟨od,es,ep,e2,c⟩,r⟩:=x;exact⟨ho _ d,z,ne,k _ _ (.inl rfl) e,mA,⟨od,es,ep,k _ _ (.inr d) e2,c⟩,r⟩
 | own y=>obtain⟨ob,e⟩:=x;exact⟨ob,k _ _ (.inl rfl) e⟩
 | xd fs=>obtain⟨mA,⟨od,es,ep,e,c⟩,r⟩:=x;exact⟨mA,⟨od,es,ep,k _ _ (.inl rfl) e,c⟩,r⟩
 | rng lo hi=>obtain⟨t,u,v,e⟩:=x;exact⟨t,u,v,k _ _ (.inl rfl) e⟩
 | frz ob u ih=>obtain⟨e,q⟩:=x;exact⟨k _ _ (.inl rfl) e,ih q⟩
 | tbl ps=>
  have e:h.get? a=some {cls:= .none,data:= .fields ps}:=x;show h'.get? a=some {cls:= .none,data:= .fields ps};exact k a _ (.inl rfl) e
 | met f y=>
  have e:h.get? a=some (methodObj (.ref f)<|.ref y):=x;show h'.get? a=some (methodObj (.ref f)<|.ref y);exact k a _ (.inl rfl) e
 | ext φ=>obtain⟨p,⟨o,e⟩,st⟩:=x;exact⟨st _ _ p λo q=>k _ _ (.inl rfl) q,⟨o,k _ _ (.inl rfl) e⟩,st⟩
theorem HOk.lt (x:HOk P w H h)(e:H a=some o):a<h.objs.size:=(x a o e).lt
theorem HOk.fresh (x:HOk P w H h)(e:h.objs.size<=a):H a=none:=by
 cases q:H a with
 | none=>rfl
 | some u=>exact absurd (aY (x.lt q) e) (dI _)
theorem HOk.kept (x:HOk P w H h)(k: ∀b u,h.get? b=some u->h'.get? b=some u):HOk P w H h':=λa o e=>
 (x a o e).stay (λb u _ q=>k b u q) (λ_ q=>q) λ_ _ q=>q
theorem HOk.laid (x:HOk P w H h)(k: ∀b u,h.get? b=some u->h'.get? b=some u)(hp:h.objs.size<=a)(new:rB P w (upd H a o) h' a o):HOk P w (upd H a o) h':=λb u e=>by
 have hn:=x.fresh hp
 by_cases hb:b=a
 ·subst hb;rw[iR]at e;cases e;exact new
 ·rw[cH hb]at e;exact(x b u e).stay (λc v _ q=>k c v q) (λc q=>by rw[cH<|d7 q hn];exact q) λc xs q=>by rw[cH<|d7 q hn];exact q
end
def Rd (H:Hp)(a:Addr)(u:HO):Prop:=H a=some u\/ ∃o,H a=some (.frz o u)
theorem Rd.ok {P:Program}{w:World}{H:Hp}{h:Heap}{a:Addr}{u:HO}(r:Rd H a u)(x:HOk P w H h):rB P w H h a u:=by
 rcases r with r| ⟨o,r⟩
 ·exact x a u r
 ·obtain⟨_,q⟩:=x a _ r;exact q
def Mut:Option HO->Prop
 | some (.lst _)=>True
 | some (.dK _)=>True
 | some (.dT _)=>True
 | some (.set _ _)=>True
 | some (.ins _ _ _)=>True
 | some (.ext _)=>True
 | _=>False
section
variable {P:Program}{w:World}{H:Hp}{h h':Heap}{x e:Addr}{o':HO}
theorem HOk.write (ok:HOk P w H h)(mu:Mut (H x))(he:e=x\/H e=some (.own x))(k: ∀b u,b≠e->h.get? b=some u->h'.get? b=some u)(heo: ∃u,h'.get? e=some u)
  (new:rB P w (upd H x o') h' x o'):HOk P w (upd H x o') h':=λb u q=>by
 have nown: ∀c y,H c=some (.own y)->c≠x:=λc y r z=>by subst z;rw[r]at mu;exact mu
 have ntup: ∀c xs,H c=some (.tup xs)->c≠x:=λc xs r z=>by subst z;rw[r]at mu;exact mu
 by_cases hb:b=x
 ·subst hb;rw[iR]at q;cases q;exact new
 ·rw[cH hb]at q
  by_cases hbe:b=e
  ·have q':H b=some (.own x):=by
    rcases he with z|z
    ·exact absurd (hbe.trans z) hb
    ·rw[hbe];exact z
   rw[q]at q';cases q';obtain⟨v,hv⟩:=heo;exact⟨v,by rw[hbe];exact hv⟩
  ·refine(ok b u q).stay (λc v hc r=>k c v ?_ r) (λc r=>by rw[cH<|nown c b r];exact r) λc xs r=>by rw[cH<|ntup c xs r];exact r
   rcases hc with rfl|hc
   ·exact hbe
   ·rintro rfl;rcases he with z|z
    ·exact nown c b hc z
    ·rw[hc]at z;cases z;exact hb rfl
end
structure Un (fs ex:List Addr)(H H':Hp)(h h':Heap):Prop where
 keep: ∀b o,h.get? b=some o->H b=none->b ∉ fs->b ∉ ex->h'.get? b=some o
 slot: ∀b o,h.get? b=some o->H b=none->b∈fs->b ∉ ex-> ∃sl,h'.get? b=some {o with slots:=sl}
 free: ∀b o,h.get? b=some o->H b=none->b ∉ ex->H' b=none
 there: ∀b o,h.get? b=some o->b ∉ ex-> ∃o',h'.get? b=some o'
 tups: ∀b xs,H b=some (.tup xs)->H' b=some (.tup xs)
 frzs: ∀b o u,H b=some (.frz o u)->H' b=some (.frz o u)
 tbls: ∀b ps,H b=some (.tbl ps)-> ∃more,H' b=some (.tbl<|ps++more)
section
variable {fs fs' ex ex':List Addr}{H H1 H2:Hp}{h h1 h2 h':Heap}{a x e:Addr}{o:HO}
theorem Un.any (u:Un fs ex H H1 h h1){b:Addr}{ob:Obj}(q:h.get? b=some ob)(n:H b=none)(hx:b ∉ ex): ∃sl,h1.get? b=some {ob with slots:=sl}:=by
 by_cases hb:b∈fs
 ·exact u.slot b ob q n hb hx
 ·exact⟨ob.slots,u.keep b ob q n hb hx⟩
theorem Un.kept (k: ∀b u,h.get? b=some u->h'.get? b=some u):Un fs ex H H h h':=
 ⟨λb ob q _ _ _=>k b ob q,λb ob q _ _ _=>⟨ob.slots,k b ob q⟩,λ_ _ _ n _=>n,λb ob q _=>⟨ob,k b ob q⟩,λ_ _ q=>q,λ_ _ _ q=>q,λ_ ps q=>⟨#[],by rw[q];simp⟩⟩
theorem Un.refl:Un fs ex H H h h:=Un.kept λ_ _ q=>q
theorem Un.laid (k: ∀b u,h.get? b=some u->h'.get? b=some u)(hp:h.objs.size<=a)(hn:H a=none):Un fs ex H (upd H a o) h h' where
 keep:=λb u q _ _ _=>k b u q
 slot:=λb u q _ _ _=>⟨u.slots,k b u q⟩
 free:=λb u q n _=>by rw[cH<|bD<|aY (aT q) hp];exact n
 there:=λb u q _=>⟨u,k b u q⟩
 tups:=λb xs q=>by rw[cH<|d7 q hn];exact q
 frzs:=λb u xs q=>by rw[cH<|d7 q hn];exact q
 tbls:=λb ps q=>⟨#[],by rw[cH<|d7 q hn,q];simp⟩
theorem Un.write (mu:Mut (H x))(he:e=x\/H e=some (.own x))(k: ∀b u,b≠e->h.get? b=some u->h'.get? b=some u)(heo: ∃u,h'.get? e=some u):Un fs ex H (upd H x o) h h':=by
 have hx: ∀b,H b=none->b≠x:=λb n z=>by subst z;rw[n]at mu;exact mu
 have hb: ∀b,H b=none->b≠e:=λb n z=>by
  subst z;rcases he with r|r
  ·exact hx b n r
  ·rw[n]at r;cases r
 have hm: ∀b u,H b=some u-> ¬Mut (some u)->b≠x:=λb u q nm z=>by subst z;rw[q]at mu;exact nm mu
 refine⟨λb u q n _ _=>k b u (hb b n) q,λb u q n _ _=>⟨u.slots,k b u (hb b n) q⟩,λb u q n _=>by rw[cH<|hx b n];exact n,λb u q _=> ?_,
  λb xs q=>by rw[cH<|hm b _ q λz=>z];exact q,λb u xs q=>by rw[cH<|hm b _ q λz=>z];exact q,λb ps q=>⟨#[],by rw[cH<|hm b _ q λz=>z,q];simp⟩⟩
 by_cases hbe:b=e
 ·subst hbe;exact heo
 ·exact⟨u,k b u hbe q⟩
end
noncomputable def trk (h:Heap)(H:Hp):List Addr:=(List.range h.objs.size).filter λa=>(H a).isSome
noncomputable def bT5 (h:Heap)(H:Hp):Heap:=PySem.W.hideAll h (trk h H)
theorem cT1 (h:Heap)(H:Hp):(bT5 h H).objs.size=h.objs.size:=PySem.W.hideAll_size _ _
theorem cZ9 {h:Heap}{H:Hp}{b:Addr}{o:Obj}(e:h.get? b=some o)(n:H b=none):(bT5 h H).get? b=some o:=
 PySem.W.hideAll_get _ e λhm=>by
  have q:(H b).isSome=true:=(aN8.mp hm).2;rw[n]at q;simp at q
theorem dE8 {h:Heap}{H:Hp}{b:Addr}{o:Obj}(e:(bT5 h H).get? b=some o):h.get? b=some o/\H b=none:=by
 have e':h.get? b=some o:=tL (trk h H) e;refine⟨e',?_⟩;cases q:H b with
 | none=>rfl
 | some x=>
  have hm:b∈trk h H:=aN8.mpr ⟨dX.mpr<|aT e',by simp[q]⟩
  have z:(bT5 h H).get? b=none:=PySem.W.hideAll_none (trk h H) hm;rw[z]at e;cases e
noncomputable def dE9 (g h:Heap)(L:Addr):List (Addr×Obj):=(List.range h.objs.size).filterMap λa=>if a=L\/(g.get? a).isSome=true then none else(h.get? a).map λo=>(a,o)
noncomputable def rT (g h:Heap)(L d:Addr):List (Addr×Obj):=(dE9 g h L).filter λp=>decide (p.1≠d)
end L2
namespace L2
open PySem PySem.Spec PyProof.Rows
structure Mod (K:Frag)(mg:Str->Option Value)(base:Heap):Prop where
 kin:K.In base
 glob:base.Ns mainGlobals mg
 blt: ∃mb,base.Ns builtinsNs mb/\ ∀x:Str,x≠"__name__"->mb x=bootBuiltins x
 nolimit:base.NoLimit
structure Cx where
 prog:Program
 w:World
 K:Frag
 mg:Str->Option Value
 base:Heap
 A:Around
 N:List Str
 s₀:Shared
 H₀:Hp
 env:Env
 outer:List Env
 stack:List Env
 ex:List Addr
 fn:Str->Bool
 calm:Bool
 pn:List (Addr×Obj)
 xe:Value->Shared->Prop
noncomputable def frs (l:List Env):List Addr:=l.filterMap (·.frame)
noncomputable abbrev Cx.fs (X:Cx):List Addr:=frs X.outer
def Vis (sc:Scope)(x:Str):Prop:=sc.names.lookup x=some .local\/sc.names.lookup x=some .cell\/sc.names.lookup x=some .free
def Loc (sc:Scope)(x:Str):Prop:=sc.names.lookup x=some .local\/sc.names.lookup x=some .cell
def Look (env:Env)(h:Heap)(m:Str->Option Value)(x:Str)(u:Value):Prop:=
 (env.kindOf x=some .local/\m x=some u)\/((env.kindOf x=some .cell\/env.kindOf x=some .free)/\ ∃c,env.cells.lookup x=some c/\h.IsCell c (some u))
structure Cx.Ok (X:Cx):Prop where
 mod:Mod X.K X.mg X.base
 kind:X.env.scope.kind= .function
 glob:X.env.globals=mainGlobals
 blt:X.env.builtins=builtinsNs
 above:X.s₀.heap.objs.size<=X.env.locals
 inj: ∀x y c,X.env.cells.lookup x=some c->X.env.cells.lookup y=some c->x=y
 has: ∀x,(X.env.kindOf x=some .cell\/X.env.kindOf x=some .free)-> ∃c,X.env.cells.lookup x=some c
 cab: ∀x c,X.fn x=true->X.env.cells.lookup x=some c->X.s₀.heap.objs.size<=c
 hd:X.calm=true->X.A.handled=none
 frames:X.A.frames=some X.stack
 stk:X.stack=X.outer\/(X.stack=X.env::X.outer/\X.env.frame=some X.env.locals)
 exf: ∀b∈X.ex,b≠X.env.locals/\ ∀x c,X.env.cells.lookup x=some c->c≠b
 bs: ∀b o,X.base.get? b=some o->X.s₀.heap.get? b=some o/\X.H₀ b=none
 bsz:X.base.objs.size<=X.s₀.heap.objs.size
 noex: ∀b o,X.base.get? b=some o->b ∉ X.ex
 exfs: ∀b∈X.ex,b ∉ X.fs
 funs:X.s₀.heap.FunFrames X.base X.outer
 frf: ∀b∈X.fs,X.H₀ b=none
structure Inv (X:Cx)(pins:List (Addr×Obj))(σ:List (Option V))(H:Hp)(s:Shared):Prop where
 ok:X.Ok
 os:s.os=X.s₀.os
 bare:AllBare s.gens
 base:Un X.fs X.ex X.H₀ H X.s₀.heap s.heap
 loc: ∃m,s.heap.Ns X.env.locals m/\ ∀(i:Nat) (x:Str) (v:V),X.N[i]? =some x->σ[i]? =some (some v)->Vis X.env.scope x-> ∃u,RelV v u/\Look X.env s.heap m x u
 cell: ∀x c,X.env.cells.lookup x=some c-> ∃v,s.heap.IsCell c v
 free:H X.env.locals=none
 freeC: ∀x c,X.env.cells.lookup x=some c->H c=none
 pin: ∀p∈X.pn++pins,s.heap.get? p.1=some p.2/\H p.1=none/\p.1≠X.env.locals/\p.1 ∉ X.fs/\ ∀v,p.2.data≠ .cell v
 hok:HOk X.prog X.w H s.heap
 len:σ.length=X.N.length
section
variable {X:Cx}{pins:List (Addr×Obj)}{σ:List (Option V)}{H H':Hp}{s:Shared}{h':Heap}
theorem Cx.Ok.nofr (ok:X.Ok){b:Addr}{o:Obj}(e:X.base.get? b=some o):b ∉ X.fs:=λhb=>by
 have:=(ok.funs.mem hb).1;rw[e]at this;cases this
theorem Inv.bs (I:Inv X pins σ H s): ∀b o,X.base.get? b=some o->s.heap.get? b=some o/\H b=none:=λb o e=>
 ⟨I.base.keep b o (I.ok.bs b o e).1 (I.ok.bs b o e).2 (I.ok.nofr e)<|I.ok.noex b o e,I.base.free b o (I.ok.bs b o e).1 (I.ok.bs b o e).2<|I.ok.noex b o e⟩
theorem Inv.bk (I:Inv X pins σ H s): ∀b o,X.base.get? b=some o->s.heap.get? b=some o:=λb o e=>(I.bs b o e).1
theorem Inv.mod (I:Inv X pins σ H s):Mod X.K X.mg X.base:=I.ok.mod
theorem Inv.kIn (I:Inv X pins σ H s):X.K.In s.heap:=I.ok.mod.kin.keeps I.bk
theorem Inv.nolimit (I:Inv X pins σ H s):s.heap.NoLimit:=I.ok.mod.nolimit.keeps I.bk
theorem Inv.lt (I:Inv X pins σ H s):X.env.locals<s.heap.objs.size:=let ⟨_,hn,_⟩:=I.loc;hn.lt
theorem Inv.sz (I:Inv X pins σ H s):X.s₀.heap.objs.size<=s.heap.objs.size:=aM I.ok.above (nS I.lt)
theorem Inv.nofs (I:Inv X pins σ H s){a:Addr}(h:s.heap.objs.size<=a):a ∉ X.fs:=λhb=>by
 obtain⟨_,o,ho,_⟩:=I.ok.funs.mem hb;exact absurd (aY (aT ho)<|aM I.sz h) (dI _)
theorem Inv.cne (I:Inv X pins σ H s): ∀x c,X.env.cells.lookup x=some c->c≠X.env.locals:=λx c e z=>by
 obtain⟨v,o,ho,hd⟩:=I.cell x c e;obtain⟨m,⟨o',es,ep,ho',hd',_⟩,_⟩:=I.loc;rw[z,ho']at ho;cases ho;rw[hd']at hd;cases hd
theorem Inv.funs (I:Inv X pins σ H s):s.heap.FunFrames X.base X.outer:=by
 have all: ∀(l:List Env),(∀b∈frs l,b∈X.fs)->X.s₀.heap.FunFrames X.base l->s.heap.FunFrames X.base l:=by
  intro l
  induction l with
  | nil=>intro _ _;trivial
  | cons env r ih=>
   intro hs hl;obtain⟨hk,⟨L,o,hf,hn,ho,hd⟩,hr⟩:=hl;have hL:L∈X.fs:=hs L (by unfold frs;rw[jT,hf];exact cO)
   obtain⟨sl,e⟩:=I.base.slot L o ho (I.ok.frf L hL) hL λz=>I.ok.exfs L z hL
   exact⟨hk,⟨L,_,hf,hn,e,hd⟩,ih (λb hb=>hs b (by unfold frs;rw[jT,hf];exact bH _ hb)) hr⟩
 exact all X.outer (λ_ hb=>hb) I.ok.funs
theorem Inv.stack (I:Inv X pins σ H s):s.heap.FunFrames X.base X.stack:=by
 rcases I.ok.stk with e| ⟨e,hf⟩
 ·rw[e];exact I.funs
 ·rw[e];obtain⟨m,hn,_⟩:=I.loc;refine .cons (by rw[I.ok.kind];decide) hf hn ?_ I.funs
  exact kT (aM I.ok.bsz I.ok.above)
theorem Inv.stkSub (I:Inv X pins σ H s): ∀b∈frs X.stack,b∈X.env.locals::X.fs:=λb hb=>by
 rcases I.ok.stk with e| ⟨e,hf⟩
 ·rw[e]at hb;exact bH _ hb
 ·rw[e]at hb;unfold frs at hb;rw[jT,hf]at hb;exact hb
theorem Inv.stkFree (I:Inv X pins σ H s): ∀b∈frs X.stack,H b=none:=λb hb=>by
 rcases aX.mp (I.stkSub b hb)with e|hb
 ·rw[e];exact I.free
 ·obtain⟨_,o,ho,_⟩:=I.ok.funs.mem hb;exact I.base.free b o ho (I.ok.frf b hb) λz=>I.ok.exfs b z hb
theorem Inv.step {g':Array GenState}{t':Nat}{d':Drawn}{ch:List Addr}(I:Inv X pins σ H s)
  (hch: ∀b∈ch,(b∈X.ex\/X.s₀.heap.objs.size<=b)/\b≠X.env.locals/\(∀x c,X.env.cells.lookup x=some c->c≠b)/\ ∀p∈X.pn++pins,p.1≠b)
  (keep: ∀b o,b≠X.env.locals->b ∉ X.fs->b ∉ ch->s.heap.get? b=some o->H b=none->h'.get? b=some o)
  (slot: ∀b o,b≠X.env.locals->b∈X.fs->b ∉ ch->s.heap.get? b=some o->H b=none-> ∃sl,h'.get? b=some {o with slots:=sl}) (free: ∀b o,b ∉ ch->s.heap.get? b=some o->H b=none->H' b=none)
  (there: ∀b o,b ∉ ch->s.heap.get? b=some o-> ∃o',h'.get? b=some o')
  (tups: ∀b xs,H b=some (.tup xs)->H' b=some (.tup xs)) (frzs: ∀b o u,H b=some (.frz o u)->H' b=some (.frz o u)) (tbls: ∀b ps,H b=some (.tbl ps)-> ∃more,H' b=some (.tbl<|ps++more))
  (ns: ∀m,s.heap.Ns X.env.locals m->h'.Ns X.env.locals m) (hok:HOk X.prog X.w H' h') (hg:AllBare g') :
  Inv X pins σ H' {s with heap:=h',gens:=g',drawn:=d',toks:=t'}:=by
 have neL: ∀b o,X.s₀.heap.get? b=some o->b≠X.env.locals:=λb o e=>bD (aY (aT e) I.ok.above)
 have neC: ∀b o,X.s₀.heap.get? b=some o->b ∉ X.ex->b ∉ ch:=λb o e hx hb=>by
  rcases(hch b hb).1 with z|z
  ·exact hx z
  ·exact absurd (aY (aT e) z) (dI _)
 have cellK: ∀x c,X.env.cells.lookup x=some c-> ∀v,s.heap.IsCell c v->h'.IsCell c v:=λx c e v ⟨o,ho,hd⟩=>by
  have nch:c ∉ ch:=λz=>(hch c z).2.2.1 x c e rfl
  by_cases hc:c∈X.fs
  ·obtain⟨sl,q⟩:=slot c o (I.cne x c e) hc nch ho (I.freeC x c e);exact⟨_,q,hd⟩
  ·exact⟨o,keep c o (I.cne x c e) hc nch ho<|I.freeC x c e,hd⟩
 refine⟨I.ok,I.os,hg,⟨λb o e n hb hx=> ?_,λb o e n hb hx=> ?_,λb o e n hx=> ?_,λb o e hx=> ?_,λb xs e=>tups b xs (I.base.tups b xs e),λb o xs e=>frzs b o xs (I.base.frzs b o xs e),λb ps e=> ?_⟩,?_,λx c e=> ?_,?_,λx c e=> ?_,λp hp=> ?_,hok,I.len⟩
 ·exact keep b o (neL b o e) hb (neC b o e hx) (I.base.keep b o e n hb hx) (I.base.free b o e n hx)
 ·obtain⟨sl,e1⟩:=I.base.slot b o e n hb hx;obtain⟨sl',e2⟩:=slot b _ (neL b o e) hb (neC b o e hx) e1 (I.base.free b o e n hx);exact⟨sl',e2⟩
 ·obtain⟨o',e1⟩:=I.base.there b o e hx;exact free b o' (neC b o e hx) e1 (I.base.free b o e n hx)
 ·obtain⟨o',e1⟩:=I.base.there b o e hx;exact there b o' (neC b o e hx) e1
 ·obtain⟨m1,e1⟩:=I.base.tbls b ps e;obtain⟨m2,e2⟩:=tbls b _ e1;exact⟨m1++m2,by rw[e2,Array.append_assoc]⟩
 ·obtain⟨m,hn,hl⟩:=I.loc;refine⟨m,ns m hn,λi x v e1 e2 e3=> ?_⟩
  obtain⟨u,r,l⟩:=hl i x v e1 e2 e3;refine⟨u,r,?_⟩;rcases l with l| ⟨k,c,e,z⟩
  ·exact .inl l
  ·exact .inr ⟨k,c,e,cellK x c e _ z⟩
 ·obtain⟨v,z⟩:=I.cell x c e;exact⟨v,cellK x c e v z⟩
 ·obtain⟨m,⟨o,_,_,ho,_⟩,_⟩:=I.loc;exact free _ o (λz=>(hch _ z).2.1 rfl) ho I.free
 ·obtain⟨v,o,ho,hd⟩:=I.cell x c e;exact free c o (λz=>(hch c z).2.2.1 x c e rfl) ho (I.freeC x c e)
 ·obtain⟨e,n,ne,nf,d⟩:=I.pin p hp;have nch:p.1 ∉ ch:=λz=>(hch p.1 z).2.2.2 p hp rfl
  exact⟨keep p.1 p.2 ne nf nch e n,free p.1 p.2 nch e n,ne,nf,d⟩
theorem Inv.un {t':Nat}(I:Inv X pins σ H s)(u:Un X.fs [] H H' s.heap h')(hok:HOk X.prog X.w H' h'):Inv X pins σ H' {s with heap:=h',toks:=t'}:=by
 obtain⟨m,⟨o,es,ep,ho,r⟩,_⟩:=id I.loc;obtain⟨sl,hL⟩:=u.any ho I.free ae
 exact I.step (g':=s.gens) (d':=s.drawn) (ch:=[]) (λ_ z=>nomatch z) (λb o _ hb _ e n=>u.keep b o e n hb ae) (λb o _ hb _ e n=>u.slot b o e n hb ae) (λb o _ e n=>u.free b o e n ae) (λb o _ e=>u.there b o e ae) u.tups u.frzs u.tbls (λm' hm=>by
  obtain⟨o',es',ep',ho',r'⟩:=hm;rw[ho]at ho';cases ho';exact⟨_,es',ep',hL,r'⟩) hok I.bare
theorem Inv.call {g':Array GenState}{t':Nat}{d':Drawn}{ch:List Addr}(I:Inv X pins σ H s)(u:Un (frs X.stack) ch H H' s.heap h')(hok:HOk X.prog X.w H' h')(hg:AllBare g')
  (hch: ∀b∈ch,(b∈X.ex\/X.s₀.heap.objs.size<=b)/\b≠X.env.locals/\(∀x c,X.env.cells.lookup x=some c->c≠b)/\ ∀p∈X.pn++pins,p.1≠b) :
  Inv X pins σ H' {s with heap:=h',gens:=g',drawn:=d',toks:=t'}:=by
 obtain⟨m,⟨o,es,ep,ho,r⟩,_⟩:=id I.loc;obtain⟨sl,hL⟩:=u.any ho I.free λz=>(hch _ z).2.1 rfl
 exact I.step (ch:=ch) hch (λb o hL hb hc e n=>u.keep b o e n (λz=>(aX.mp<|I.stkSub b z).elim hL hb) hc) (λb o _ _ hc e n=>u.any e n hc) (λb o hc e n=>u.free b o e n hc) (λb o hc e=>u.there b o e hc) u.tups u.frzs u.tbls (λm' hm=>by
  obtain⟨o',es',ep',ho',r'⟩:=hm;rw[ho]at ho';cases ho';exact⟨_,es',ep',hL,r'⟩) hok hg
theorem Inv.turned {t':Nat}{it:Addr}(I:Inv X pins σ H s)(k: ∀b o,b≠it->s.heap.get? b=some o->h'.get? b=some o)(hn:H it=none)(hL:it≠X.env.locals)
  (h1:it∈X.ex\/X.s₀.heap.objs.size<=it) (h2: ∀x c,X.env.cells.lookup x=some c->c≠it) (h3: ∀p∈X.pn++pins,p.1≠it):Inv X pins σ H {s with heap:=h',toks:=t'}:=by
 have nit: ∀b u,H b=some u->b≠it:=λb u e z=>by rw[z,hn]at e;cases e
 refine I.step (g':=s.gens) (d':=s.drawn) (ch:=[it]) (λb hb=> ?_) (λb o _ _ hc e _=>k b o (λz=>hc (by simp[z])) e) (λb o _ _ hc e _=>⟨o.slots,k b o (λz=>hc (by simp[z])) e⟩) (λ_ _ _ _ n=>n)
  (λb o hc e=>⟨o,k b o (λz=>hc (by simp[z])) e⟩) (λ_ _ e=>e) (λ_ _ _ e=>e) (λb ps e=>⟨#[],by rw[e];simp⟩) (λm hm=> ?_) (λb u e=> ?_) I.bare
 ·have e:b=it:=by simpa using hb
  subst e;exact⟨h1,hL,h2,h3⟩
 ·obtain⟨o,es,ep,ho,r⟩:=hm;exact⟨o,es,ep,k _ o (Ne.symm hL) ho,r⟩
 ·refine(I.hok b u e).stay (λc v hc q=>k c v ?_ q) (λ_ q=>q) λ_ _ q=>q
  rcases hc with z|z
  ·rw[z];exact nit b u e
  ·exact nit c _ z
theorem Inv.tok (I:Inv X pins σ H s)(t:Nat):Inv X pins σ H {s with toks:=t}:=I.un (h':=s.heap) (t':=t) Un.refl I.hok
theorem Inv.kept {t':Nat}(I:Inv X pins σ H s)(k: ∀b u,s.heap.get? b=some u->h'.get? b=some u):Inv X pins σ H {s with heap:=h',toks:=t'}:=I.un (Un.kept k) (I.hok.kept k)
theorem Inv.laid {a:Addr}{o:HO}{t':Nat}(I:Inv X pins σ H s)(k: ∀b u,s.heap.get? b=some u->h'.get? b=some u)(hp:s.heap.objs.size<=a)(new:rB X.prog X.w (upd H a o) h' a o) :
  Inv X pins σ (upd H a o) {s with heap:=h',toks:=t'}:=I.un (Un.laid k hp<|I.hok.fresh hp) (I.hok.laid k hp new)
theorem Inv.write {x e:Addr}{o:HO}{t':Nat}(I:Inv X pins σ H s)(mu:Mut (H x))(he:e=x\/H e=some (.own x))(k: ∀b u,b≠e->s.heap.get? b=some u->h'.get? b=some u)(heo: ∃u,h'.get? e=some u)
  (new:rB X.prog X.w (upd H x o) h' x o):Inv X pins σ (upd H x o) {s with heap:=h',toks:=t'}:=I.un (Un.write mu he k heo) (I.hok.write mu he k heo new)
theorem Inv.pins_of {pins':List (Addr×Obj)}(I:Inv X pins σ H s)(h: ∀p∈pins',s.heap.get? p.1=some p.2/\H p.1=none/\p.1≠X.env.locals/\p.1 ∉ X.fs/\ ∀v,p.2.data≠ .cell v):Inv X pins' σ H s:=
 ⟨I.ok,I.os,I.bare,I.base,I.loc,I.cell,I.free,I.freeC,λp hp=>(bM.mp hp).elim (λz=>I.pin p (tH _ z)) (h p),I.hok,I.len⟩
theorem c31 {N:List Str}(hN:N.Nodup){i j:Nat}{x:Str}(a:N[i]? =some x)(b:N[j]? =some x):i=j:=by
 obtain⟨h1,e1⟩:=kQ.mp a;obtain⟨h2,e2⟩:=kQ.mp b;exact(List.getElem_inj hN).mp (e1.trans e2.symm)
theorem cT2 {M:Model}{A:Around}{E:Value->Shared->Prop}{i:Nat}{x:Str}{v:V}{u:Value}{Q:Unit->Shared->Prop}(I:Inv X pins σ H s)(hN:X.N.Nodup)(hi:X.N[i]? =some x)(hx:Loc X.env.scope x)(r:RelV v u)
  (h: ∀s',Inv X pins (σ.set i<|some v) H s'->(∃a,SameBut a s.heap s'.heap/\(a=X.env.locals\/X.env.cells.lookup x=some a))->Q () s') (hf:X.fn x=true\/X.env.scope.names.lookup x=some .local:=by walk_at "z"):wpAny M A (storeName X.env x u) Q E s:=by
 obtain⟨m,hn,hl⟩:=id I.loc;have hcls:(X.env.scope.kind== .class||(X.env.scope.kind== .module&&X.env.locals != X.env.globals))=false:=by rw[I.ok.kind];rfl
 have hiσ:i<σ.length:=by rw[I.len];exact(kQ.mp hi).1
 have cne:=I.cne;have tracked: ∀{a:Addr} {h':Heap},(∃o,s.heap.get? a=some o/\H a=none)->SameBut a s.heap h'->HOk X.prog X.w H h':=λ{a h'} ha hs b ob e=>by
  obtain⟨_,_,hfree⟩:=ha;refine(I.hok b ob e).stay (λc w' hc q=>(hs.2 c ?_).trans q) (λ_ q=>q) λ_ _ q=>q
  rintro rfl;rcases hc with rfl|hc
  ·rw[hfree]at e;cases e
  ·rw[hfree]at hc;cases hc
 rcases hx with hk|hk
 ·refine wpAny_storeName_local hk hn (λh' hn' hs=> ?_) hcls
  obtain⟨oL,_,_,hoL,_⟩:=id hn;refine h _ ⟨I.ok,I.os,I.bare,⟨λb o e n hb hx=> ?_,λb o e n hb hx=> ?_,I.base.free,λb o e hx=> ?_,I.base.tups,I.base.frzs,I.base.tbls⟩,⟨_,hn',λj y v' e1 e2 e3=> ?_⟩,λy c e=> ?_,I.free,I.freeC,λp hp=> ?_,tracked ⟨oL,hoL,I.free⟩ hs,by simpa using I.len⟩ ⟨_,hs,.inl rfl⟩
  ·exact(hs.2 b<|bD<|aY (aT e) I.ok.above).trans (I.base.keep b o e n hb hx)
  ·obtain⟨sl,e1⟩:=I.base.slot b o e n hb hx;exact⟨sl,(hs.2 b<|bD<|aY (aT e) I.ok.above).trans e1⟩
  ·obtain⟨o',e1⟩:=I.base.there b o e hx;exact⟨o',(hs.2 b<|bD<|aY (aT e) I.ok.above).trans e1⟩
  ·by_cases hj:j=i
   ·subst hj;rw[hi]at e1;cases e1;rw[List.getElem?_set_self hiσ]at e2;cases e2;exact⟨u,r,.inl ⟨hk,ae⟩⟩
   ·rw[List.getElem?_set_ne<|Ne.symm hj]at e2;obtain⟨u',r',q⟩:=hl j y v' e1 e2 e3;refine⟨u',r',?_⟩;rcases q with⟨k,e⟩| ⟨k,c,e,z⟩
    ·refine .inl ⟨k,?_⟩
     have:y≠x:=λe=>hj (c31 hN e1<|e▸hi)
     simp[this,e]
    ·exact .inr ⟨k,c,e,z.sameBut hs<|cne y c e⟩
  ·obtain⟨w',z⟩:=I.cell y c e;exact⟨w',z.sameBut hs<|cne y c e⟩
  ·obtain⟨e,n,ne,nf,d⟩:=I.pin p hp;exact⟨(hs.2 p.1 ne).trans e,n,ne,nf,d⟩
 ·have hfn:X.fn x=true:=by
   rcases hf with z|z
   ·exact z
   ·rw[z]at hk;cases hk
  obtain⟨c,hc⟩:=I.ok.has x (.inl hk);obtain⟨w',z⟩:=I.cell x c hc;refine wpAny_storeName_cell I.ok.kind hk hc z (λh' hc' hs=> ?_)
  obtain⟨oc,hoc,hocd⟩:=id z;refine h {s with heap:=h'} ⟨I.ok,I.os,I.bare,⟨λb o e n hb hx=> ?_,λb o e n hb hx=> ?_,I.base.free,λb o e hx=> ?_,I.base.tups,I.base.frzs,I.base.tbls⟩,⟨m,hn.sameBut hs<|Ne.symm<|cne x c hc,λj y v' e1 e2 e3=> ?_⟩,λy c' e=> ?_,I.free,I.freeC,λp hp=> ?_,tracked ⟨oc,hoc,I.freeC x c hc⟩ hs,by simpa using I.len⟩ ⟨c,hs,.inr hc⟩
  ·exact(hs.2 b<|bD<|aY (aT e)<|I.ok.cab x c hfn hc).trans (I.base.keep b o e n hb hx)
  ·obtain⟨sl,e1⟩:=I.base.slot b o e n hb hx;exact⟨sl,(hs.2 b<|bD<|aY (aT e)<|I.ok.cab x c hfn hc).trans e1⟩
  ·obtain⟨o',e1⟩:=I.base.there b o e hx;exact⟨o',(hs.2 b<|bD<|aY (aT e)<|I.ok.cab x c hfn hc).trans e1⟩
  ·by_cases hj:j=i
   ·subst hj;rw[hi]at e1;cases e1;rw[List.getElem?_set_self hiσ]at e2;cases e2;exact⟨u,r,.inr ⟨.inl hk,c,hc,hc'⟩⟩
   ·rw[List.getElem?_set_ne<|Ne.symm hj]at e2;obtain⟨u',r',q⟩:=hl j y v' e1 e2 e3;refine⟨u',r',?_⟩;rcases q with q| ⟨k,c',e,z'⟩
    ·exact .inl q
    ·refine .inr ⟨k,c',e,z'.sameBut hs ?_⟩
     rintro rfl;exact hj (c31 hN e1<|I.ok.inj _ _ _ e hc▸hi)
  ·by_cases hcc:c'=c
   ·subst hcc;exact⟨_,hc'⟩
   ·obtain⟨w2,z2⟩:=I.cell y c' e;exact⟨w2,z2.sameBut hs hcc⟩
  ·obtain⟨e,n,ne,nf,d⟩:=I.pin p hp;refine⟨(hs.2 p.1 ?_).trans e,n,ne,nf,d⟩;intro q;rw[q,hoc]at e;have q':oc=p.2:=iF e;exact d w' (by rw[<-q'];exact hocd)
theorem xW {M:Model}{A:Around}{E:Value->Shared->Prop}{i:Nat}{x:Str}{v:V}{u:Value}{Q:Unit->Shared->Prop}(I:Inv X pins σ H s)(hN:X.N.Nodup)(hi:X.N[i]? =some x)(hx:Loc X.env.scope x)(r:RelV v u)
  (h: ∀s',Inv X pins (σ.set i<|some v) H s'->Q () s') (hf:X.fn x=true\/X.env.scope.names.lookup x=some .local:=by walk_at "z"):wpAny M A (storeName X.env x u) Q E s:=
 cT2 I hN hi hx r (λs' I' _=>h s' I') hf
theorem Inv.call' {s':Shared}{ch:List Addr}(I:Inv X pins σ H s)(ho:s'.os=s.os)(u:Un (frs X.stack) ch H H' s.heap s'.heap)(hok:HOk X.prog X.w H' s'.heap)(hg:AllBare s'.gens)
  (hch: ∀b∈ch,(b∈X.ex\/X.s₀.heap.objs.size<=b)/\b≠X.env.locals/\(∀x c,X.env.cells.lookup x=some c->c≠b)/\ ∀p∈X.pn++pins,p.1≠b):Inv X pins σ H' s':=by
 obtain⟨h',g',d',t',o'⟩:=s';have e:o'=s.os:=ho;subst e;exact I.call (g':=g') (t':=t') (d':=d') u hok hg hch
end
abbrev XK:=Value->Option Addr->Hp->Prop
abbrev St:=List (Option V)
abbrev VK:=V->Hp->Prop
abbrev TE:=St->Hp->VK->Prop
abbrev TT:=St->Hp->(Bool->Hp->Prop)->Prop
abbrev TA:=St->Hp->(List V->Hp->Prop)->Prop
structure bJ9 where
 nx:St->Hp->Prop
 rt:VK
 bk:St->Hp->Prop:=λ_ _=>False
 ct:St->Hp->Prop:=λ_ _=>False
abbrev TS:=bJ9->St->Hp->Prop
def EP (X:Cx)(pins:List (Addr×Obj))(σ:St)(Q:VK)(u:Value)(s':Shared):Prop:= ∃v H',Inv X pins σ H' s'/\RelV v u/\Q v H'
def TP (X:Cx)(pins:List (Addr×Obj))(σ:St)(Q:Bool->Hp->Prop)(b:Bool)(s':Shared):Prop:= ∃H',Inv X pins σ H' s'/\Q b H'
def AP (X:Cx)(pins:List (Addr×Obj))(σ:St)(Q:List V->Hp->Prop)(us:List Value)(s':Shared):Prop:= ∃vs H',Inv X pins σ H' s'/\Vals vs us/\Q vs H'
def SP (X:Cx)(pins:List (Addr×Obj))(D:bJ9)(f:Flow)(s':Shared):Prop:=
 match f with
 | .next=> ∃σ' H',Inv X pins σ' H' s'/\D.nx σ' H'
 | .brk=> ∃σ' H',Inv X pins σ' H' s'/\D.bk σ' H'
 | .cont=> ∃σ' H',Inv X pins σ' H' s'/\D.ct σ' H'
 | .ret u=> ∃v σ' H',Inv X pins σ' H' s'/\RelV v u/\D.rt v H'
def PE (X:Cx)(e:Expr)(t:TE):Prop:=
 ∀(pins:List (Addr×Obj)) (s:Shared) (σ:St) (H:Hp) (Q:VK),Inv X pins σ H s->t σ H Q->wpAny (model X.prog X.w) X.A (eval e X.env) (EP X pins σ Q) X.xe s
def PT (X:Cx)(e:Expr)(t:TT):Prop:=
 ∀(pins:List (Addr×Obj)) (s:Shared) (σ:St) (H:Hp) (Q:Bool->Hp->Prop),Inv X pins σ H s->t σ H Q->wpAny (model X.prog X.w) X.A (isTrue e X.env<|eval e X.env) (TP X pins σ Q) X.xe s
def PW (X:Cx)(e:Expr)(t:TT):Prop:=
 ∀(whole:Sem Value) (pins:List (Addr×Obj)) (s:Shared) (σ:St) (H:Hp) (Q:Bool->Hp->Prop),Inv X pins σ H s->t σ H Q->wpAny (model X.prog X.w) X.A (isTrue e X.env whole) (TP X pins σ Q) X.xe s
theorem PW.pt {X:Cx}{e:Expr}{t:TT}(h:PW X e t):PT X e t:=h _
def PA (X:Cx)(es:List Expr)(t:TA):Prop:=
 ∀(pos:Pos) (pins:List (Addr×Obj)) (s:Shared) (σ:St) (H:Hp) (Q:List V->Hp->Prop),Inv X pins σ H s->t σ H Q->wpAny (model X.prog X.w) X.A (spliced<|backTo pos<|starEach es X.env) (AP X pins σ Q) X.xe s
def PS (X:Cx)(st:Stmt)(t:TS):Prop:=
 ∀(pins:List (Addr×Obj)) (s:Shared) (σ:St) (H:Hp) (D:bJ9),Inv X pins σ H s->t D σ H->wpAny (model X.prog X.w) X.A (exec st X.env) (SP X pins D) X.xe s
def PSs (X:Cx)(st:List Stmt)(t:TS):Prop:=
 ∀(pins:List (Addr×Obj)) (s:Shared) (σ:St) (H:Hp) (D:bJ9),Inv X pins σ H s->t D σ H->wpAny (model X.prog X.w) X.A (execs st X.env) (SP X pins D) X.xe s
theorem thn {α:Type}{t:Sem α}{Q Q':α->Shared->Prop}{M:Model}{A:Around}{E:Value->Shared->Prop}{s:Shared}(h:wpAny M A t Q E s)(hQ: ∀a s,Q a s->Q' a s):wpAny M A t Q' E s:=bG h hQ λ_ _ x=>x
end L2
namespace L2
open PySem PySem.Spec PyProof.Rows
section
variable {X:Cx}
def aG3 (i:Nat):TE:=λσ H Q=> ∃v,σ[i]? =some (some v)/\Q v H
def tC (v:V):TE:=λ_ H Q=>Q v H
theorem pe_var {i:Nat}{x:Str}{pos:Pos}(hN:X.N[i]? =some x)(hv:Vis X.env.scope x)(hd:(x==("__debug__":Str))=false:=by decide)(hcd:(x==("__classdict__":Str))=false:=by decide):PE X (.Name x pos) (aG3 i):=by
 intro pins s σ H Q I h;obtain⟨v,e,h⟩:=h;obtain⟨m,hn,hl⟩:=I.loc;obtain⟨u,r,l⟩:=hl i x v hN e hv;have fin:EP X pins σ Q u s:=⟨v,H,I,r,h⟩;rcases l with⟨hk,hm⟩| ⟨hk,c,hc,hcell⟩
 ·exact nT (pL I.ok.kind hk hn hm fin) hd
 ·rcases hk with hk|hk
  ·exact nT (wpAny_loadName_cell I.ok.kind hk hc hcell fin) hd
  ·exact nT (wpAny_loadName_free I.ok.kind hk hc hcell fin hcd) hd
theorem pe_int {i j pos}:PE X (.Constant (.int i) j pos) (tC<|.int i):=λ_ _ _ H _ I h=>wpAny_Constant_int ⟨.int i,H,I.tok _,⟨_,rfl⟩,h⟩
theorem pe_bl {b j pos}:PE X (.Constant (.bool b) j pos) (tC<|.bl b):=λ_ _ _ H _ I h=>Constant_bool ⟨.bl b,H,I,rfl,h⟩
theorem pe_non {j pos}:PE X (.Constant .none j pos) (tC .non):=λ_ _ _ H _ I h=>Constant_none ⟨.non,H,I,rfl,h⟩
theorem pe_str {x j pos}:PE X (.Constant (.str x) j pos) (tC<|.str x):=λ_ _ _ H _ I h=>Calls.Constant_str ⟨.str x,H,I.tok _,⟨_,rfl⟩,h⟩
def Gl (X:Cx)(x:Str):Prop:=X.env.kindOf x=some .globalImplicit
theorem vK {E:Value->Shared->Prop}{pins:List (Addr×Obj)}{s:Shared}{σ:St}{H:Hp}{x:Str}{u:Value}{pos:Pos}{Q:Value->Shared->Prop}(I:Inv X pins σ H s)(hg:Gl X x)(hm:X.mg x=some u)(h:Q u s)
  (hd:(x==("__debug__":Str))=false:=by decide):wpAny (model X.prog X.w) X.A (eval (.Name x pos) X.env) Q E s:=
 Calls.Name_function_global I.ok.kind hg (Calls.loadGlobal_global (by rw[I.ok.glob];exact I.mod.glob.keeps I.bk) hm h) hd
theorem u4 {E:Value->Shared->Prop}{pins:List (Addr×Obj)}{s:Shared}{σ:St}{H:Hp}{x:Str}{u:Value}{pos:Pos}{Q:Value->Shared->Prop}(I:Inv X pins σ H s)(hg:Gl X x)(hm:X.mg x=none)(hv:bootBuiltins x=some u)(h:Q u s)
  (hn:x≠"__name__":=by decide) (hd:(x==("__debug__":Str))=false:=by decide):wpAny (model X.prog X.w) X.A (eval (.Name x pos) X.env) Q E s:=by
 obtain⟨mb,h1,h2⟩:=I.mod.blt;exact Calls.Name_function_global I.ok.kind hg (Calls.loadGlobal_builtin (by rw[I.ok.glob];exact I.mod.glob.keeps I.bk) hm (by rw[I.ok.blt];exact h1.keeps I.bk) ((h2 x hn).trans hv) h) hd
theorem cN1 {x:Str}{v:V}{u:Value}{pos:Pos}(hg:Gl X x)(hm:X.mg x=some u)(r:RelV v u)(hd:(x==("__debug__":Str))=false:=by decide):PE X (.Name x pos) (tC v):=
 λ_ _ _ H _ I h=>vK I hg hm ⟨v,H,I,r,h⟩ hd
theorem dF0 {x:Str}{v:V}{u:Value}{pos:Pos}(hg:Gl X x)(hm:X.mg x=none)(hv:bootBuiltins x=some u)(r:RelV v u)(hn:x≠"__name__":=by decide)(hd:(x==("__debug__":Str))=false:=by decide):PE X (.Name x pos) (tC v):=
 λ_ _ _ H _ I h=>u4 I hg hm hv ⟨v,H,I,r,h⟩ hn hd
variable {a b:Expr}{ta tb:TE}{pos:Pos}
def PC (X:Cx)(op:CmpOp)(a b:Expr)(t:TE):Prop:=
 ∀(pins:List (Addr×Obj)) (s:Shared) (σ:St) (H:Hp) (Q:VK),Inv X pins σ H s->t σ H Q->
  wpAny (model X.prog X.w) X.A (eval a X.env) (λv s₁=>wpAny (model X.prog X.w) X.A (eval b X.env) (λu s₂=>wpAny (model X.prog X.w) X.A (compareOp op v u) (EP X pins σ Q) X.xe s₂) X.xe s₁) X.xe s
theorem d00 (b:Expr){op:CmpOp}(h:op≠ .In)(h2:op≠ .NotIn):behindInMarks op b=false:=by
 have e1:(op==CmpOp.In)=false:=by cases op<;>first|rfl|exact absurd rfl h
 have e2:(op==CmpOp.NotIn)=false:=by cases op<;>first|rfl|exact absurd rfl h2
 cases b<;>simp[behindInMarks,e1,e2]
def tIsN (ta:TE):TE:=λσ H Q=>ta σ H λx H1=>Q (.bl<|decide (x= .non)) H1
def dQ3 (ta:TE):TE:=λσ H Q=>ta σ H λx H1=>Q (.bl<|!decide (x= .non)) H1
theorem RelV.none_iff {x:V}{v:Value}(r:RelV x v):(v==Value.none)=decide (x= .non):=by
 cases x with
 | non=>cases r;rfl
 | bl _=>cases r;rfl
 | int _=>obtain⟨t,rfl⟩:=r;rfl
 | str _=>obtain⟨t,rfl⟩:=r;rfl
 | byt _=>obtain⟨t,rfl⟩:=r;rfl
 | flt _=>obtain⟨t,rfl⟩:=r;rfl
 | ref _=>cases r;rfl
 | ty _=>cases r;rfl
theorem pc_isN {j pos'}(ha:PE X a ta):PC X .Is a (.Constant .none j pos') (tIsN ta):=by
 intro pins s σ H Q I h;refine thn (ha pins s σ H _ I h) λv s1 ⟨x,H1,I1,r1,q1⟩=> ?_
 exact Constant_none (is_none_gen ⟨.bl _,H1,I1,by rw[r1.none_iff];rfl,q1⟩)
theorem dF1 {j pos'}(ha:PE X a ta):PC X .IsNot a (.Constant .none j pos') (dQ3 ta):=by
 intro pins s σ H Q I h;refine thn (ha pins s σ H _ I h) λv s1 ⟨x,H1,I1,r1,q1⟩=> ?_
 exact Constant_none (isnot_none_gen ⟨.bl _,H1,I1,by rw[r1.none_iff];rfl,q1⟩)
def tB (t:TE):TT:=λσ H Q=>t σ H λx H1=> ∃c,x= .bl c/\Q c H1
theorem d01 {op:CmpOp}{t:TE}(h:PC X op a b t)(h1:behindInMarks op b=false:=by first|exact d00 _ ac ac|rfl):PT X (.Compare a [op] [b] pos) (tB t):=by
 intro pins s σ H Q I hw;refine wpAny_isTrue_Compare1 (thn (h pins s σ H _ I hw) λv s1 h1=>thn h1 λu s2 h2=>thn h2 λc s3 ⟨x,H1,I1,r1,q1⟩=> ?_) h1
 obtain⟨d,rfl,q⟩:=q1;cases r1;exact kU ⟨H1,I1,q⟩
theorem pt_val {e:Expr}{t:TE}(h:PE X e t)(he: ∀whole,isTrue e X.env whole=(do let v<-whole;standAt e.pos;holding [v] (truthy v)):=by intro _;rfl):PT X e (tB t):=by
 intro pins s σ H Q I hw;refine isTrue_plain (thn (h pins s σ H _ I hw) λv s1 ⟨x,H1,I1,r1,q1⟩=> ?_) (he _)
 obtain⟨d,rfl,q⟩:=q1;cases r1;exact kU ⟨H1,I1,q⟩
variable {tA tB':TT}{rT:List Expr}
def tAnd (t u:TT):TT:=λσ H Q=>t σ H λc H1=>if c=true then u σ H1 Q else Q false H1
def tOr (t u:TT):TT:=λσ H Q=>t σ H λc H1=>if c=true then Q true H1 else u σ H1 Q
def tNot (t:TT):TT:=λσ H Q=>t σ H λc H1=>Q (!c) H1
theorem dF2 (ha:PT X a tA):PW X (.BoolOp .And [a] pos) tA:=by
 intro wh pins s σ H Q I h;refine isTrue_and (thn (ha pins s σ H Q I h) λc s1 e=> ?_)
 cases c with
 | true=>exact isTrue_and_nil e
 | false=>exact e
theorem pw_or1 (ha:PT X a tA):PW X (.BoolOp .Or [a] pos) tA:=by
 intro wh pins s σ H Q I h;refine isTrue_or (thn (ha pins s σ H Q I h) λc s1 e=> ?_)
 cases c with
 | false=>exact isTrue_or_nil e
 | true=>exact e
theorem pw_and (ha:PT X a tA)(hb:PW X (.BoolOp .And (b::rT) pos) tB'):PW X (.BoolOp .And (a::b::rT) pos) (tAnd tA tB'):=by
 intro wh pins s σ H Q I h;refine isTrue_and (thn (ha pins s σ H _ I h) λc s1 ⟨H1,I1,q1⟩=> ?_)
 cases c with
 | true=>exact hb wh pins s1 σ H1 Q I1 q1
 | false=>exact⟨H1,I1,q1⟩
theorem pw_or (ha:PT X a tA)(hb:PW X (.BoolOp .Or (b::rT) pos) tB'):PW X (.BoolOp .Or (a::b::rT) pos) (tOr tA tB'):=by
 intro wh pins s σ H Q I h;refine isTrue_or (thn (ha pins s σ H _ I h) λc s1 ⟨H1,I1,q1⟩=> ?_)
 cases c with
 | true=>exact⟨H1,I1,q1⟩
 | false=>exact hb wh pins s1 σ H1 Q I1 q1
theorem pt_not (ha:PT X a tA):PT X (.UnaryOp .Not a pos) (tNot tA):=by
 intro pins s σ H Q I h;exact isTrue_not (ha pins s σ H (λc H1=>Q (!c) H1) I h)
def tAndV (ta tb:TE):TE:=λσ H Q=>ta σ H λx H1=> ∃c,x= .bl c/\if c=true then tb σ H1 Q else Q (.bl false) H1
def tOrV (ta tb:TE):TE:=λσ H Q=>ta σ H λx H1=> ∃c,x= .bl c/\if c=true then Q (.bl true) H1 else tb σ H1 Q
def tNotV (ta:TE):TE:=λσ H Q=>ta σ H λx H1=> ∃c,x= .bl c/\Q (.bl<|!c) H1
theorem pe_one {op}{t:TE}(h:PE X a t):PE X (.BoolOp op [a] pos) t:=λpins s σ H Q I hw=>BoolOp_one (h pins s σ H Q I hw)
theorem pe_and (ha:PE X a ta)(hb:PE X (.BoolOp .And (b::rT) pos) tb):PE X (.BoolOp .And (a::b::rT) pos) (tAndV ta tb):=by
 intro pins s σ H Q I h;refine BoolOp_and (thn (ha pins s σ H _ I h) λv s1 ⟨x,H1,I1,r1,q1⟩=> ?_)
 obtain⟨c,rfl,q1⟩:=q1;cases r1;refine kU ?_;cases c with
 | true=>exact hb pins s1 σ H1 Q I1 q1
 | false=>exact⟨.bl false,H1,I1,rfl,q1⟩
theorem pe_or (ha:PE X a ta)(hb:PE X (.BoolOp .Or (b::rT) pos) tb):PE X (.BoolOp .Or (a::b::rT) pos) (tOrV ta tb):=by
 intro pins s σ H Q I h;refine BoolOp_or (thn (ha pins s σ H _ I h) λv s1 ⟨x,H1,I1,r1,q1⟩=> ?_)
 obtain⟨c,rfl,q1⟩:=q1;cases r1;refine kU ?_;cases c with
 | false=>exact hb pins s1 σ H1 Q I1 q1
 | true=>exact⟨.bl true,H1,I1,rfl,q1⟩
theorem pe_not (ha:PE X a ta):PE X (.UnaryOp .Not a pos) (tNotV ta):=by
 intro pins s σ H Q I h;refine UnaryOp_ (thn (ha pins s σ H _ I h) λv s1 ⟨x,H1,I1,r1,q1⟩=> ?_)
 obtain⟨c,rfl,q1⟩:=q1;cases r1;exact not_of (kU ⟨.bl<|!c,H1,I1,rfl,q1⟩)
def tIf (t:TT)(ta tb:TE):TE:=λσ H Q=>t σ H λc H1=>if c=true then ta σ H1 Q else tb σ H1 Q
theorem d02 {c:Expr}(hc:PT X c tA)(ha:PE X a ta)(hb:PE X b tb):PE X (.IfExp c a b pos) (tIf tA ta tb):=by
 intro pins s σ H Q I h;refine wpAny_IfExp (thn (hc pins s σ H _ I h) λd s1 ⟨H1,I1,q1⟩=> ?_)
 cases d with
 | true=>exact ha pins s1 σ H1 Q I1 q1
 | false=>exact hb pins s1 σ H1 Q I1 q1
end
end L2
namespace L2
open PySem PySem.Spec PyProof.Rows
def SqL (K:Frag)(H:Hp)(a:Addr)(xs:List V):Prop:=
 Rd H a (.lst xs)\/
  ∃(o:Obj) (its:Array Value) (n:Nat),K.lookup a=some o/\o.cls= .type "list"/\o.dict=none/\o.data= .seq its n/\its.size<=sizeLine/\Vals xs its.toList
def SqT (K:Frag)(H:Hp)(a:Addr)(xs:List V):Prop:=
 Rd H a (.tup xs)\/
  ∃(o:Obj) (its:Array Value) (n:Nat),K.lookup a=some o/\o.cls= .type "tuple"/\o.data= .seq its n/\its.size<=sizeLine/\Vals xs its.toList
noncomputable def absV:Value->Option V
 | .none=>some .non
 | .bool b=>some (.bl b)
 | .int i _=>some (.int i)
 | .str x _=>some (.str x)
 | .bytes b _=>some (.byt b)
 | .float b _=>some (.flt b)
 | .ref a=>some (.ref a)
 | .type n=>some (.ty n)
 | _=>none
theorem RelV.abs {x:V}{u:Value}(r:RelV x u):absV u=some x:=by
 cases x with
 | non=>cases r;rfl
 | bl _=>cases r;rfl
 | int _=>obtain⟨t,rfl⟩:=r;rfl
 | str _=>obtain⟨t,rfl⟩:=r;rfl
 | byt _=>obtain⟨t,rfl⟩:=r;rfl
 | flt _=>obtain⟨t,rfl⟩:=r;rfl
 | ref _=>cases r;rfl
 | ty _=>cases r;rfl
theorem RelV.inj {x y:V}{u:Value}(r:RelV x u)(q:RelV y u):x=y:=iF (r.abs.symm.trans q.abs)
theorem Vals.inj: ∀{xs ys:List V} {us:List Value},Vals xs us->Vals ys us->xs=ys
 | _,_,_,.nil,.nil=>rfl
 | _,_,_,.cons r t,.cons r' t'=>by rw[r.inj r',Vals.inj t t']
section
variable {X:Cx}{pins:List (Addr×Obj)}{σ:St}{H:Hp}{s:Shared}{a:Addr}{xs ys:List V}
theorem SqL.of {K:Frag}(h:H a=some (.lst xs)):SqL K H a xs:= .inl (.inl h)
theorem Inv.list (I:Inv X pins σ H s)(h:SqL X.K H a xs): ∃its:List Value,Vals xs its/\PlainL s.heap a its.toArray/\xs.length<=sizeLine:=by
 rcases h with h| ⟨o,its,n,hk,hc,hd,hs,hz,r⟩
 ·obtain⟨z,its,n,r,e⟩:=h.ok I.hok;exact⟨its,r,⟨_,n,e,rfl,rfl,rfl⟩,z⟩
 ·refine⟨its.toList,r,⟨o,n,I.kIn a o hk,hc,hd,by simpa using hs⟩,?_⟩
  have e:=r.length;simp only[aM0]at e
  lia
theorem Inv.tuple (I:Inv X pins σ H s)(h:SqT X.K H a xs): ∃its:List Value,Vals xs its/\IsTup s.heap a its.toArray/\xs.length<=sizeLine:=by
 rcases h with h| ⟨o,its,n,hk,hc,hs,hz,r⟩
 ·obtain⟨z,its,r,p⟩:=h.ok I.hok;exact⟨its,r,p,z⟩
 ·refine⟨its.toList,r,⟨o,I.kIn a o hk,hc,n,by simpa using hs⟩,?_⟩
  have e:=r.length;simp only[aM0]at e
  lia
theorem Inv.list_inj (I:Inv X pins σ H s)(h:SqL X.K H a xs)(h':SqL X.K H a ys):xs=ys:=by
 obtain⟨its,r,⟨o,n,e,_,_,d⟩,_⟩:=I.list h;obtain⟨its',r',⟨o',n',e',_,_,d'⟩,_⟩:=I.list h';rw[e]at e';cases e';rw[d]at d'
 injection d' with d1 _
 have:its=its':=by simpa using dO toList d1
 subst this;exact r.inj r'
theorem Inv.tuple_inj (I:Inv X pins σ H s)(h:SqT X.K H a xs)(h':SqT X.K H a ys):xs=ys:=by
 obtain⟨its,r,⟨o,e,_,n,d⟩,_⟩:=I.tuple h;obtain⟨its',r',⟨o',e',_,n',d'⟩,_⟩:=I.tuple h';rw[e]at e';cases e';rw[d]at d'
 injection d' with d1 _
 have:its=its':=by simpa using dO toList d1
 subst this;exact r.inj r'
end
noncomputable abbrev Cx.wish (X:Cx)(E:Value->Shared->Prop):Cx:={X with xe:=E}
noncomputable abbrev Cx.nox (X:Cx):Cx:=X.wish λ_ _=>False
theorem Cx.Ok.wish {X:Cx}(ok:X.Ok)(E:Value->Shared->Prop):(X.wish E).Ok:=
 ⟨ok.mod,ok.kind,ok.glob,ok.blt,ok.above,ok.inj,ok.has,ok.cab,ok.hd,ok.frames,ok.stk,ok.exf,ok.bs,ok.bsz,ok.noex,ok.exfs,ok.funs,ok.frf⟩
theorem Cx.Ok.unwish {X:Cx}{E:Value->Shared->Prop}(ok:(X.wish E).Ok):X.Ok:=
 ⟨ok.mod,ok.kind,ok.glob,ok.blt,ok.above,ok.inj,ok.has,ok.cab,ok.hd,ok.frames,ok.stk,ok.exf,ok.bs,ok.bsz,ok.noex,ok.exfs,ok.funs,ok.frf⟩
section
variable {X:Cx}{pins:List (Addr×Obj)}{σ:St}{H:Hp}{s:Shared}{E:Value->Shared->Prop}
theorem Inv.wish (I:Inv X pins σ H s)(E:Value->Shared->Prop):Inv (X.wish E) pins σ H s:=⟨I.ok.wish E,I.os,I.bare,I.base,I.loc,I.cell,I.free,I.freeC,I.pin,I.hok,I.len⟩
theorem Inv.unwish (I:Inv (X.wish E) pins σ H s):Inv X pins σ H s:=⟨I.ok.unwish,I.os,I.bare,I.base,I.loc,I.cell,I.free,I.freeC,I.pin,I.hok,I.len⟩
theorem SP.unwish {D:bJ9}{f:Flow}{s':Shared}(h:SP (X.wish E) pins D f s'):SP X pins D f s':=by
 cases f with
 | next=>obtain⟨σ',H',I,q⟩:=h;exact⟨σ',H',I.unwish,q⟩
 | brk=>obtain⟨σ',H',I,q⟩:=h;exact⟨σ',H',I.unwish,q⟩
 | cont=>obtain⟨σ',H',I,q⟩:=h;exact⟨σ',H',I.unwish,q⟩
 | ret u=>obtain⟨v,σ',H',I,r,q⟩:=h;exact⟨v,σ',H',I.unwish,r,q⟩
theorem PSs.nox {st:List Stmt}{t:TS}(h:PSs X.nox st t):PSs X st t:=λpins s σ H D I hw=>
 bG (h pins s σ H D (I.wish _) hw) (λ_ _ q=>q.unwish) λ_ _ z=>False.elim z
end
section
variable {X:Cx}{st:Stmt}{rT:List Stmt}{t u:TS}{e:Expr}{te:TE}{pos:Pos}
def tNext:TS:=λD σ H=>D.nx σ H
def tSeq (t u:TS):TS:=λD σ H=>t {D with nx:=u D} σ H
theorem dF3:PSs X [] tNext:=λ_ _ σ H _ I h=>nL ⟨σ,H,I,h⟩
theorem xX (h1:PS X st t)(h2:PSs X rT u):PSs X (st::rT) (tSeq t u):=by
 intro pins s σ H D I h;refine tN (thn (h1 pins s σ H {D with nx:=u D} I h) λf s1 q=> ?_)
 cases f with
 | next=>
  obtain⟨σ',H',I',q⟩:=q;exact h2 pins s1 σ' H' D I' q
 | ret v=>exact q
 | brk=>exact q
 | cont=>exact q
theorem bT6 (h1:PS X st t):PSs X [st] t:=by
 intro pins s σ H D I h;refine tN (thn (h1 pins s σ H D I h) λf s1 q=> ?_)
 cases f with
 | next=>exact nL q
 | ret v=>exact q
 | brk=>exact q
 | cont=>exact q
theorem Inv.quiet {pins:List (Addr×Obj)}{σ:St}{H:Hp}{s:Shared}(I:Inv X pins σ H s):interactive X.env=false:=by simp[interactive,I.ok.kind]
def tDrop (te:TE):TS:=λD σ H=>te σ H λ_ H1=>D.nx σ H1
theorem b70 (he:PE X e te)(hs:swapsWith e none pos.line X.env=pure false:=by rfl):PS X (.Expr e pos) (tDrop te):=by
 intro pins s σ H D I h;exact wpAny_Expr_any (thn (he pins s σ H _ I h) λv s1 ⟨x,H1,I1,r1,q1⟩=>⟨σ,H1,I1,q1⟩) I.quiet hs
def tRet (te:TE):TS:=λD σ H=>te σ H D.rt
theorem d03 (he:PE X e te):PS X (.Return (some e) pos) (tRet te):=by
 intro pins s σ H D I h;exact wpAny_Return_some (thn (he pins s σ H _ I h) λv s1 ⟨x,H1,I1,r1,q1⟩=>⟨x,σ,H1,I1,r1,q1⟩)
def tIfS (c:TT)(t u:TS):TS:=λD σ H=>c σ H λb H1=>if b=true then t D σ H1 else u D σ H1
theorem dQ4 {c:Expr}{a b:List Stmt}{tc:TT}(hc:PT X c tc)(ha:PSs X a t)(hb:PSs X b u):PS X (.If c a b pos) (tIfS tc t u):=by
 intro pins s σ H D I h;refine wpAny_If (thn (hc pins s σ H _ I h) λd s1 ⟨H1,I1,q1⟩=> ?_)
 cases d with
 | true=>exact ha pins s1 σ H1 D I1 q1
 | false=>exact hb pins s1 σ H1 D I1 q1
def tNever:TS:=λ_ _ _=>False
theorem d04:PS X st tNever:=λ_ _ _ _ _ _ h=>h.elim
end
abbrev TG:=V->St->Hp->(St->Hp->Prop)->Prop
abbrev TGs:=List V->St->Hp->(St->Hp->Prop)->Prop
def PG (X:Cx)(target:Expr)(t:TG):Prop:=
 ∀(pins:List (Addr×Obj)) (s:Shared) (σ:St) (H:Hp) (v:V) (u:Value) (Q:St->Hp->Prop),Inv X pins σ H s->RelV v u->t v σ H Q->
  wpAny (model X.prog X.w) X.A (assign target X.env u) (λ_ s'=> ∃σ' H',Inv X pins σ' H' s'/\Q σ' H') X.xe s
def PGs (X:Cx)(ts:List Expr)(t:TGs):Prop:=
 ∀(pins:List (Addr×Obj)) (s:Shared) (σ:St) (H:Hp) (vs:List V) (us:List Value) (Q:St->Hp->Prop),Inv X pins σ H s->Vals vs us->t vs σ H Q->
  wpAny (model X.prog X.w) X.A (assignInOrder ((assignEach ts X.env).map (·.2)) us) (λ_ s'=> ∃σ' H',Inv X pins σ' H' s'/\Q σ' H') X.xe s
abbrev d05:=V->V->V->Hp->(Hp->Prop)->Prop
def PSet (X:Cx)(t:d05):Prop:=
 ∀(pins:List (Addr×Obj)) (s:Shared) (σ:St) (H:Hp) (o i v:V) (ov iv u:Value) (Q:Hp->Prop),Inv X pins σ H s->RelV o ov->RelV i iv->RelV v u->t o i v H Q->
  wpAny (model X.prog X.w) X.A (setItem ov iv u) (λ_ s'=> ∃H',Inv X pins σ H' s'/\Q H') X.xe s
abbrev TIp:=V->V->Hp->VK->Prop
def PIp (X:Cx)(op:Operator)(t:TIp):Prop:=
 ∀(pins:List (Addr×Obj)) (s:Shared) (σ:St) (H:Hp) (x y:V) (v u:Value) (Q:VK),Inv X pins σ H s->RelV x v->RelV y u->t x y H Q->
  wpAny (model X.prog X.w) X.A (inplaceOp op v u) (EP X pins σ Q) X.xe s
section
variable {X:Cx}{pos:Pos}
def aR6 (i:Nat):TG:=λv σ H Q=>Q (σ.set i<|some v) H
theorem cL {i:Nat}{x:Str}(hN:X.N.Nodup)(hi:X.N[i]? =some x)(hx:Loc X.env.scope x)(hf:X.fn x=true\/X.env.scope.names.lookup x=some .local:=by walk_at "z"):PG X (.Name x pos) (aR6 i):=by
 intro pins s σ H v u Q I r h;exact wpAny_assign_Name (xW I hN hi hx r (λs' I'=>⟨_,H,I',h⟩) hf)
def gNil:TGs:=λvs σ H Q=>vs=[]/\Q σ H
def gCons (t:TG)(u:TGs):TGs:=λvs σ H Q=> ∃v r,vs=v::r/\t v σ H λσ' H'=>u r σ' H' Q
theorem dF4:PGs X [] gNil:=by
 intro pins s σ H vs us Q I r h;obtain⟨e,h⟩:=h;subst e;cases r;exact assignInOrder_nil ⟨σ,H,I,h⟩
theorem d06 {e:Expr}{es:List Expr}{t:TG}{u:TGs}(h1:PG X e t)(h2:PGs X es u)
  (hs:(assignEach (e::es) X.env).map (·.2)=assign e X.env::(assignEach es X.env).map (·.2):=by rfl):PGs X (e::es) (gCons t u):=by
 intro pins s σ H vs us Q I r h;obtain⟨v,vr,e1,h⟩:=h;subst e1;cases r with
 | cons r rr=>
  rw[hs];refine aM3 (thn (h1 pins s σ H _ _ _ I r h) λ_ s1 ⟨σ1,H1,I1,q1⟩=> ?_)
  exact h2 pins s1 σ1 H1 _ _ Q I1 rr q1
def gTup (K:Frag)(n:Nat)(t:TGs):TG:=λv σ H Q=> ∃a xs,v= .ref a/\SqT K H a xs/\xs.length=n/\t xs σ H Q
theorem pg_tup {es:List Expr}{k:Nat}{t:TGs}{n:Nat}(hc:X.calm=true)(h:PGs X es t)
  (hn:(assignEach es X.env).length=n:=by rfl) (hst:(assignEach es X.env).findIdx? (·.1)=none:=by rfl):PG X (.Tuple es k pos) (gTup X.K n t):=by
 intro pins s σ H v u Q I r hw;obtain⟨a,xs,e1,hq,hl,hw⟩:=hw;subst e1;cases r;obtain⟨its,rv,ht,hz⟩:=I.tuple hq;refine assign_Tuple_tuple (I.ok.hd hc) ht (by simp[hn,<-hl,rv.length]) hst λh' hx=> ?_
 have I1:Inv X pins σ H {s with heap:=h'}:=I.kept (t':=s.toks) λb o e=>hx b o (bD<|aT e) e
 exact h pins _ σ H xs _ Q I1 (by simpa using rv) hw
def gSub (to ti:TE)(t:d05):TG:=λv σ H Q=>to σ H λo H1=>ti σ H1 λi H2=>t o i v H2 λH3=>Q σ H3
theorem pg_sub {o i:Expr}{to ti:TE}{t:d05}(ho:PE X o to)(hi:PE X i ti)(hs:PSet X t)
  (ha: ∀v,assign (.Subscript o i pos) X.env v=(do
   let ov<-holding [v] (eval o X.env)
   let iv<-holding [v,ov] (eval i X.env)
   standAt pos
   holding [v,ov,iv] (setItem ov iv v)
   release [v,ov,iv] []):=by intro _;rfl):PG X (.Subscript o i pos) (gSub to ti t):=by
 intro pins s σ H v u Q I r h;rw[ha];refine a8 (j3<|thn (ho pins s σ H _ I h) λov s1 ⟨x,H1,I1,r1,q1⟩=> ?_)
 refine a8 (j3<|thn (hi pins s1 σ H1 _ I1 q1) λiv s2 ⟨y,H2,I2,r2,q2⟩=> ?_)
 refine a8 (nQ<|a8<|j3<|thn (hs pins s2 σ H2 x y v ov iv u _ I2 r1 r2 r q2) λ_ s3 ⟨H3,I3,q3⟩=> ?_)
 exact wpAny_release ⟨σ,H3,I3,q3⟩
def dF5 (te:TE)(g:TG):TS:=λD σ H=>te σ H λx H1=>g x σ H1 D.nx
theorem d07 {tg e:Expr}{te:TE}{g:TG}(he:PE X e te)(hg:PG X tg g)(hs:swapsWithSole [tg] e pos.line X.env=pure false:=by rfl)(hw:swappedStores [tg] e X.env=pure none:=by rfl)
  (h1:(assignEach [tg] X.env).map (·.2)=[assign tg X.env]:=by rfl):PS X (.Assign [tg] e pos) (dF5 te g):=by
 intro pins s σ H D I h;refine wpAny_Assign_stores (thn (he pins s σ H _ I h) λv s1 ⟨x,H1,I1,r1,q1⟩=> ?_) hs hw
 rw[h1];exact thn (hg pins s1 σ H1 x v _ I1 r1 q1) λ_ s2 q=>q
theorem ps_set {i:Nat}{x:Str}{e:Expr}{te:TE}{pos':Pos}(hN:X.N.Nodup)(hi:X.N[i]? =some x)(hx:Loc X.env.scope x)(he:PE X e te)(hs:swapsWith e (some<|.Name x pos') pos.line X.env=pure false:=by rfl)(hf:X.fn x=true\/X.env.scope.names.lookup x=some .local:=by walk_at "z") :
  PS X (.Assign [.Name x pos'] e pos) (dF5 te<|aR6 i):=by
 intro pins s σ H D I h;refine wpAny_Assign_Name (thn (he pins s σ H _ I h) λv s1 ⟨y,H1,I1,r1,q1⟩=> ?_) hs
 exact xW I1 hN hi hx r1 (λs2 I2=>⟨_,H1,I2,q1⟩) hf
def tPar (i j:Nat)(ta:TA):TS:=λD σ H=>ta σ H λvs H1=> ∃v w,vs=[v,w]/\D.nx ((σ.set i<|some v).set j<|some w) H1
theorem ps_par {i j:Nat}{x y:Str}{a b:Expr}{ta:TA}{px py pt:Pos}{kt k2 pt2}(hc:X.calm=true)(hN:X.N.Nodup)(hi:X.N[i]? =some x)(hj:X.N[j]? =some y)(hij:i≠j)
  (hx:X.env.scope.names.lookup x=some .local) (hy:X.env.scope.names.lookup y=some .local) (ha:PA X [a,b] ta)
  (hw:swappedStores [.Tuple [.Name x px,.Name y py] kt pt] (.Tuple [a,b] k2 pt2) X.env=pure (some [x,y]))
  (hs:swapsWithSole [.Tuple [.Name x px,.Name y py] kt pt] (.Tuple [a,b] k2 pt2) pos.line X.env=pure false:=by rfl) :
  PS X (.Assign [.Tuple [.Name x px,.Name y py] kt pt] (.Tuple [a,b] k2 pt2) pos) (tPar i j ta):=by
 intro pins s σ H D I h;rw[exec_Assign_arm];refine a8 (nQ ?_);rw[hs];refine a8 (aH ?_);rw[a6 ac]
 refine a8 (Tuple_<|thn (ha _ pins s σ H _ I h) λus s1 ⟨vs,H1,I1,r1,q1⟩=> ?_)
 obtain⟨v,w,e1,q1⟩:=q1;subst e1;obtain⟨u1,u2,rfl,rv,rw'⟩: ∃u1 u2,us=[u1,u2]/\RelV v u1/\RelV w u2:=by
  cases r1 with
  | cons p q=>
   cases q with
   | cons p' q'=>
    cases q';exact⟨_,_,rfl,p,p'⟩
 refine iZ ?_ (by show 2<=sizeLine;decide)
 have I2:Inv X pins σ H1 {s1 with heap:=s1.heap.push {cls:= .type "tuple",data:= .seq [u1,u2].toArray}}:=I1.kept (t':=s1.toks) λb o e=>aS _ e
 rw[hw];refine a8 (aH ?_);show wpAny (model X.prog X.w) X.A (do rule "assign.swapped-stores";let items<-unpackItems (.ref s1.heap.objs.size) 2 none;assignInOrder [λv=>bindName X.env y v,λv=>bindName X.env x v] items.reverse;pure Flow.next) _ _ _
 refine a8 (nU<|a8<|unpackItems_tuple (items:= #[u1,u2]) (I.ok.hd hc) (qA s1.heap _) λh' hx'=> ?_)
 have I3:=I2.kept (h':=h') (t':=s1.toks) λb o e=>hx' b o (bD<|aT e) e
 show wpAny _ _ (assignInOrder [λv=>bindName X.env y v,λv=>bindName X.env x v] [u2,u1] >>= λ_=>pure Flow.next) _ _ _
 refine a8 (aM3<|wpAny_bindName<|xW I3 hN hj (.inl hy) rw' (λs2 I4=> ?_)<|.inr hy)
 refine aM3 (wpAny_bindName<|xW I4 hN hi (.inl hx) rv (λs3 I5=>assignInOrder_nil (aH ?_))<|.inr hx)
 rw[List.set_comm _ _<|Ne.symm hij]at I5;exact⟨_,H1,I5,q1⟩
def tAug (i:Nat)(te:TE)(ti:TIp):TS:=λD σ H=> ∃x,σ[i]? =some (some x)/\te σ H λy H1=>ti x y H1 λz H2=>D.nx (σ.set i<|some z) H2
theorem ps_aug {i:Nat}{x:Str}{e:Expr}{te:TE}{op:Operator}{ti:TIp}{pos':Pos}(hN:X.N.Nodup)(hi:X.N[i]? =some x)(hx:Loc X.env.scope x)(he:PE X e te)(ho:PIp X op ti)(hf:X.fn x=true\/X.env.scope.names.lookup x=some .local:=by walk_at "z") :
  PS X (.AugAssign (.Name x pos') op e pos) (tAug i te ti):=by
 intro pins s σ H D I h;obtain⟨v,e1,h⟩:=h;obtain⟨m,hn,hl⟩:=I.loc;have vis:Vis X.env.scope x:=by rcases hx with k|k;exact .inl k;exact .inr (.inl k)
 obtain⟨u,r,l⟩:=hl i x v hi e1 vis;refine wpAny_AugAssign_Name ?_;have go:wpAny (model X.prog X.w) X.A (eval e X.env) (λw s₂=>wpAny (model X.prog X.w) X.A (inplaceOp op u w) (λr s₃=>wpAny (model X.prog X.w) X.A (storeName X.env x r) (λ_=>SP X pins D .next) X.xe s₃) X.xe s₂) X.xe s:=by
  refine thn (he pins s σ H _ I h) λw s1 ⟨y,H1,I1,r1,q1⟩=> ?_
  refine thn (ho pins s1 σ H1 v y u w _ I1 r r1 q1) λz s2 ⟨zv,H2,I2,r2,q2⟩=> ?_
  exact xW I2 hN hi hx r2 (λs3 I3=>⟨_,H2,I3,q2⟩) hf
 rcases l with⟨hk,hm⟩| ⟨hk,c,hc,hcell⟩
 ·exact pL I.ok.kind hk hn hm go
 ·rcases hk with hk|hk
  ·exact wpAny_loadName_cell I.ok.kind hk hc hcell go
  ·rcases hx with k|k
   ·have:X.env.scope.names.lookup x=some .free:=hk;rw[k]at this;cases this
   ·have:X.env.scope.names.lookup x=some .free:=hk;rw[k]at this;cases this
def tAugS (to ti te:TE)(tget:V->V->Hp->VK->Prop)(tip:TIp)(tset:d05):TS:=λD σ H=>to σ H λo H1=>ti σ H1 λi H2=>tget o i H2 λx H3=>te σ H3 λy H4=>tip x y H4 λz H5=>tset o i z H5 λH6=>D.nx σ H6
def PGet (X:Cx)(t:V->V->Hp->VK->Prop):Prop:=
 ∀(pins:List (Addr×Obj)) (s:Shared) (σ:St) (H:Hp) (o i:V) (ov iv:Value) (Q:VK),Inv X pins σ H s->RelV o ov->RelV i iv->t o i H Q->
  wpAny (model X.prog X.w) X.A (getItem ov iv) (EP X pins σ Q) X.xe s
theorem dF6 {o i e:Expr}{to ti te:TE}{tget:V->V->Hp->VK->Prop}{tip:TIp}{tset:d05}{op:Operator}{tpos:Pos}(ho:PE X o to)(hi:PE X i ti)(hg:PGet X tget)(he:PE X e te)(hp:PIp X op tip)(hs:PSet X tset)
  (ha: ∀ov iv new,augStore i ov iv new=(do holding [new,ov,iv] (setItem ov iv new);release [new,ov,iv] [];pure .next):=by intros;rfl):PS X (.AugAssign (.Subscript o i tpos) op e pos) (tAugS to ti te tget tip tset):=by
 intro pins s σ H D I h;refine wpAny_AugAssign_SubscriptAny (thn (ho pins s σ H _ I h) λov s1 ⟨x1,H1,I1,r1,q1⟩=> ?_) ha
 refine thn (hi pins s1 σ H1 _ I1 q1) λiv s2 ⟨x2,H2,I2,r2,q2⟩=> ?_
 refine thn (hg pins s2 σ H2 x1 x2 ov iv _ I2 r1 r2 q2) λold s3 ⟨x3,H3,I3,r3,q3⟩=> ?_
 refine thn (he pins s3 σ H3 _ I3 q3) λv s4 ⟨x4,H4,I4,r4,q4⟩=> ?_
 refine thn (hp pins s4 σ H4 x3 x4 old v _ I4 r3 r4 q4) λnew s5 ⟨x5,H5,I5,r5,q5⟩=> ?_
 exact thn (hs pins s5 σ H5 x1 x2 x5 ov iv new _ I5 r1 r2 r5 q5) λ_ s6 ⟨H6,I6,q6⟩=>⟨σ,H6,I6,q6⟩
def ipI (f:Int->Int->Int):TIp:=λx y H Q=> ∃i j,x= .int i/\y= .int j/\Q (.int<|f i j) H
theorem ip_add:PIp X .Add (ipI λi j=>i+j):=by
 intro pins s σ H x y v u Q I r1 r2 h;obtain⟨i,j,e1,e2,q⟩:=h;subst e1;subst e2;obtain⟨t,rfl⟩:=r1;obtain⟨t',rfl⟩:=r2;exact iadd_int ⟨.int _,H,I.tok _,⟨_,rfl⟩,q⟩
theorem d08:PIp X .Sub (ipI λi j=>i-j):=by
 intro pins s σ H x y v u Q I r1 r2 h;obtain⟨i,j,e1,e2,q⟩:=h;subst e1;subst e2;obtain⟨t,rfl⟩:=r1;obtain⟨t',rfl⟩:=r2;exact isub_int ⟨.int _,H,I.tok _,⟨_,rfl⟩,q⟩
end
section
variable {X:Cx}{pos:Pos}
def tWhile (c:TT)(tb:TS):TS:=λD σ H=> ∃W:Nat->St->Hp->Prop,(∃m,W m σ H)/\ ∀m σ H,W m σ H->
 c σ H λb H1=>if b=true then ∃N:St->Hp->Prop,(∀σ' H',N σ' H'-> ∃m',m'<m/\W m' σ' H')/\tb {D with nx:=N,ct:=N,bk:=D.nx} σ H1 else D.nx σ H1
theorem d09 {c:Expr}{body:List Stmt}{tc:TT}{tb:TS}(hp:PassesOwn (model X.prog X.w) X.A X.env X.xe)(hc:PT X c tc)(hb:PSs X body tb):PS X (.While c body [] pos) (tWhile tc tb):=by
 intro pins s σ H D I h;obtain⟨W,⟨m0,w0⟩,turn⟩:=h;refine wpAny_While (codeAny_whileLoop (λn s'=> ∃σ' H',Inv X pins σ' H' s'/\W n σ' H') ?_ m0 ⟨σ,H,I,w0⟩)
 rintro n s1 ⟨σ1,H1,I1,w1⟩;refine nM hp (thn (hc pins s1 σ1 H1 _ I1<|turn n σ1 H1 w1) λb s2 ⟨H2,I2,q2⟩=> ?_)
 cases b with
 | true=>
  obtain⟨N,hN,q2⟩:=q2;rw[a7 rfl];refine nM hp (thn (hb pins s2 σ1 H2 _ I2 q2) λf s3 q3=> ?_)
  cases f with
  | next=>
   obtain⟨σ3,H3,I3,n3⟩:=q3;obtain⟨m',hm,w3⟩:=hN σ3 H3 n3;exact⟨m',hm,σ3,H3,I3,w3⟩
  | cont=>
   obtain⟨σ3,H3,I3,n3⟩:=q3;obtain⟨m',hm,w3⟩:=hN σ3 H3 n3;exact⟨m',hm,σ3,H3,I3,w3⟩
  | brk=>exact q3
  | ret v=>exact q3
 | false=>
  rw[a6 bC];exact nL ⟨σ1,H2,I2,q2⟩
end
structure It where
 go:Nat->Hp->Prop
 yld:Nat->Hp->V->Hp->Prop
 stop:Nat->Hp->Prop
def aX5 (X:Cx)(pins:List (Addr×Obj))(H:Hp)(b:Addr):Prop:=
 H b=none/\b≠X.env.locals/\b ∉ X.fs/\(b∈X.ex\/X.s₀.heap.objs.size<=b)/\(∀x c,X.env.cells.lookup x=some c->c≠b)/\ ∀p∈X.pn++pins,p.1≠b
theorem Inv.fpOk {X:Cx}{pins:List (Addr×Obj)}{σ:St}{H H':Hp}{s:Shared}{b:Addr}(I:Inv X pins σ H s)(hb:s.heap.objs.size<=b)(hn:H' b=none):aX5 X pins H' b:=by
 refine⟨hn,pY<|aY I.lt hb,I.nofs hb,.inr<|aM I.sz hb,λx c e z=> ?_,λp hp z=> ?_⟩
 ·obtain⟨v,q⟩:=I.cell x c e;exact absurd (aY q.lt (by rw[z];exact hb)) (dI _)
 ·exact absurd (aY (aT (I.pin p hp).1) (by rw[z];exact hb)) (dI _)
structure c32 (P:Program)(w:World)(K:Frag)(tg:Expr)(J:It)(fp:List Addr)(it:Addr)(tn:Nat->Heap->Prop):Prop where
 mem:it∈fp
 obj: ∀i h,tn i h-> ∀b∈fp,∃o,h.get? b=some o/\ ∀v,o.data≠ .cell v
 keep: ∀i h h',tn i h->(∀b∈fp,∀o,h.get? b=some o->h'.get? b=some o)->tn i h'
 item: ∀(X:Cx),X.prog=P->X.w=w->X.K=K->X.calm=true-> ∀(i:Nat) (pins:List (Addr×Obj)) (s:Shared) (σ:St) (H:Hp) (E:Value->Shared->Prop),Inv X pins σ H s->(∀b∈fp,aX5 X pins H b)->tn i s.heap->J.go i H->
  wpAny (model P w) X.A (pyNext<|.ref it) (λr s1=> ∃u,r=some u/\
   wpAny (model P w) X.A (letOwnedTupleGo tg (.ref it) u) (λ_ s2=> ∃x H',Inv X pins σ H' s2/\RelV x u/\J.yld i H x H'/\tn (i+1) s2.heap/\ ∀b∈fp,H' b=none) E s1) E s
 done: ∀(X:Cx),X.prog=P->X.w=w->X.K=K->X.calm=true-> ∀(i:Nat) (pins:List (Addr×Obj)) (s:Shared) (σ:St) (H:Hp) (E:Value->Shared->Prop),Inv X pins σ H s->(∀b∈fp,aX5 X pins H b)->tn i s.heap->J.stop i H->
  wpAny (model P w) X.A (pyNext<|.ref it) (λr s1=>r=none/\Inv X pins σ H s1) E s
 self: ∀(A:Around) (i:Nat) (s:Shared) (Q:Value->Shared->Prop) (E:Value->Shared->Prop),tn i s.heap->Q (.ref it) s->wpAny (model P w) A (pyIter<|.ref it) Q E s
abbrev TI:=St->Hp->(It->Hp->Prop)->Prop
def PIE (X:Cx)(pins:List (Addr×Obj))(σ:St)(tg:Expr)(R:It->Hp->Prop)(itv:Value)(s2:Shared):Prop:=
 ∃(it:Addr) (fp:List Addr) (tn:Nat->Heap->Prop) (J:It) (H':Hp),itv= .ref it/\Inv X pins σ H' s2/\c32 X.prog X.w X.K tg J fp it tn/\tn 0 s2.heap/\(∀b∈fp,aX5 X pins H' b)/\R J H'
def PI (X:Cx)(tg iter:Expr)(wi:TI):Prop:=
 ∀(pins:List (Addr×Obj)) (s:Shared) (σ:St) (H:Hp) (R:It->Hp->Prop),Inv X pins σ H s->wi σ H R->
  wpAny (model X.prog X.w) X.A (eval iter X.env) (λv s1=>wpAny (model X.prog X.w) X.A (pyIter v) (PIE X pins σ tg R) X.xe s1) X.xe s
theorem c33 {M:Model}{A:Around}{E:Value->Shared->Prop}{s:Shared}{tg:Expr}{it:Addr}{u:Value}{o:Obj}{n:String}{vs:Array Value}{Q:Unit->Shared->Prop}(ho:s.heap.get? it=some o)(hc:o.cls= .type n)(hd:o.data= .fields vs)
  (hn:["enumerate","zip","dict_itemiterator","dict_reverseitemiterator","odict_iterator","itertools.zip_longest","itertools.pairwise"].contains n=false) (hQ:Q () s):wpAny M A (letOwnedTupleGo tg (.ref it) u) Q E s:=by
 unfold letOwnedTupleGo;cases tg<;>first
  | exact aH hQ
  | (cases u<;>first
    | exact aH hQ
    | (refine a8 (wpAny_load ho ?_)
       rw[hc,hd];show wpAny M A (if(["enumerate","zip","dict_itemiterator","dict_reverseitemiterator","odict_iterator","itertools.zip_longest","itertools.pairwise"].contains n&&vs[0]? ==some (rawInt _))=true then _ else _) Q E s;rw[a6 (by intro h;rw[hn,Bool.false_and]at h;cases h)]
       exact aH hQ))
noncomputable def Itl (K:Frag)(a:Addr):It:=
 ⟨λi H=> ∃xs x,SqL K H a xs/\xs[i]? =some x,λi H x H'=>H'=H/\ ∀xs,SqL K H a xs->xs[i]? =some x,λi H=> ∃xs,SqL K H a xs/\xs.length<=i⟩
noncomputable def Itt (K:Frag)(a:Addr):It:=
 ⟨λi H=> ∃xs x,SqT K H a xs/\xs[i]? =some x,λi H x H'=>H'=H/\ ∀xs,SqT K H a xs->xs[i]? =some x,λi H=> ∃xs,SqT K H a xs/\xs.length<=i⟩
noncomputable def Itr (lo:Int)(n:Nat):It:=⟨λi _=>i<n,λi H x H'=>H'=H/\x= .int (lo+i),λi _=>n<=i⟩
theorem cT3 {P:Program}{w:World}{K:Frag}{tg:Expr}(a it:Addr):c32 P w K tg (Itl K a) [it] it (λi h=>h.IsListIter it a i) where
 mem:=ae
 obj:=λi h st b hb=>by
  have e:b=it:=by simpa using hb
  subst e;obtain⟨o,e,c,d⟩:=st;exact⟨o,e,λv z=>by rw[d]at z;cases z⟩
 keep:=λi h h' st k=>st.at λo e=>k it ae o e
 item:=by
  intro X hP hw hK hc i pins s σ H E I hf st hg;subst hP hw hK;obtain⟨xs,x,hq,hx⟩:=hg;obtain⟨its,rv,p,hz⟩:=I.list hq;obtain⟨u,hu,ru⟩:=rv.get hx;obtain⟨f0,f1,f2,f3,f4,f5⟩:=hf it ae
  refine wpAny_pyNext_list_item st p.isList (x:=u) (by simpa using hu) λh' st' sb=> ?_
  have I1:Inv X pins σ H {s with heap:=h'}:=I.turned (t':=s.toks) (λb o hb e=>(sb.2 b hb).trans e) f0 f1 f3 f4 f5
  obtain⟨o,e,c,d⟩:=id st';exact⟨u,rfl,c33 (s:={s with heap:=h'}) e c d ac ⟨x,H,I1,ru,⟨rfl,λys hy=>by rw[I.list_inj hy hq];exact hx⟩,st',λb hb=>(hf b hb).1⟩⟩
 done:=by
  intro X hP hw hK hc i pins s σ H E I hf st hg;subst hP hw hK;obtain⟨xs,hq,hx⟩:=hg;obtain⟨its,rv,p,hz⟩:=I.list hq;obtain⟨f0,f1,f2,f3,f4,f5⟩:=hf it ae
  have hl:=rv.length;exact wpAny_pyNext_list_end (I.ok.hd hc) st p.isList (by simp;lia) λh' eb=>⟨rfl,I.turned (t':=s.toks) (λb o hb e=>eb b o hb e) f0 f1 f3 f4 f5⟩
 self:=λ_ _ _ _ _ st h=>wpAny_pyIter_listiter st h
theorem cE0 {P:Program}{w:World}{K:Frag}{tg:Expr}(a it:Addr):c32 P w K tg (Itt K a) [it] it (λi h=>h.IsTupleIter it a i) where
 mem:=ae
 obj:=λi h st b hb=>by
  have e:b=it:=by simpa using hb
  subst e;obtain⟨o,e,c,d⟩:=st;exact⟨o,e,λv z=>by rw[d]at z;cases z⟩
 keep:=λi h h' st k=>st.at λo e=>k it ae o e
 item:=by
  intro X hP hw hK hc i pins s σ H E I hf st hg;subst hP hw hK;obtain⟨xs,x,hq,hx⟩:=hg;obtain⟨its,rv,p,hz⟩:=I.tuple hq;obtain⟨u,hu,ru⟩:=rv.get hx;obtain⟨f0,f1,f2,f3,f4,f5⟩:=hf it ae
  refine wpAny_pyNext_tuple_item st (show s.heap.IsTuple a its.toArray from p) (x:=u) (by simpa using hu) λh' st' sb=> ?_
  have I1:Inv X pins σ H {s with heap:=h'}:=I.turned (t':=s.toks) (λb o hb e=>(sb.2 b hb).trans e) f0 f1 f3 f4 f5
  obtain⟨o,e,c,d⟩:=id st';exact⟨u,rfl,c33 (s:={s with heap:=h'}) e c d ac ⟨x,H,I1,ru,⟨rfl,λys hy=>by rw[I.tuple_inj hy hq];exact hx⟩,st',λb hb=>(hf b hb).1⟩⟩
 done:=by
  intro X hP hw hK hc i pins s σ H E I hf st hg;subst hP hw hK;obtain⟨xs,hq,hx⟩:=hg;obtain⟨its,rv,p,hz⟩:=I.tuple hq;obtain⟨f0,f1,f2,f3,f4,f5⟩:=hf it ae
  have hl:=rv.length;exact wpAny_pyNext_tuple_end (I.ok.hd hc) st (show s.heap.IsTuple a its.toArray from p) (by simp;lia) λh' eb=>⟨rfl,I.turned (t':=s.toks) (λb o hb e=>eb b o hb e) f0 f1 f3 f4 f5⟩
 self:=λ_ _ _ _ _ st h=>wpAny_pyIter_tupleiter st h
theorem cE1 {P:Program}{w:World}{K:Frag}{tg:Expr}(it:Addr)(lo:Int)(n:Nat):c32 P w K tg (Itr lo n) [it] it (λi h=>IsRangeIter h it (lo+(i:Nat)*1) ((n:Int)-(i:Nat)) 1) where
 mem:=ae
 obj:=λi h st b hb=>by
  have e:b=it:=by simpa using hb
  subst e;exact⟨_,st,λv z=>by
   have z':Data.fields _=Data.cell v:=z;cases z'⟩
 keep:=λi h h' st k=>k it ae _ st
 item:=by
  intro X hP hw hK hc i pins s σ H E I hf st hg;subst hP hw hK;obtain⟨f0,f1,f2,f3,f4,f5⟩:=hf it ae
  have W:=Walks.range (prog:=X.prog) (w:=X.w) (I.ok.hd hc) it lo 1 n;refine W.item i s _ _ hg st λv h' tk hv st' kk=> ?_
  obtain⟨t,rfl⟩:=hv;have I1:Inv X pins σ H {s with heap:=h',toks:=tk}:=I.turned (λb o hb e=>kk b o (by simpa using hb) e) f0 f1 f3 f4 f5
  refine⟨_,rfl,c33 (s:={s with heap:=h',toks:=tk}) (n:="range_iterator") st' rfl rfl ac ⟨.int<|lo+i,H,I1,⟨t,?_⟩,⟨rfl,rfl⟩,st',λb hb=>(hf b hb).1⟩⟩
  rw[jZ]
 done:=by
  intro X hP hw hK hc i pins s σ H E I hf st hg;subst hP hw hK;obtain⟨f0,f1,f2,f3,f4,f5⟩:=hf it ae
  exact wpAny_pyNext_range_end (I.ok.hd hc) st (by have:n<=i:=hg;lia) λh' eb=>⟨rfl,I.turned (t':=s.toks) (λb o hb e=>eb b o hb e) f0 f1 f3 f4 f5⟩
 self:=λ_ _ _ _ _ st h=>aK6 st h
end L2
namespace L2
open PySem PySem.Spec PyProof.Rows
section
variable {X:Cx}{tg:Expr}
theorem c34 {pins:List (Addr×Obj)}{σ:St}{H:Hp}{s:Shared}{R:It->Hp->Prop}{E:Value->Shared->Prop}{lo hi:Int}{t u v:Tok}{tk:Nat}(I:Inv X pins σ H s)(h1: -(2^62)<=lo)(h2:lo<2^62)(h3: -(2^62)<=hi)(h4:hi<2^62)
  (q:R (Itr lo (hi-lo).toNat) H):wpAny (model X.prog X.w) X.A (pyIter<|.ref s.heap.objs.size) (PIE X pins σ tg R) E {s with heap:=s.heap.push {cls:= .type "range",data:= .fields #[.int lo t,.int hi u,.int 1 v]},toks:=tk}:=by
 refine wpAny_pyIter_range (IsRange.new ..) (small_one h1 h2 h3 h4) ?_
 have I1:Inv X pins σ H {s with heap:=s.heap.push {cls:= .type "range",data:= .fields #[.int lo t,.int hi u,.int 1 v]},toks:=tk}:=I.kept λb o e=>aS _ e
 refine⟨(s.heap.push {cls:= .type "range",data:= .fields #[.int lo t,.int hi u,.int 1 v]}).objs.size,[(s.heap.push {cls:= .type "range",data:= .fields #[.int lo t,.int hi u,.int 1 v]}).objs.size],_,_,H,rfl,
  I1.kept (t':=tk) λb o e=>aS _ e,cE1 _ lo (hi-lo).toNat,?_,λb hb=> ?_,q⟩
 ·have e1:lo+((0:Nat):Int)*1=lo:=ae
  have e2:(((hi-lo).toNat:Nat):Int)-((0:Nat):Int)=Builtin.Range.rangeSize lo hi 1:=by rw[rangeSize_one];split<;>lia
  show IsRangeIter _ _ (lo+((0:Nat):Int)*1) ((((hi-lo).toNat:Nat):Int)-((0:Nat):Int)) 1
  rw[e1,e2];exact bU _ rfl
 ·have e:b=(s.heap.push {cls:= .type "range",data:= .fields #[.int lo t,.int hi u,.int 1 v]}).objs.size:=by simpa using hb
  subst e;exact I1.fpOk (aE _) (I1.hok.fresh<|aE _)
def iRng1 (ta:TA):TI:=λσ H R=>ta σ H λvs H1=> ∃j:Int,vs=[.int j]/\ -(2^62)<=j/\j<2^62/\R (Itr 0 j.toNat) H1
def iRng2 (ta:TA):TI:=λσ H R=>ta σ H λvs H1=> ∃i j:Int,vs=[.int i,.int j]/\(-(2^62)<=i/\i<2^62/\ -(2^62)<=j/\j<2^62)/\R (Itr i (j-i).toNat) H1
theorem cT4 {a:Expr}{ta:TA}{p pos:Pos}(hg:Gl X "range")(hm:X.mg "range"=none)(ha:PA X [a] ta)(hs:starEach [a] X.env=[(false,eval a X.env)]:=by rfl):PI X tg (.Call (.Name "range" p) [a] [] pos) (iRng1 ta):=by
 intro pins s σ H R I h;refine Call_ (u4 I hg hm boot_range<|jS (thn (ha pos pins s σ H _ I h) λus s1 ⟨vs,H1,I1,r1,q1⟩=> ?_) hs rfl)
 obtain⟨j,e,q1,q2,q⟩:=q1;subst e;cases r1 with
 | cons r rr=>
  cases rr;obtain⟨t,rfl⟩:=r;exact call_range_1 (c34 I1 ad ad q1 q2<|by simpa using q)
theorem cT5 {a b:Expr}{ta:TA}{p pos:Pos}(hg:Gl X "range")(hm:X.mg "range"=none)(ha:PA X [a,b] ta)(hs:starEach [a,b] X.env=[(false,eval a X.env),(false,eval b X.env)]:=by rfl)(hs2:starEach [b] X.env=[(false,eval b X.env)]:=by rfl) :
  PI X tg (.Call (.Name "range" p) [a,b] [] pos) (iRng2 ta):=by
 intro pins s σ H R I h;refine Call_ (u4 I hg hm boot_range<|jS (thn (ha pos pins s σ H _ I h) λus s1 ⟨vs,H1,I1,r1,q1⟩=> ?_) (by rw[hs,hs2]) (by rw[hs2];rfl))
 obtain⟨i,j,e,⟨q1,q2,q3,q4⟩,q⟩:=q1;subst e;cases r1 with
 | cons r rr=>
  cases rr with
  | cons r' rr=>
   cases rr;obtain⟨t,rfl⟩:=r;obtain⟨t',rfl⟩:=r';exact call_range_2 (c34 I1 q1 q2 q3 q4 q)
def tFor (wi:TI)(g:TG)(tb:TS):TS:=λD σ H=>wi σ H λJ H1=> ∃W:Nat->Nat->St->Hp->Prop,(∃m,W 0 m σ H1)/\ ∀i m σ H,W i m σ H->
 (J.stop i H/\D.nx σ H)\/(J.go i H/\ ∃N:St->Hp->Prop,(∀σ' H',N σ' H'-> ∃m',m'<m/\W (i+1) m' σ' H')/\ ∀x H',J.yld i H x H'->g x σ H' λσ2 H2=>tb {D with nx:=N,ct:=N,bk:=D.nx} σ2 H2)
noncomputable def b98 (fp:List Addr)(h:Heap):List (Addr×Obj):=fp.filterMap λb=>(h.get? b).map λo=>(b,o)
theorem a01 {fp:List Addr}{h:Heap}{b:Addr}{o:Obj}(hb:b∈fp)(e:h.get? b=some o):(b,o)∈b98 fp h:=aM4.mpr ⟨b,hb,by rw[e];rfl⟩
theorem cT6 {fp:List Addr}{h:Heap}{p:Addr×Obj}(hp:p∈b98 fp h):p.1∈fp/\h.get? p.1=some p.2:=by
 obtain⟨b,hb,e⟩:=aM4.mp hp;cases q:h.get? b with
 | none=>rw[q]at e;cases e
 | some o=>
  rw[q]at e;have e':(b,o)=p:=iF e;subst e';exact⟨hb,q⟩
theorem Inv.pinned {pins:List (Addr×Obj)}{σ:St}{H:Hp}{s:Shared}{fp:List Addr}(I:Inv X pins σ H s)(hf: ∀b∈fp,aX5 X pins H b)(ho: ∀b∈fp,∃o,s.heap.get? b=some o/\ ∀v,o.data≠ .cell v):Inv X (pins++b98 fp s.heap) σ H s:=
 I.pins_of λp hp=>(bM.mp hp).elim (λz=>I.pin p (fJ _ z)) λz=>by
  obtain⟨hb,e⟩:=cT6 z;obtain⟨f0,f1,f2,_⟩:=hf p.1 hb;obtain⟨o,e',d⟩:=ho p.1 hb;rw[e]at e';cases e';exact⟨e,f0,f1,f2,d⟩
theorem Inv.unpinned {pins pl:List (Addr×Obj)}{σ:St}{H:Hp}{s:Shared}(I:Inv X (pins++pl) σ H s):Inv X pins σ H s:=I.pins_of λp hp=>I.pin p (fJ _<|tH _ hp)
theorem ps_for {iter:Expr}{body:List Stmt}{wi:TI}{g:TG}{tb:TS}{pos:Pos}(hp:PassesOwn (model X.prog X.w) X.A X.env X.xe)(hc:X.calm=true)(hi:PI X tg iter wi)(hg:PG X tg g)(hb:PSs X body tb)
  (hs: ∀x,foldedSetIterable iter X.env x=pure x:=by intro _;rfl):PS X (.For tg iter body [] pos) (tFor wi g tb):=by
 intro pins s σ H D I h;refine wpAny_For (thn (hi pins s σ H _ I h) λv s1 h1=>thn h1 λitv s2 h2=> ?_) hs
 obtain⟨it,fp,tn,J,H2,e,I2,T,st2,f2,W,⟨m0,w0⟩,turn⟩:=h2;subst e;have stat: ∀{H':Hp},(∀b∈fp,H' b=none)-> ∀b∈fp,aX5 X pins H' b:=λhn b hb=>⟨hn b hb,(f2 b hb).2⟩
 refine codeAny_forLoop_any (λn s'=> ∃i σ' H',Inv X pins σ' H' s'/\tn i s'.heap/\(∀b∈fp,H' b=none)/\W i n σ' H') ?_ m0 ⟨0,σ,H2,I2,st2,λb hb=>(f2 b hb).1,w0⟩
 rintro n s3 ⟨i,σ3,H3,I3,st3,fr3,w3⟩;rcases turn i n σ3 H3 w3 with⟨stop,qn⟩| ⟨go,N,hN,step⟩
 ·refine nM hp (thn (T.done X rfl rfl rfl hc i pins s3 σ3 H3 X.xe I3 (stat fr3) st3 stop) λr s4 ⟨hr,I4⟩=> ?_)
  subst hr;exact nL ⟨σ3,H3,I4,qn⟩
 ·refine nM hp (thn (T.item X rfl rfl rfl hc i pins s3 σ3 H3 X.xe I3 (stat fr3) st3 go) λr s4 ⟨u,hr,h4⟩=> ?_)
  subst hr;refine nM hp (thn h4 λ_ s5 ⟨x,H5,I5,r5,y5,st5,fr5⟩=> ?_)
  have I5':=I5.pinned (stat fr5) (T.obj _ _ st5);refine nM hp (thn (hg _ s5 σ3 H5 x u _ I5' r5<|step x H5 y5) λ_ s6 ⟨σ6,H6,I6,q6⟩=> ?_)
  refine nM hp (thn (hb _ s6 σ6 H6 _ I6 q6) λf s7 q7=> ?_)
  have again: ∀{σ7:St} {H7:Hp},Inv X (pins++b98 fp s5.heap) σ7 H7 s7->N σ7 H7-> ∃m,m<n/\ ∃i σ' H',Inv X pins σ' H' s7/\tn i s7.heap/\(∀b∈fp,H' b=none)/\W i m σ' H':=λ{σ7 H7} I7 n7=>by
   obtain⟨m',hm,w7⟩:=hN σ7 H7 n7;refine⟨m',hm,i+1,σ7,H7,I7.unpinned,T.keep _ _ _ st5 λb hb o e=>(I7.pin (b,o)<|fJ _<|fJ _<|a01 hb e).1,λb hb=> ?_,w7⟩
   obtain⟨o,e,d⟩:=T.obj _ _ st5 b hb;exact(I7.pin (b,o)<|fJ _<|fJ _<|a01 hb e).2.1
  cases f with
  | next=>obtain⟨σ7,H7,I7,n7⟩:=q7;exact again I7 n7
  | cont=>obtain⟨σ7,H7,I7,n7⟩:=q7;exact again I7 n7
  | brk=>obtain⟨σ7,H7,I7,q7⟩:=q7;exact⟨σ7,H7,I7.unpinned,q7⟩
  | ret v=>obtain⟨x7,σ7,H7,I7,r7,q7⟩:=q7;exact⟨x7,σ7,H7,I7.unpinned,r7,q7⟩
end
end L2
namespace L2
open PySem PySem.Spec PyProof.Rows
abbrev R2:=V->V->Hp->VK->Prop
def OpR (X:Cx)(f:Value->Value->Sem Value)(r:R2):Prop:=
 ∀(pins:List (Addr×Obj)) (s:Shared) (σ:St) (H:Hp) (x y:V) (v u:Value) (Q:VK),Inv X pins σ H s->RelV x v->RelV y u->r x y H Q->
  wpAny (model X.prog X.w) X.A (f v u) (EP X pins σ Q) X.xe s
def UnR (X:Cx)(f:Value->Sem Value)(r:V->Hp->VK->Prop):Prop:=
 ∀(pins:List (Addr×Obj)) (s:Shared) (σ:St) (H:Hp) (x:V) (v:Value) (Q:VK),Inv X pins σ H s->RelV x v->r x H Q->
  wpAny (model X.prog X.w) X.A (f v) (EP X pins σ Q) X.xe s
def oZ (X:Cx)(f:Value)(r:List V->Hp->VK->Prop):Prop:=
 ∀(pins:List (Addr×Obj)) (s:Shared) (σ:St) (H:Hp) (xs:List V) (us:List Value) (Q:VK),Inv X pins σ H s->Vals xs us->r xs H Q->
  wpAny (model X.prog X.w) X.A (call f us) (EP X pins σ Q) X.xe s
def tOp (r:R2)(ta tb:TE):TE:=λσ H Q=>ta σ H λx H1=>tb σ H1 λy H2=>r x y H2 Q
def tUn (r:V->Hp->VK->Prop)(ta:TE):TE:=λσ H Q=>ta σ H λx H1=>r x H1 Q
def rI (C:Int->Int->Prop)(g:Int->Int->V):R2:=λx y H Q=> ∃i j,x= .int i/\y= .int j/\C i j/\Q (g i j) H
def rI0 (g:Int->Int->V):R2:=λx y H Q=> ∃i j,x= .int i/\y= .int j/\Q (g i j) H
def rU (g:Int->V):V->Hp->VK->Prop:=λx H Q=> ∃i,x= .int i/\Q (g i) H
section
variable {X:Cx}{a b c:Expr}{ta tb tc:TE}{pos:Pos}
theorem binT (ha:PE X a ta)(hb:PE X b tb){pins:List (Addr×Obj)}{s:Shared}{σ:St}{H:Hp}{R:V->V->Hp->Prop}(I:Inv X pins σ H s)
  (h:ta σ H λx H1=>tb σ H1 λy H2=>R x y H2) {Q:Value->Shared->Prop} {f:Value->Value->Sem Value}
  (hf: ∀v u s2 x y H2,Inv X pins σ H2 s2->RelV x v->RelV y u->R x y H2->wpAny (model X.prog X.w) X.A (f v u) Q X.xe s2) :
  wpAny (model X.prog X.w) X.A (eval a X.env) (λv s₁=>wpAny (model X.prog X.w) X.A (eval b X.env) (λu s₂=>wpAny (model X.prog X.w) X.A (f v u) Q X.xe s₂) X.xe s₁) X.xe s:=by
 refine thn (ha pins s σ H _ I h) λv s1 ⟨x,H1,I1,r1,q1⟩=> ?_
 refine thn (hb pins s1 σ H1 _ I1 q1) λu s2 ⟨y,H2,I2,r2,q2⟩=> ?_
 exact hf v u s2 x y H2 I2 r1 r2 q2
theorem pe_op {op:Operator}{r:R2}(ho:OpR X (binaryOp op) r)(ha:PE X a ta)(hb:PE X b tb):PE X (.BinOp a op b pos) (tOp r ta tb):=by
 intro pins s σ H Q I h;exact wpAny_BinOp (binT ha hb I h λv u s2 x y H2 I2 rx ry q=>ho pins s2 σ H2 x y v u Q I2 rx ry q)
theorem pe_un {op:UnaryOp}{r:V->Hp->VK->Prop}(ho:UnR X (unaryOp op) r)(ha:PE X a ta):PE X (.UnaryOp op a pos) (tUn r ta):=by
 intro pins s σ H Q I h;exact UnaryOp_ (thn (ha pins s σ H _ I h) λv s1 ⟨x,H1,I1,r1,q1⟩=>ho pins s1 σ H1 x v Q I1 r1 q1)
theorem opI {f:Value->Value->Sem Value}{C:Int->Int->Prop}{g:Int->Int->Int}
  (rule: ∀(i j:Int) (t u:Tok) (s:Shared) (Q:Value->Shared->Prop) (E:Value->Shared->Prop),C i j->Q (.int (g i j) s.toks) {s with toks:=s.toks+1}->wpAny (model X.prog X.w) X.A (f (.int i t)<|.int j u) Q E s) :
  OpR X f (rI C λi j=> .int (g i j)):=by
 intro pins s σ H x y v u Q I rx ry h;obtain⟨i,j,rfl,rfl,hc,q⟩:=h;obtain⟨t,rfl⟩:=rx;obtain⟨t',rfl⟩:=ry;exact rule i j t t' s _ _ hc ⟨.int<|g i j,H,I.tok _,⟨_,rfl⟩,q⟩
theorem opI0 {f:Value->Value->Sem Value}{g:Int->Int->Int}
  (rule: ∀(i j:Int) (t u:Tok) (s:Shared) (Q:Value->Shared->Prop) (E:Value->Shared->Prop),Q (.int (g i j) s.toks) {s with toks:=s.toks+1}->wpAny (model X.prog X.w) X.A (f (.int i t)<|.int j u) Q E s) :
  OpR X f (rI0 λi j=> .int (g i j)):=by
 intro pins s σ H x y v u Q I rx ry h;obtain⟨i,j,rfl,rfl,q⟩:=h;obtain⟨t,rfl⟩:=rx;obtain⟨t',rfl⟩:=ry;exact rule i j t t' s _ _ ⟨.int<|g i j,H,I.tok _,⟨_,rfl⟩,q⟩
theorem dF7 {f:Value->Value->Sem Value}{g:Int->Int->Bool}
  (rule: ∀(i j:Int) (t u:Tok) (s:Shared) (Q:Value->Shared->Prop) (E:Value->Shared->Prop),Q (.bool<|g i j) s->wpAny (model X.prog X.w) X.A (f (.int i t)<|.int j u) Q E s) :
  OpR X f (rI0 λi j=> .bl (g i j)):=by
 intro pins s σ H x y v u Q I rx ry h;obtain⟨i,j,rfl,rfl,q⟩:=h;obtain⟨t,rfl⟩:=rx;obtain⟨t',rfl⟩:=ry;exact rule i j t t' s _ _ ⟨.bl<|g i j,H,I,rfl,q⟩
def dF8 (i j:Int):Prop:=0<=j/\j<=1000000/\i.natAbs<2^64
def cE2 (i j:Int):Prop:=(-(2^64)<i/\i<2^64)\/(-(2^64)<j/\j<2^64)
theorem cE2.ok {i j:Int}(h:cE2 i j):IntMulOk i j:=by
 rcases h with⟨h1,h2⟩| ⟨h1,h2⟩
 ·exact .of_left (intBits_le_64 h1 h2)
 ·exact .of_right (intBits_le_64 h1 h2)
theorem op_add:OpR X (binaryOp .Add) (rI0 λi j=> .int (i+j)):=opI0 λ_ _ _ _ _ _ _ q=>add_int q
theorem op_sub:OpR X (binaryOp .Sub) (rI0 λi j=> .int (i-j)):=opI0 λ_ _ _ _ _ _ _ q=>sub_int q
theorem dF9:OpR X (binaryOp .Mod) (rI (λ_ j=>j≠0) λi j=> .int (i.fmod j)):=opI λ_ _ _ _ _ _ _ hc q=>mod_int' hc q
theorem op_pow:OpR X (binaryOp .Pow) (rI dF8 λi j=> .int (i^j.toNat)):=opI λ_ _ _ _ _ _ _ hc q=>pow_int_small hc.1 hc.2.1 hc.2.2 q
theorem unI {f:Value->Sem Value}{g:Int->Int}
  (rule: ∀(i:Int) (t:Tok) (s:Shared) (Q:Value->Shared->Prop) (E:Value->Shared->Prop),Q (.int (g i) s.toks) {s with toks:=s.toks+1}->wpAny (model X.prog X.w) X.A (f<|.int i t) Q E s) :
  UnR X f (rU λi=> .int (g i)):=by
 intro pins s σ H x v Q I rx h;obtain⟨i,rfl,q⟩:=h;obtain⟨t,rfl⟩:=rx;exact rule i t s _ _ ⟨.int<|g i,H,I.tok _,⟨_,rfl⟩,q⟩
theorem un_neg:UnR X (unaryOp .USub) (rU λi=> .int (-i)):=unI λ_ _ _ _ _ q=>neg_int q
end
noncomputable def scal:V->V->Bool
 | .non,.non=>true| .non,.int _=>true| .int _,.non=>true| .non,.bl _=>true| .bl _,.non=>true| .non,.str _=>true| .str _,.non=>true
 | .int _,.int _=>true| .bl _,.bl _=>true| .str _,.str _=>true| .byt _,.byt _=>true
 | .int _,.str _=>true| .str _,.int _=>true| .bl _,.str _=>true| .str _,.bl _=>true
 | _,_=>false
def rEq:R2:=λx y H Q=>scal x y=true/\Q (.bl<|decide (x=y)) H
def rNe:R2:=λx y H Q=>scal x y=true/\Q (.bl<|!decide (x=y)) H
theorem b71 {i j:Int}:decide (V.int i=V.int j)=(i==j):=by
 rw[tP];simp
theorem bT7 {i j:Bool}:decide (V.bl i=V.bl j)=(i==j):=by
 rw[tP];simp
theorem b72 {i j:Str}:decide (V.str i=V.str j)=(i==j):=by
 rw[tP];simp
theorem cN2 {i j:Array UInt8}:decide (V.byt i=V.byt j)=(i.toList==j.toList):=by
 rw[tP];cases i;cases j;simp
section
variable {X:Cx}{a b c:Expr}{ta tb tc:TE}{pos:Pos}
theorem fT {pins:List (Addr×Obj)}{σ:St}{H:Hp}{s:Shared}{Q:VK}{k k':Bool}(I:Inv X pins σ H s)(q:Q (.bl k) H)(e:k=k'):EP X pins σ Q (.bool k') s:=by
 subst e;exact⟨.bl k,H,I,rfl,q⟩
theorem d10:OpR X (compareOp .Eq) rEq:=by
 intro pins s σ H x y v u Q I rx ry h;obtain⟨hs,q⟩:=h;cases x with
 | non=>
  cases rx;cases y with
  | non=>cases ry;exact PySem.EqNone.eq_none_none (fT I q ae)
  | bl j=>cases ry;exact PySem.EqNone.eq_none_bool (fT I q ae)
  | int j=>obtain⟨t',rfl⟩:=ry;exact PySem.EqNone.eq_none_int (fT I q ae)
  | str j=>obtain⟨t',rfl⟩:=ry;exact PySem.EqNone.eq_none_str (fT I q ae)
  | _=>exact absurd (show false=true from hs) bC
 | bl i=>
  cases rx;cases y with
  | non=>cases ry;exact PySem.EqNone.eq_bool_none (fT I q ae)
  | bl j=>cases ry;exact eq_bool (fT I q bT7)
  | str j=>obtain⟨t',rfl⟩:=ry;exact PySem.EqMixed.eq_bool_str (fT I q ae)
  | _=>exact absurd (show false=true from hs) bC
 | int i=>
  obtain⟨t,rfl⟩:=rx;cases y with
  | non=>cases ry;exact PySem.EqNone.eq_int_none (fT I q ae)
  | int j=>obtain⟨t',rfl⟩:=ry;exact eq_int (fT I q b71)
  | str j=>obtain⟨t',rfl⟩:=ry;exact PySem.EqMixed.eq_int_str (fT I q ae)
  | _=>exact absurd (show false=true from hs) bC
 | str i=>
  obtain⟨t,rfl⟩:=rx;cases y with
  | non=>cases ry;exact PySem.EqNone.eq_str_none (fT I q ae)
  | bl j=>cases ry;exact PySem.EqMixed.eq_str_bool (fT I q ae)
  | int j=>obtain⟨t',rfl⟩:=ry;exact PySem.EqMixed.eq_str_int (fT I q ae)
  | str j=>obtain⟨t',rfl⟩:=ry;exact eq_str (fT I q b72)
  | _=>exact absurd (show false=true from hs) bC
 | byt i=>
  obtain⟨t,rfl⟩:=rx;cases y with
  | byt j=>obtain⟨t',rfl⟩:=ry;exact PySem.W.eq_bytes (fT I q cN2)
  | _=>exact absurd (show false=true from hs) bC
 | _=>cases y<;>exact absurd (show false=true from hs) bC
theorem d11:OpR X (compareOp .NotEq) rNe:=by
 intro pins s σ H x y v u Q I rx ry h;obtain⟨hs,q⟩:=h;cases x with
 | non=>
  cases rx;cases y with
  | non=>cases ry;exact PySem.EqNone.ne_none_none (fT I q ae)
  | bl j=>cases ry;exact PySem.EqNone.ne_none_bool (fT I q ae)
  | int j=>obtain⟨t',rfl⟩:=ry;exact PySem.EqNone.ne_none_int (fT I q ae)
  | str j=>obtain⟨t',rfl⟩:=ry;exact PySem.EqNone.ne_none_str (fT I q ae)
  | _=>exact absurd (show false=true from hs) bC
 | bl i=>
  cases rx;cases y with
  | non=>cases ry;exact PySem.EqNone.ne_bool_none (fT I q ae)
  | bl j=>cases ry;exact ne_bool (fT I q<|dO not bT7)
  | str j=>obtain⟨t',rfl⟩:=ry;exact PySem.EqMixed.ne_bool_str (fT I q ae)
  | _=>exact absurd (show false=true from hs) bC
 | int i=>
  obtain⟨t,rfl⟩:=rx;cases y with
  | non=>cases ry;exact PySem.EqNone.ne_int_none (fT I q ae)
  | int j=>obtain⟨t',rfl⟩:=ry;exact ne_int (fT I q<|dO not b71)
  | str j=>obtain⟨t',rfl⟩:=ry;exact PySem.EqMixed.ne_int_str (fT I q ae)
  | _=>exact absurd (show false=true from hs) bC
 | str i=>
  obtain⟨t,rfl⟩:=rx;cases y with
  | non=>cases ry;exact PySem.EqNone.ne_str_none (fT I q ae)
  | bl j=>cases ry;exact PySem.EqMixed.ne_str_bool (fT I q ae)
  | int j=>obtain⟨t',rfl⟩:=ry;exact PySem.EqMixed.ne_str_int (fT I q ae)
  | str j=>obtain⟨t',rfl⟩:=ry;exact ne_str (fT I q<|dO not b72)
  | _=>exact absurd (show false=true from hs) bC
 | byt i=>
  obtain⟨t,rfl⟩:=rx;cases y with
  | byt j=>obtain⟨t',rfl⟩:=ry;exact PySem.W.ne_bytes (fT I q<|dO not cN2)
  | _=>exact absurd (show false=true from hs) bC
 | _=>cases y<;>exact absurd (show false=true from hs) bC
theorem op_lt:OpR X (compareOp .Lt) (rI0 λi j=> .bl (decide (i<j))):=dF7 λ_ _ _ _ _ _ _ q=>lt_int q
theorem op_le:OpR X (compareOp .LtE) (rI0 λi j=> .bl (decide (i<=j))):=dF7 λ_ _ _ _ _ _ _ q=>le_int q
theorem op_gt:OpR X (compareOp .Gt) (rI0 λi j=> .bl (decide (j<i))):=dF7 λ_ _ _ _ _ _ _ q=>gt_int q
theorem op_ge:OpR X (compareOp .GtE) (rI0 λi j=> .bl (decide (j<=i))):=dF7 λ_ _ _ _ _ _ _ q=>ge_int q
theorem b99 (b:Expr){op:CmpOp}(h:op≠ .In:=by decide)(h2:op≠ .NotIn:=by decide):behindInMarks op b=false:=by
 have e1:(op==CmpOp.In)=false:=by cases op<;>first|rfl|exact absurd rfl h
 have e2:(op==CmpOp.NotIn)=false:=by cases op<;>first|rfl|exact absurd rfl h2
 cases b<;>simp[behindInMarks,e1,e2]
theorem dG0 {op:CmpOp}{r:R2}(ho:OpR X (compareOp op) r)(ha:PE X a ta)(hb:PE X b tb)(hm:behindInMarks op b=false):PE X (.Compare a [op] [b] pos) (tOp r ta tb):=by
 intro pins s σ H Q I h;exact wpAny_Compare1 (binT ha hb I h λv u s2 x y H2 I2 rx ry q=>ho pins s2 σ H2 x y v u Q I2 rx ry q) hm
def tTest (t:TE):TT:=λσ H Q=>t σ H λx H'=> ∃k,x= .bl k/\Q k H'
theorem dG1 {op:CmpOp}{r:R2}(ho:OpR X (compareOp op) r)(ha:PE X a ta)(hb:PE X b tb)(hm:behindInMarks op b=false):PT X (.Compare a [op] [b] pos) (tTest<|tOp r ta tb):=by
 intro pins s σ H Q I h;refine wpAny_isTrue_Compare1 (thn (ha pins s σ H _ I h) λv s1 ⟨x,H1,I1,r1,q1⟩=>thn (hb pins s1 σ H1 _ I1 q1) λu s2 ⟨y,H2,I2,r2,q2⟩=>
  thn (ho pins s2 σ H2 x y v u _ I2 r1 r2 q2) λc s3 ⟨z,H3,I3,r3,k,e,q3⟩=> ?_) hm
 subst e;cases r3;exact kU ⟨H3,I3,q3⟩
theorem aX6:(sizeLine:Nat)<2^63:=by rw[sizeLine_eq];decide
theorem vals1 {x:V}{us:List Value}(r:Vals [x] us): ∃u,us=[u]/\RelV x u:=by
 cases r with
 | cons r1 r2=>cases r2;exact⟨_,rfl,r1⟩
theorem vals2 {x y:V}{us:List Value}(r:Vals [x,y] us): ∃u w',us=[u,w']/\RelV x u/\RelV y w':=by
 cases r with
 | cons r1 r2=>
  cases r2 with
  | cons r3 r4=>cases r4;exact⟨_,_,rfl,r1,r3⟩
theorem d12:oZ X (.builtin "abs") (λxs H Q=> ∃i,xs=[.int i]/\Q (.int<|if i<0 then -i else i) H):=by
 intro pins s σ H xs us Q I r h;obtain⟨i,rfl,q⟩:=h;obtain⟨u,rfl,t,rfl⟩:=vals1 r;exact call_abs_int λu tk=>⟨.int<|if i<0 then -i else i,H,I.tok _,⟨_,rfl⟩,q⟩
theorem cT7 (hc:X.calm=true):oZ X (.builtin "max") (λxs H Q=> ∃i j,xs=[.int i,.int j]/\Q (.int<|if j>i then j else i) H):=by
 intro pins s σ H xs us Q I r h;obtain⟨i,j,rfl,q⟩:=h;obtain⟨u,w',rfl,⟨t,rfl⟩,⟨t',rfl⟩⟩:=vals2 r;refine max_two_ints (I.ok.hd hc) λh' tk k=>⟨_,H,I.kept k,?_,q⟩
 by_cases hj:j>i
 ·rw[a7 hj,a7 hj];exact⟨_,rfl⟩
 ·rw[a6 hj,a6 hj];exact⟨_,rfl⟩
theorem cT8 (hc:X.calm=true):oZ X (.builtin "min") (λxs H Q=> ∃i j,xs=[.int i,.int j]/\Q (.int<|if j<i then j else i) H):=by
 intro pins s σ H xs us Q I r h;obtain⟨i,j,rfl,q⟩:=h;obtain⟨u,w',rfl,⟨t,rfl⟩,⟨t',rfl⟩⟩:=vals2 r;refine min_two_ints (I.ok.hd hc) λh' tk k=>⟨_,H,I.kept k,?_,q⟩
 by_cases hj:j<i
 ·rw[a7 hj,a7 hj];exact⟨_,rfl⟩
 ·rw[a6 hj,a6 hj];exact⟨_,rfl⟩
theorem bO0:oZ X (.type "int") (λxs H Q=>(∃i,xs=[.int i]/\Q (.int i) H)\/ ∃k,xs=[.bl k]/\Q (.int<|if k then 1 else 0) H):=by
 intro pins s σ H xs us Q I r h;rcases h with⟨i,rfl,q⟩| ⟨k,rfl,q⟩
 ·obtain⟨u,rfl,t,rfl⟩:=vals1 r;exact call_int_int ⟨.int i,H,I,⟨_,rfl⟩,q⟩
 ·obtain⟨u,rfl,r1⟩:=vals1 r;cases r1;exact call_int_bool ⟨.int<|if k then 1 else 0,H,I.tok _,⟨_,rfl⟩,q⟩
end
end L2
namespace L2
open PySem PySem.Spec PyProof.Rows
structure cT9 (h:Heap)(x dx C:Addr)(mA:Str->Option Value):Prop where
 obj:h.get? x=some (instObj C dx)
 ns:h.Ns1 dx mA
 ne:dx≠x
theorem cU0 {h:Heap}{dx:Addr}{mA:Str->Option Value}(n:h.Ns1 dx mA): ∃od,h.get? dx=some od/\ ∀name,lookIn name od=some (mA name):=by
 obtain⟨o,es,ep,ho,hd,hk,_,hm⟩:=n;refine⟨o,ho,λname=> ?_⟩
 have e:=hm name;unfold nsFind findBy at e;rw[<-Array.find?_toList]at e;unfold lookIn;rw[hd];dsimp only;split
 ·rename_i y q
  rw[q]at e;exact dO some e
 ·rename_i q
  rw[q]at e;have a:es.toList.any (·.refKey)=false:=by
   rw[List.any_eq_false];intro y hy;obtain⟨z,t,hkey⟩:=hk y (Array.mem_toList_iff.mp hy);simp[DictEntry.refKey,hkey]
  have a': ¬es.toList.any (·.refKey)=true:=by rw[a];exact bC
  rw[a6 a'];exact dO some e
theorem cT9.look {h:Heap}{x dx C:Addr}{mA:Str->Option Value}(I:cT9 h x dx C mA): ∃od,InstAt h x (instObj C dx) C (some od)/\ ∀name,lookIn name od=some (mA name):=
 let ⟨od,ho,hl⟩:=cU0 I.ns
 ⟨od,⟨I.obj,rfl,rfl,ho⟩,hl⟩
section
variable {prog:Program}{w:World}{A:Around}{E:Value->Shared->Prop}{s:Shared}{K:Frag}{x dx C f:Addr}{mA:Str->Option Value}{name:Str}{v:Value}
theorem dG2 {expr:Bool}{Q:Value->Shared->Prop}(X:K.In s.heap)(I:cT9 s.heap x dx C mA)(hg:plainGet K C name=true)(hh:hasDictIn K C=true)
  (ha:findIn K (.ref C) name=some none) (hv:mA name=some v) (hv':PySem.W.handedIn v=true) (h:Q v {s with toks:=s.toks+1}) :
  wpAny (model prog w) A (getAttr (.ref x) name expr) Q E s:=by
 obtain⟨od,J,hl⟩:=I.look;exact PySem.W.get_value X J (PySem.W.plainGet_of hg).1 (PySem.W.findObj_own hh ha rfl (by rw[hl,hv])) hv' h
theorem dG3 {ns:List Str}{Q:Unit->Shared->Prop}(X:K.In s.heap)(I:cT9 s.heap x dx C mA)
  (hs:findIn K (.ref C) "__setattr__"=some (some<|.builtin "object.__setattr__")) (hp:plainOver K C=true) (ht:takerIn K C name=some none) (hh:hasDictIn K C=true)
  (hw:PySem.Within mA ns) (hsz:ns.length<=sizeLine)
  (h: ∀h',cT9 h' x dx C (λy=>if y=name then some v else mA y)->SameBut dx s.heap h'->Q () {s with heap:=h',toks:=s.toks+2}) :
  wpAny (model prog w) A (setAttr (.ref x) name v) Q E s:=by
 obtain⟨od,J,hl⟩:=I.look;refine PySem.W.set_plain X J hs (PySem.W.osa_open (s:={s with toks:=s.toks+1}) (r:=none) X J hp ht λb=> ?_)
 obtain⟨cd,hc,hd'⟩:=PySem.W.any_some hh;have hx:s.heap.get? x=some ⟨.ref C,some dx,.plain,#[]⟩:=I.obj;refine a8 (aH<|a8<|a8<|wpAny_loadPart hx<|a8<|PySem.W.Looks.here (s:={s with toks:=s.toks+1}) (aM1 X hc) ?_);rw[hd'];refine aH (a:=some dx) (a8<|aH<|a8 ?_);refine wpAny_nsSet1 (s:={s with toks:=s.toks+1}) I.ns λh' hn2 hs2=> ?_
 obtain⟨oD,esD,epD,hoD,hdD,hcD⟩:=hn2.count (PySem.Within.cons name v hw);refine a8 (wpAny_lookBehind hoD (by rw[hdD];exact pastItsLine_dict (aM hcD (by rw[eO];lia))) ?_)
 exact aH (h _ ⟨(hs2.2 _<|Ne.symm I.ne).trans I.obj,hn2,I.ne⟩ hs2)
theorem c35 {R:Result->Shared->Prop}{vs:List Value}{kw:List (Str×Value)}(X:K.In s.heap)(hm:makesIn K C=true)
  (hi:findIn K (.ref C) "__init__"=some (some<|.ref f)) (hf:PySem.W.typeIn K (.ref f)=some (.type "function"))
  (h:codeAny (model prog w) (A.under<|.builtin "type.__call__" ⟨.ref C::vs,kw⟩) (.call (.ref f) ⟨.ref (s.heap.objs.size+1)::vs,kw⟩) (PySem.W.InitBack (s.heap.objs.size+1) R)
   {s with heap:=(s.heap.push emptyDict).push (instObj C s.heap.objs.size)}) :
  codeAny (model prog w) A (.call (.ref C) ⟨vs,kw⟩) R s:=by
 obtain⟨hh,g,d,t,os⟩:=s;exact PySem.W.make_core (PySem.W.makes_of X hm) (PySem.W.looks_findIn X hi) (λself=>PySem.W.bind_fn X self hf) (.inl rfl) h
end
noncomputable def vH (f:Str)(v:V):List (Str×V)->List (Str×V)
 | []=>[(f,v)]
 | (g,x)::r=>if g=f then(g,v)::r else(g,x)::vH f v r
theorem b26 (f g:Str)(v:V): ∀fs:List (Str×V),(vH f v fs).lookup g=if g=f then some v else fs.lookup g
 | []=>by
  show List.lookup g [(f,v)]=_
  by_cases h:g=f
  ·have hb:(g==f)=true:=gO.mpr h;simp only[List.lookup,hb,a7 h]
  ·have hb:(g==f)=false:=pM.mpr h;simp only[List.lookup,hb,a6 h]
 | (k,x)::r=>by
  have ih:=b26 f g v r;rw[show vH f v ((k,x)::r)=(if k=f then(k,v)::r else(k,x)::vH f v r)from rfl]
  by_cases hk:k=f
  ·rw[a7 hk]
   by_cases h:g=k
   ·have hb:(g==k)=true:=gO.mpr h;simp only[List.lookup,hb,a7<|h.trans hk]
   ·have hb:(g==k)=false:=pM.mpr h;simp only[List.lookup,hb,a6 (λe:g=f=>h (e.trans hk.symm))]
  ·rw[a6 hk]
   by_cases h:g=k
   ·have hb:(g==k)=true:=gO.mpr h;simp only[List.lookup,hb,a6 (λe:g=f=>hk (h.symm.trans e))]
   ·have hb:(g==k)=false:=pM.mpr h;simp only[List.lookup,hb];exact ih
theorem aX7 (f:Str)(v:V): ∀fs:List (Str×V),f∈(vH f v fs).map (·.1)/\ ∀g,g∈fs.map (·.1)->g∈(vH f v fs).map (·.1)
 | []=>⟨by simp[vH],λg h=>by simp at h⟩
 | (k,x)::r=>by
  obtain⟨i1,i2⟩:=aX7 f v r;rw[show vH f v ((k,x)::r)=(if k=f then(k,v)::r else(k,x)::vH f v r)from rfl]
  by_cases hk:k=f
  ·rw[a7 hk];subst hk;exact⟨ae,λg h=>by simpa using h⟩
  ·rw[a6 hk];refine⟨?_,λg h=> ?_⟩
   ·rw[dJ];exact bH _ i1
   ·rw[dJ]at h⊢;rcases aX.mp h with e|e
    ·exact aX.mpr (.inl e)
    ·exact bH _ (i2 g e)
theorem b27 (f:Str)(v:V): ∀fs:List (Str×V),(vH f v fs).length<=fs.length+1
 | []=>by simp[vH]
 | (k,x)::r=>by
  have ih:=b27 f v r;rw[show vH f v ((k,x)::r)=(if k=f then(k,v)::r else(k,x)::vH f v r)from rfl]
  by_cases hk:k=f
  ·rw[a7 hk,eO,eO];lia
  ·rw[a6 hk,eO,eO];lia
theorem cD9.some_of {v:V}{o:Option Value}(r:cD9 (some v) o): ∃u,o=some u/\RelV v u:=by
 cases o with
 | none=>exact(show False from r).elim
 | some u=>exact⟨u,rfl,r⟩
theorem cU1 {v:V}{u:Value}(r:RelV v u):PySem.W.handedIn u=true:=by
 cases v with
 | non=>cases (show u=Value.none from r);rfl
 | bl b=>cases (show u=Value.bool b from r);rfl
 | int i=>obtain⟨t,e⟩:=(show ∃t,u=Value.int i t from r);cases e;rfl
 | str x=>obtain⟨t,e⟩:=(show ∃t,u=Value.str x t from r);cases e;rfl
 | byt b=>obtain⟨t,e⟩:=(show ∃t,u=Value.bytes b t from r);cases e;rfl
 | flt b=>obtain⟨t,e⟩:=(show ∃t,u=Value.float b t from r);cases e;rfl
 | ref a=>cases (show u=Value.ref a from r);rfl
 | ty n=>cases (show u=Value.type n from r);rfl
section
variable {P:Program}{w:World}{H H':Hp}{h h':Heap}{a C dx:Addr}{fs fs':List (Str×V)}
theorem cN3 (hok:HOk P w H h)(e:H a=some (.ins C dx fs)): ∃mA,cT9 h a dx C mA/\(∀f,cD9 (fs.lookup f)<|mA f)/\PySem.Within mA (fs.map (·.1))/\fs.length<=1000/\H dx=some (.own a):=by
 obtain⟨d,z,ne,ob,mA,n,r,q⟩:=(show rB P w H h a (.ins C dx fs)from hok a _ e)
 exact⟨mA,⟨ob,n,ne⟩,r,q,z,d⟩
end
structure Cls (K:Frag)(C:Addr):Prop where
 pg:plainGet K C Str.empty=true
 hd:hasDictIn K C=true
 po:plainOver K C=true
 sa:findIn K (.ref C) "__setattr__"=some (some<|.builtin "object.__setattr__")
theorem Cls.get {K:Frag}{C:Addr}(c:Cls K C)(f:Str):plainGet K C f=true:=c.pg
def a76 (K:Frag)(C:Addr)(f:Str):Prop:=findIn K (.ref C) f=some none
theorem a76.taker {K:Frag}{C:Addr}{f:Str}(n:a76 K C f):takerIn K C f=some none:=by
 unfold takerIn;rw[show findIn K (.ref C) f=some none from n]
 rfl
section
variable {X:Cx}{pins:List (Addr×Obj)}{σ:St}{H:Hp}{s:Shared}{a C dx:Addr}{fs:List (Str×V)}{f:Str}{v:V}{A:Around}{E:Value->Shared->Prop}
theorem cE3 {b:Bool}{Q:Value->Shared->Prop}(I:Inv X pins σ H s)(e:H a=some (.ins C dx fs))(c:Cls X.K C)(n:a76 X.K C f)(l:fs.lookup f=some v)
  (h: ∀u s',Inv X pins σ H s'->RelV v u->Q u s'):wpAny (model X.prog X.w) A (getAttr (.ref a) f b) Q E s:=by
 obtain⟨mA,O,r,_,_,_⟩:=cN3 I.hok e;obtain⟨u,hu,ru⟩:=cD9.some_of (v:=v) (o:=mA f) (by rw[<-l];exact r f)
 exact dG2 I.kIn O (c.get f) c.hd n hu (cU1 ru) (h u _ (I.tok _) ru)
theorem cE4 {y:V}{u:Value}{Q:Unit->Shared->Prop}(I:Inv X pins σ H s)(e:H a=some (.ins C dx fs))(c:Cls X.K C)(n:a76 X.K C f)(hl:fs.length<1000)(ry:RelV y u)
  (h: ∀s',Inv X pins σ (upd H a<|.ins C dx<|vH f y fs) s'->Q () s'):wpAny (model X.prog X.w) A (setAttr (.ref a) f u) Q E s:=by
 obtain⟨mA,O,r,wi,_,ho⟩:=cN3 I.hok e;have hz:(fs.map (·.1)).length<=sizeLine:=by rw[aG,sizeLine_eq];lia
 refine dG3 I.kIn O c.sa c.po n.taker c.hd wi hz λh' O' sb=>h _ ?_
 have hd: ∃o,h'.get? dx=some o:=let ⟨o,_,_,e',_⟩:=O'.ns;⟨o,e'⟩;refine I.write (x:=a) (e:=dx) (by rw[e];exact True.intro) (.inr ho) (λb q hb z=>(sb.2 b hb).trans z) hd ?_
 refine⟨by rw[cH O.ne];exact ho,?_,O.ne,O'.obj,_,O'.ns,λg=> ?_,λg hg=> ?_⟩
 ·have:=b27 f y fs;lia
 ·show cD9 ((vH f y fs).lookup g) (if g=f then some u else mA g)
  rw[b26]
  by_cases q:g=f
  ·rw[a7 q,a7 q];exact ry
  ·rw[a6 q,a6 q];exact r g
 ·by_cases q:g=f
  ·rw[q];exact(aX7 f y fs).1
  ·refine(aX7 f y fs).2 g (wi g λz=>hg ?_)
   show(if g=f then some u else mA g)=none
   rw[a6 q];exact z
theorem Inv.made (I:Inv X pins σ H s):Inv X pins σ (upd (upd H s.heap.objs.size<|.own<|s.heap.objs.size+1) (s.heap.objs.size+1)<|.ins C s.heap.objs.size [])
  {s with heap:=(s.heap.push emptyDict).push (instObj C s.heap.objs.size)}:=by
 have e1:(s.heap.push emptyDict).get? s.heap.objs.size=some emptyDict:=bU s.heap rfl;have e2:((s.heap.push emptyDict).push<|instObj C s.heap.objs.size).get? (s.heap.objs.size+1)=some (instObj C s.heap.objs.size):=by
  have:=bU (s.heap.push emptyDict) (o:=instObj C s.heap.objs.size) rfl
  rwa [j1]at this
 have e3:(s.heap.push emptyDict).Ns s.heap.objs.size (λ_=>none):=⟨emptyDict,#[],_,e1,rfl,(λe he=>absurd he ae),λ_=>rfl⟩
 have I1:=I.laid (a:=s.heap.objs.size) (o:= .own (s.heap.objs.size+1)) (h':=s.heap.push emptyDict) (t':=s.toks) (λb u q=>aS _ q) (aE _) ⟨_,e1⟩
 refine I1.laid (a:=s.heap.objs.size+1) (o:= .ins C s.heap.objs.size []) (t':=s.toks) (λb u q=>aS _ q) (le_of_eq<|j1 _ _) ?_
 have ne:s.heap.objs.size≠s.heap.objs.size+1:=bD (pS _);refine⟨by rw[cH ne,iR],dN _,ne,e2,λ_=>none,(Heap.Ns1.of_empty e3).at λo q=>aS _ q,λ_=>True.intro,λy hy=>absurd rfl hy⟩
theorem dG4 {prog:Program}{w:World}{env:Env}{e:Expr}{f:Str}{pos:Pos}{s:Shared}{Q:Value->Shared->Prop}(hb:attributeBase e f env (eval e env)=eval e env)
  (h:wpAny (model prog w) A (eval e env) (λo s₁=>wpAny (model prog w) A (getAttr o f true) Q E s₁) E s):wpAny (model prog w) A (eval (.Attribute e f pos) env) Q E s:=
 Attribute_any_ h (by rw[arm_eval_Attribute,hb])
end
def tFld (K:Frag)(ta:TE)(f:Str):TE:=λσ H Q=>ta σ H λx H1=> ∃a C dx fs v,x= .ref a/\H1 a=some (.ins C dx fs)/\Cls K C/\a76 K C f/\fs.lookup f=some v/\Q v H1
def d13 (K:Frag)(ta tv:TE)(f:Str):TS:=λD σ H=>tv σ H λy H1=>ta σ H1 λx H2=> ∃a C dx fs,x= .ref a/\H2 a=some (.ins C dx fs)/\Cls K C/\a76 K C f/\fs.length<1000/\
 D.nx σ (upd H2 a<|.ins C dx<|vH f y fs)
section
variable {X:Cx}{o e value:Expr}{f:Str}{pos pos' tpos:Pos}{ta tv:TE}
theorem pe_fld (he:PE X e ta)(hb:attributeBase e f X.env (eval e X.env)=eval e X.env):PE X (.Attribute e f pos) (tFld X.K ta f):=by
 intro pins s σ H Q I h;refine dG4 hb (thn (he pins s σ H _ I h) λu s1 zz=> ?_)
 obtain⟨x,H1,I1,rx,a,C,dx,fs,v,ex,ea,c,n,l,q⟩:=zz;subst ex;obtain rfl:u=Value.ref a:=rx;exact cE3 I1 ea c n l λu' s2 I2 ru=>⟨v,H1,I2,ru,q⟩
theorem cE5 (ha:PE X o ta)(hv:PE X value tv)(hs:swapsWith value (some<|.Attribute o f pos') pos.line X.env=pure false):PS X (.Assign [.Attribute o f pos'] value pos) (d13 X.K ta tv f):=by
 intro pins s σ H D I h;refine aJ7 (thn (hv pins s σ H _ I h) λu s1 ⟨y,H1,I1,ry,q⟩=>thn (ha pins s1 σ H1 _ I1 q) λov s2 zz=> ?_) hs
 obtain⟨x,H2,I2,rx,a,C,dx,fs,ex,ea,c,n,l,q2⟩:=zz;subst ex;obtain rfl:ov=Value.ref a:=rx;exact cE4 I2 ea c n l ry λs3 I3=>⟨σ,_,I3,q2⟩
end
end L2
namespace L2
open PySem PySem.Spec PyProof.Rows
structure i5 (k:Nat)(A:Around):Prop where
 hd:A.handled=none
 dp:A.depth+3*k+5<recursionLimit
 un:A.units+16*k+200<cLine
theorem i5.mono {j k:Nat}{A:Around}(r:i5 k A)(h:j<=k):i5 j A:=⟨r.hd,by have:=r.dp;lia,by have:=r.un;lia⟩
theorem i5.deeper {k:Nat}{A:Around}(r:i5 (k+1) A)(env:Env):i5 k (A.deeper env):=
 ⟨r.hd,by have:=r.dp;show A.depth+1+3*k+5<_;lia,by have:=r.un;show A.units+3+16*k+200<_;lia⟩
theorem cE6 {A:Around}{C:Addr}{us:List Value}{kw:List (Str×Value)}:(A.under<|.builtin "type.__call__" ⟨.ref C::us,kw⟩).depth=A.depth+1:=by
 first|rfl|simp[Around.under,Code.weight,Code.isCreation,Code.isGuard,Code.isCaller,Code.frames,Code.isFrame,guardIds]
theorem cE7 {A:Around}{C:Addr}{us:List Value}{kw:List (Str×Value)}:(A.under<|.builtin "type.__call__" ⟨.ref C::us,kw⟩).units=A.units+1:=by
 first|rfl|simp[Around.under,Code.cUnits,Code.frames,Code.isFrame]
theorem i5.make {k:Nat}{A:Around}(r:i5 (k+1) A)(C:Addr)(us:List Value)(kw:List (Str×Value)):i5 k (A.under<|.builtin "type.__call__" ⟨.ref C::us,kw⟩):=
 ⟨r.hd,by have:=r.dp;rw[cE6];omega,by have:=r.un;rw[cE7];omega⟩
theorem i5.depth {k:Nat}{A:Around}(r:i5 k A):A.depth<recursionLimit:=by have:=r.dp;lia
theorem i5.units {k:Nat}{A:Around}(r:i5 k A):A.units+64<cLine:=by have:=r.un;lia
def tNil:TA:=λ_ H Q=>Q [] H
def tCons (ta:TE)(tr:TA):TA:=λσ H Q=>ta σ H λx H1=>tr σ H1 λxs H2=>Q (x::xs) H2
section
variable {X:Cx}{e:Expr}{es:List Expr}{te:TE}{t:TA}{pos:Pos}
theorem bT8:PA X [] tNil:=λ_ _ _ _ H Q I h=>Calls.spliced_nil ⟨[],H,I,.nil,h⟩
theorem b73 (ha:PE X e te)(hr:PA X es t)(hs:starEach (e::es) X.env=(false,eval e X.env)::starEach es X.env:=by rfl):PA X (e::es) (tCons te t):=by
 intro pos pins s σ H Q I h;rw[hs];show wpAny _ _ (spliced ((false,eval e X.env)::backTo pos (starEach es X.env))) _ _ s;refine Calls.spliced_cons (thn (ha pins s σ H _ I h) λu s1 ⟨x,H1,I1,r1,q1⟩=> ?_)
 exact thn (hr pos pins s1 σ H1 _ I1 q1) λus s2 ⟨xs,H2,I2,r2,q2⟩=>⟨x::xs,H2,I2,.cons r1 r2,q2⟩
def tTup (t:TA):TE:=λσ H Q=>t σ H λxs H1=>xs.length<=sizeLine/\ ∀p,H1 p=none->Q (.ref p) (upd H1 p<|.tup xs)
def tLst (t:TA):TE:=λσ H Q=>t σ H λxs H1=>xs.length<=sizeLine/\ ∀p,H1 p=none->Q (.ref p) (upd H1 p<|.lst xs)
theorem pe_tup {x1}(h:PA X es t):PE X (.Tuple es x1 pos) (tTup t):=by
 intro pins s σ H Q I hq;refine wpAny_Tuple_spliced (thn (h pos pins s σ H _ I hq) λus s1 ⟨xs,H1,I1,r,z,q⟩=>⟨by rw[<-r.length];exact z,?_⟩)
 have hf:H1 s1.heap.objs.size=none:=I1.hok.fresh (aE _);refine⟨.ref s1.heap.objs.size,upd H1 s1.heap.objs.size<|.tup xs,I1.laid (t':=s1.toks) (λb u e=>aS _ e) (aE _) ?_,rfl,q _ hf⟩
 exact⟨z,us,r,⟨_,bU _ rfl,rfl,_,rfl⟩⟩
theorem pe_lst (h:PA X es t):PE X (.List es pos) (tLst t):=by
 intro pins s σ H Q I hq;refine wpAny_List_spliced (thn (h pos pins s σ H _ I hq) λus s1 ⟨xs,H1,I1,r,z,q⟩=>⟨by rw[<-r.length];exact z,?_⟩)
 have hf:H1 s1.heap.objs.size=none:=I1.hok.fresh (aE _);refine⟨.ref s1.heap.objs.size,upd H1 s1.heap.objs.size<|.lst xs,I1.laid (t':=s1.toks) (λb u e=>aS _ e) (aE _) ?_,rfl,q _ hf⟩
 exact⟨z,us,0,r,bU _ rfl⟩
end
abbrev Sp:=List V->Hp->VK->XK->Prop
abbrev CXT:=List Env->Hp->Shared->XK->Value->Shared->Prop
structure cE8 (P:Program)(w:World)(K:Frag)(mg:Str->Option Value)(base:Heap)(A:Around)(outer:List Env)(s:Shared)(H:Hp):Prop where
 frames:A.frames=some outer
 mod:Mod K mg base
 bs: ∀b o,base.get? b=some o->s.heap.get? b=some o/\H b=none
 bsz:base.objs.size<=s.heap.objs.size
 funs:s.heap.FunFrames base outer
 frf: ∀b∈frs outer,H b=none
 hok:HOk P w H s.heap
 bare:AllBare s.gens
def CE (outer:List Env)(P:Program)(w:World)(H:Hp)(s:Shared)(Q:VK)(u:Value)(s':Shared):Prop:=
 ∃v H',s'.os=s.os/\AllBare s'.gens/\Un (frs outer) [] H H' s.heap s'.heap/\HOk P w H' s'.heap/\RelV v u/\Q v H'
def CR (CX:CXT)(outer:List Env)(P:Program)(w:World)(H:Hp)(s:Shared)(Q:VK)(E:XK)(r:Result)(s':Shared):Prop:=
 match r with
 | .ok (.ret u)=>CE outer P w H s Q u s'
 | .ok _=>False
 | .error e=>CX outer H s E e s'
structure sQ (P:Program)(w:World)(K:Frag)(mg:Str->Option Value)(base:Heap)(CX:CXT)(k:Nat)(f:Addr)(fd:FuncData)(ps:List Str)(sp:Sp):Prop where
 len: ∀vs H Q E,sp vs H Q E->vs.length=ps.length
 run: ∀(A:Around) (outer:List Env) (s:Shared) (H:Hp) (args:Args) (us:List Value) (vs:List V) (Q:VK) (E:XK),i5 k A->cE8 P w K mg base A outer s H->BindsTo s fd args (ps.zip us)->Vals vs us->sp vs H Q E->
  codeAny (model P w) A (.call (.ref f) args) (CR CX outer P w H s Q E) s
theorem sQ.mono {P:Program}{w:World}{K:Frag}{mg:Str->Option Value}{base:Heap}{CX:CXT}{j k:Nat}{f:Addr}{fd:FuncData}{ps:List Str}{sp:Sp}(F:sQ P w K mg base CX j f fd ps sp)(h:j<=k) :
  sQ P w K mg base CX k f fd ps sp:=⟨F.len,λA outer s H args us vs Q E hr=>F.run A outer s H args us vs Q E (hr.mono h)⟩
theorem cE8.make {P:Program}{w:World}{K:Frag}{mg:Str->Option Value}{base:Heap}{A:Around}{outer:List Env}{s:Shared}{H:Hp}(e:cE8 P w K mg base A outer s H)(C:Addr)(us:List Value)(kw:List (Str×Value)) :
  cE8 P w K mg base (A.under<|.builtin "type.__call__" ⟨.ref C::us,kw⟩) outer s H:=⟨by first|exact e.frames| (simpa[Around.under,Code.envs,Code.isFrame,pushEnvs]using e.frames),e.mod,e.bs,e.bsz,e.funs,e.frf,e.hok,e.bare⟩
section
variable {X:Cx}{pins:List (Addr×Obj)}{σ:St}{H:Hp}{s s':Shared}
theorem Inv.env0 (I:Inv X pins σ H s):cE8 X.prog X.w X.K X.mg X.base X.A X.stack s H:=
 ⟨I.ok.frames,I.ok.mod,I.bs,aM I.ok.bsz I.sz,I.stack,I.stkFree,I.hok,I.bare⟩
theorem Inv.after {Q:VK}{u:Value}(I:Inv X pins σ H s)(h:CE X.stack X.prog X.w H s Q u s'):EP X pins σ Q u s':=by
 obtain⟨v,H',os,bare,un,hok,r,q⟩:=h;obtain⟨hh,g,d,t,os'⟩:=s';obtain rfl:os'=s.os:=os;exact⟨v,H',I.call (h':=hh) (g':=g) (d':=d) (t':=t) (ch:=[]) un hok bare λb z=>absurd z ae,r,q⟩
end
def d14 (sp:Sp)(dvs:List V)(E:XK)(t:TA):TE:=λσ H Q=>t σ H λvs H1=>sp (vs++dvs) H1 Q E
def cN4 (C:Addr)(sp:Sp)(dvs:List V)(E:XK)(t:TA):TE:=λσ H Q=>t σ H λvs H1=> ∀x dx,H1 x=none->H1 dx=none->dx≠x->
 sp (.ref x::(vs++dvs)) (upd (upd H1 dx<|.own x) x<|.ins C dx []) (λv H2=>v= .non/\Q (.ref x) H2) E
def Binds (K:Frag)(fd:FuncData)(ps:List Str)(ds:List Value):Prop:=
 ∀(s:Shared) (us:List Value),K.In s.heap->(us++ds).length=ps.length->BindsTo s fd ⟨us,[]⟩ (ps.zip<|us++ds)
theorem Binds.all {K:Frag}{fd:FuncData}{ps:List Str}(h: ∀us:List Value,us.length=ps.length->bindArgs fd ⟨us,[]⟩=pure (ps.zip us)):Binds K fd ps []:=λs us _ hl=>by
 rw[jV]at hl⊢;exact .of_eq (h us hl)
def wG (CX:CXT)(X:Cx)(E:XK):Prop:= ∀(pins:List (Addr×Obj)) (σ:St) (H:Hp) (s:Shared) (e:Value) (s':Shared),Inv X pins σ H s->CX X.stack H s E e s'->X.xe e s'
section
variable {X:Cx}{CX:CXT}{k:Nat}{f C:Addr}{fd:FuncData}{ps:List Str}{sp:Sp}{dvs:List V}{ds:List Value}{E:XK}{x m:Str}{p pos apos:Pos}{e o:Expr}{es:List Expr}{ta:TE}{t:TA}
theorem d15 {pins:List (Addr×Obj)}{σ:St}{H:Hp}{s:Shared}{Q:VK}{us:List Value}{vs:List V}(F:sQ X.prog X.w X.K X.mg X.base CX k f fd ps sp)(hr:i5 k X.A)(hb:Binds X.K fd ps ds)(hd:Vals dvs ds)(hx:wG CX X E)
  (I:Inv X pins σ H s) (r:Vals vs us) (h:sp (vs++dvs) H Q E):wpAny (model X.prog X.w) X.A (call (.ref f) us) (EP X pins σ Q) X.xe s:=by
 have r2:Vals (vs++dvs) (us++ds):=r.append hd;have hl:(us++ds).length=ps.length:=by rw[<-r2.length];exact F.len _ _ _ _ h
 refine tZ (tU (F.run X.A X.stack s H ⟨us,[]⟩ (us++ds) (vs++dvs) Q E hr I.env0 (hb s us I.kIn hl) r2 h) λr s' hq=> ?_)
 cases r with
 | error e=>exact hx pins σ H s e s' I hq
 | ok fl=>
  cases fl with
  | ret u=>exact I.after hq
  | next=>exact False.elim hq
  | brk=>exact False.elim hq
  | cont=>exact False.elim hq
theorem cN5 (F:sQ X.prog X.w X.K X.mg X.base CX k f fd ps sp)(hr:i5 k X.A)(hg:Gl X x)(hm:X.mg x=some (.ref f))(hk:keepIn X.K (.ref f)=true)(hb:Binds X.K fd ps ds)(hd:Vals dvs ds)(hx:wG CX X E)
  (ha:PA X (e::es) t) (hdb:(x==("__debug__":Str))=false:=by decide) (he:starEach (e::es) X.env=(false,eval e X.env)::starEach es X.env:=by rfl) (hpl:(backTo pos<|starEach es X.env).any (·.1)=false:=by rfl) :
  PE X (.Call (.Name x p) (e::es) [] pos) (d14 sp dvs E t):=by
 intro pins s σ H Q I h;refine pO (vK I hg hm ?_ hdb);refine aM5 (h₀:=X.base) I.ok.mod.kin hk (thn (ha pos pins s σ H _ I h) λus s1 ⟨vs,H1,I1,r,q⟩=>⟨I1.kIn,?_⟩) he hpl
 exact d15 F hr hb hd hx I1 r q
theorem d16 (F:sQ X.prog X.w X.K X.mg X.base CX k f fd ps sp)(hr:i5 k X.A)(hg:Gl X x)(hm:X.mg x=some (.ref f))(hk:keepIn X.K (.ref f)=true)(hb:Binds X.K fd ps ds)(hd:Vals dvs ds)(hx:wG CX X E)
  (hdb:(x==("__debug__":Str))=false:=by decide):PE X (.Call (.Name x p) [] [] pos) (d14 sp dvs E tNil):=by
 intro pins s σ H Q I h;refine pO (vK I hg hm ?_ hdb);exact PySem.W.callWith_K0 I.kIn hk (d15 (us:=[]) F hr hb hd hx I .nil h)
structure Mk (K:Frag)(C f:Addr):Prop where
 makes:makesIn K C=true
 init:findIn K (.ref C) "__init__"=some (some<|.ref f)
 fn:PySem.W.isFn K (.ref f)=true
 kp:keepIn K (.ref C)=true
theorem d17 {pins:List (Addr×Obj)}{σ:St}{H:Hp}{s:Shared}{Q:VK}{us:List Value}{vs:List V}(M:Mk X.K C f)(F:sQ X.prog X.w X.K X.mg X.base CX k f fd ps sp)(hr:i5 (k+1) X.A)(hb:Binds X.K fd ps ds)(hd:Vals dvs ds)
  (hx:wG CX X E) (I:Inv X pins σ H s) (r:Vals vs us)
  (h: ∀x dx,H x=none->H dx=none->dx≠x->sp (.ref x::(vs++dvs)) (upd (upd H dx<|.own x) x<|.ins C dx []) (λv H2=>v= .non/\Q (.ref x) H2) E) :
  wpAny (model X.prog X.w) X.A (call (.ref C) us) (EP X pins σ Q) X.xe s:=by
 have hq:=h (s.heap.objs.size+1) s.heap.objs.size (I.hok.fresh<|tW _) (I.hok.fresh<|aE _) (bD<|pS _);have I2:=Inv.made (C:=C) I;have r2:Vals (V.ref (s.heap.objs.size+1)::(vs++dvs)) (Value.ref (s.heap.objs.size+1)::(us++ds)):= .cons rfl (r.append hd);have hl:(Value.ref (s.heap.objs.size+1)::us++ds).length=ps.length:=by
  have e:=r2.length;rw[F.len _ _ _ _ hq]at e;exact e.symm
 refine tZ (c35 (f:=f) I.kIn M.makes M.init (gO.mp M.fn) (tU (F.run _ X.stack _ _ ⟨Value.ref (s.heap.objs.size+1)::us,[]⟩ (Value.ref (s.heap.objs.size+1)::(us++ds)) _ _ E (hr.make C us [])
  (I2.env0.make C us []) (hb _ (Value.ref (s.heap.objs.size+1)::us) I2.kIn hl) r2 hq) λr s' hq'=> ?_))
 cases r with
 | error e=>exact hx pins σ _ _ e s' I2 hq'
 | ok fl=>
  cases fl with
  | ret u=>
   obtain⟨v,H',I3,rv,ev,q3⟩:=I2.after hq';subst ev;exact⟨rv,⟨V.ref<|s.heap.objs.size+1,H',I3,rfl,q3⟩⟩
  | next=>exact False.elim hq'
  | brk=>exact False.elim hq'
  | cont=>exact False.elim hq'
theorem dG5 (M:Mk X.K C f)(F:sQ X.prog X.w X.K X.mg X.base CX k f fd ps sp)(hr:i5 (k+1) X.A)(hg:Gl X x)(hm:X.mg x=some (.ref C))(hb:Binds X.K fd ps ds)(hd:Vals dvs ds)(hx:wG CX X E)
  (ha:PA X (e::es) t) (hdb:(x==("__debug__":Str))=false:=by decide) (he:starEach (e::es) X.env=(false,eval e X.env)::starEach es X.env:=by rfl) (hpl:(backTo pos<|starEach es X.env).any (·.1)=false:=by rfl) :
  PE X (.Call (.Name x p) (e::es) [] pos) (cN4 C sp dvs E t):=by
 intro pins s σ H Q I h;refine pO (vK I hg hm ?_ hdb);refine aM5 (h₀:=X.base) I.ok.mod.kin M.kp (thn (ha pos pins s σ H _ I h) λus s1 ⟨vs,H1,I1,r,q⟩=>⟨I1.kIn,?_⟩) he hpl
 exact d17 M F hr hb hd hx I1 r q
end
section
variable {X:Cx}{CX:CXT}{k:Nat}{f C:Addr}{fd:FuncData}{ps ks:List Str}{sp:Sp}{E:XK}{x m:Str}{p pos apos kpos:Pos}{e o:Expr}{es:List Expr}{kws:List Keyword}{te ta:TE}{t tk:TA}{nm:Option Str}
variable {g:List Value->List Value->List Value}{gV:List V->List V->List V}
end
structure aW (N P:List Str)(sc:Scope):Prop where
 kind:sc.kind= .function
 co:sc.isCoroutine=false
 gen:sc.isGenerator=false
 nd:N.Nodup
 pre:N.take P.length=P
 par: ∀x∈P,sc.names.lookup x=some .local\/sc.names.lookup x=some .cell
 nofree: ∀y∈sc.names,y.2≠ .free
theorem bO1 {kindOf:Str->Option NameKind}{x:Str}: ∀{binds:List (Str×Value)} {m:Str->Option Value},(∀v,(x,v) ∉ binds)->bindL kindOf binds m x=m x
 | [],_,_=>rfl
 | (n,v)::r,m,h=>by
  unfold bindL;rw[bO1 λw hw=>h w (bH _ hw)]
  split
  ·have:x≠n:=by rintro rfl;exact h v cO
   simp[this]
  ·rfl
theorem bO2 {kindOf:Str->Option NameKind}{x:Str}: ∀{binds:List (Str×Value)} {m:Str->Option Value},(∀v,(x,v) ∉ binds)->bindC kindOf binds m x=m x
 | [],_,_=>rfl
 | (n,v)::r,m,h=>by
  unfold bindC;rw[bO2 λw hw=>h w (bH _ hw)]
  split
  ·rfl
  ·have:x≠n:=by rintro rfl;exact h v cO
   simp[this]
theorem bO3 {kindOf:Str->Option NameKind}{x:Str}{v:Value}: ∀{P:List Str} {vs:List Value} {i:Nat} {m:Str->Option Value},P.Nodup->P[i]? =some x->vs[i]? =some v->kindOf x=some .local->
  bindL kindOf (P.zip vs) m x=some v
 | [],_,_,_,_,h,_,_=>by simp at h
 | _::_,[],_,_,_,_,h,_=>by simp at h
 | p::P,w::vs,0,m,nd,h1,h2,hk=>by
  simp at h1 h2;subst h1;subst h2
  show bindL kindOf ((p,w)::P.zip vs) m p=_
  unfold bindL;rw[bO1 λv hv=>(zI.mp nd).1 (zJ hv).1,a7 hk]
  simp
 | p::P,w::vs,i+1,m,nd,h1,h2,hk=>by
  show bindL kindOf ((p,w)::P.zip vs) m x=_
  unfold bindL;exact bO3 (i:=i) (zI.mp nd).2 (by simpa using h1) (by simpa using h2) hk
theorem bO4 {kindOf:Str->Option NameKind}{x:Str}{v:Value}: ∀{P:List Str} {vs:List Value} {i:Nat} {m:Str->Option Value},P.Nodup->P[i]? =some x->vs[i]? =some v->kindOf x≠some .local->
  bindC kindOf (P.zip vs) m x=some v
 | [],_,_,_,_,h,_,_=>by simp at h
 | _::_,[],_,_,_,_,h,_=>by simp at h
 | p::P,w::vs,0,m,nd,h1,h2,hk=>by
  simp at h1 h2;subst h1;subst h2
  show bindC kindOf ((p,w)::P.zip vs) m p=_
  unfold bindC;rw[bO2 λv hv=>(zI.mp nd).1 (zJ hv).1,a6 hk]
  simp
 | p::P,w::vs,i+1,m,nd,h1,h2,hk=>by
  show bindC kindOf ((p,w)::P.zip vs) m x=_
  unfold bindC;exact bO4 (i:=i) (zI.mp nd).2 (by simpa using h1) (by simpa using h2) hk
noncomputable def start (N:List Str)(vs:List V):St:=vs.map some++replicate (N.length-vs.length) none
noncomputable def u5 (CX:CXT)(P:Program)(w:World)(K:Frag)(mg:Str->Option Value)(base:Heap)(N:List Str)(qual:Str)(scope:Scope)(f:Addr)(cd:Value)(A:Around)(outer:List Env)(s:Shared)(H:Hp)(E:XK):Cx where
 prog:=P
 w:=w
 K:=K
 mg:=mg
 base:=base
 A:=A.deeper (envOfC qual scope s.heap.objs.size f cd)
 N:=N
 s₀:=s
 H₀:=H
 env:=envOfC qual scope s.heap.objs.size f cd
 outer:=outer
 stack:=envOfC qual scope s.heap.objs.size f cd::outer
 ex:=[]
 calm:=true
 fn:=λ_=>true
 pn:=[]
 xe:=λe s'=>wpAny (model P w) (A.deeper<|envOfC qual scope s.heap.objs.size f cd) (leaving (envOfC qual scope s.heap.objs.size f cd) e) (λ_ s''=>CX outer H s E e s'') (λe' s''=>CX outer H s E e' s'') s'
theorem c36 {sc:Scope}{n:Nat}{x:Str}(h:sc.names.lookup x=some .cell): ∃c,(cellsFrom n sc.names []).lookup x=some c:=by
 have q:=aK7 sc.names n [] (.inl h);exact Option.isSome_iff_exists.mp q
theorem bO5 {CX:CXT}{P:Program}{w:World}{K:Frag}{mg:Str->Option Value}{base:Heap}{N ps:List Str}{qual:Str}{scope:Scope}{f:Addr}{cd:Value}{A:Around}{outer:List Env}{s s1:Shared}{H:Hp}{E:XK}{us:List Value}{vs:List V}
  (S:aW N ps scope) (hd:A.handled=none) (e0:cE8 P w K mg base A outer s H) (hl:vs.length=ps.length) (r:Vals vs us)
  (x:InCallC s s.heap.objs.size (bindL (envOfC qual scope s.heap.objs.size f cd).kindOf (ps.zip us) λ_=>none) (cellsFrom (s.heap.objs.size+1) scope.names []) (bindC (envOfC qual scope s.heap.objs.size f cd).kindOf (ps.zip us) λ_=>none) s1) :
  Inv (u5 CX P w K mg base N qual scope f cd A outer s H E) [] (start N vs) H s1:=by
 have hpl:ps.length<=N.length:=by have:=dO length S.pre;rw[pT]at this;lia
 obtain⟨h1,tk,rfl,hk⟩:=x.done;have noA: ∀b:Addr,b ∉ (u5 CX P w K mg base N qual scope f cd A outer s H E).ex:=λb z=>absurd (show b∈([]:List Addr)from z) ae
 refine⟨⟨e0.mod,S.kind,rfl,rfl,aE _,λy z c h1 h2=> ?_,λy hy=> ?_,λy c _ h=> ?_,λ_=>hd,Around.frames_deeper e0.frames,.inr ⟨rfl,rfl⟩,λb z=>absurd z (noA b),e0.bs,e0.bsz,λb _ _=>noA b,λb z=>absurd z (noA b),e0.funs,e0.frf⟩,
  rfl,e0.bare,Un.kept hk,⟨_,x.toInCall.ns,λi y v h1 h2 h3=> ?_⟩,λy c h=>⟨_,x.cell y c h⟩,e0.hok.fresh<|aE _,λy c h=> ?_,λp hp=>absurd (show p∈([]:List (Addr×Obj))from hp) ae,e0.hok.kept hk,?_⟩
 ·exact name_of_addr x.apart (pN h1) (pN h2)
 ·have hy:scope.names.lookup y=some .cell\/scope.names.lookup y=some .free:=hy;rcases hy with hy|hy
  ·exact c36 hy
  ·exact absurd rfl (S.nofree _<|pN hy)
 ·exact nS (x.above y c<|pN h)
 ·have hi:i<vs.length:=by
   unfold start at h2
   by_cases hi:i<vs.length
   ·exact hi
   ·rw[gU<|by simpa using hi]at h2
    rw[tE]at h2;split at h2<;>cases h2
  have ha:vs[i]? =some v:=by
   unfold start at h2;rw[gH<|by simpa using hi,b7]at h2
   cases e:vs[i]? with
   | none=>rw[e]at h2;cases h2
   | some a=>rw[e]at h2;cases h2;rfl
  obtain⟨u,hu,rv⟩:=r.get ha;have hp:ps[i]? =some y:=by
   rw[<-S.pre,List.getElem?_take_of_lt ad];exact h1
  have ndP:ps.Nodup:=by rw[<-S.pre];exact S.nd.sublist (List.take_sublist _ _)
  refine⟨u,rv,?_⟩
  rcases S.par y (zB hp)with k|k
  ·exact .inl ⟨k,bO3 ndP hp hu k⟩
  ·obtain⟨c,e⟩:=c36 (n:=s.heap.objs.size+1) k;refine .inr ⟨.inl k,c,e,?_⟩;have q:=x.cell y c e;rw[bO4 ndP hp hu (by show scope.names.lookup y≠_;rw[k];decide)]at q
   exact q
 ·exact e0.hok.fresh (nS<|x.above y c<|pN h)
 ·unfold start;show _=N.length;rw[bN,aG,tG]
  lia
theorem d18 {CX:CXT}{P:Program}{w:World}{K:Frag}{mg:Str->Option Value}{base:Heap}{k:Nat}{f:Addr}{name qual:Str}{params:Arguments}{body:List Stmt}{scope:Scope}{dV kV doc pm cdv ct oc:Value}{an od:Option Addr}
  {osl:Array (Option Value)} {N ps:List Str} {sp:Sp} (lk:K.lookup f=some ⟨oc,od,.func<|fnOf name qual params body scope dV kV doc pm an cdv ct,osl⟩) (hcd:codeIn K cdv qual=true) (S:aW N ps scope)
  (len: ∀vs H Q E,sp vs H Q E->vs.length=ps.length)
  (hbody: ∀(A:Around) (outer:List Env) (s:Shared) (H:Hp) (vs:List V) (Q:VK) (E:XK),i5 k (A.deeper<|envOfC qual scope s.heap.objs.size f cdv)->sp vs H Q E->
   ∃t,PSs (u5 CX P w K mg base N qual scope f cdv A outer s H E) body t/\t {nx:=λ_ H'=>Q .non H',rt:=Q} (start N vs) H) :
  sQ P w K mg base CX (k+1) f (fnOf name qual params body scope dV kV doc pm an cdv ct) ps sp:=by
 refine⟨len,λA outer s H args us vs Q E hr e0 hb r hsp=> ?_⟩
 have hl:=len _ _ _ _ hsp;have KX:K.In s.heap:=e0.mod.kin.keeps λb o e=>(e0.bs b o e).1
 have lim:s.heap.NoLimit:=e0.mod.nolimit.keeps λb o e=>(e0.bs b o e).1
 have hkind: ∀y∈ps.zip us,scope.names.lookup y.1=some .local\/(scope.names.lookup y.1=some .cell/\((cellsFrom (s.heap.objs.size+1) scope.names []).lookup y.1).isSome=true):=λ⟨n,v⟩ hy=>by
  rcases S.par n (zJ hy).1 with q|q
  ·exact .inl q
  ·exact .inr ⟨q,aK7 _ _ _<|.inl q⟩
 refine codeAny_call_function hr.depth (KX _ _ lk) rfl S.co S.gen rfl (PySem.W.codeRec_of KX hcd) (hb _ _ _ _ ?_)
 refine wpAny_newFunctionEnv_cells S.kind hkind λenv he s1 x=> ?_
 subst he;refine⟨lim.keeps x.toInCall.keep,codeAny_func ?_⟩;obtain⟨t,ht,hq⟩:=hbody A outer s H vs Q E (hr.deeper _) hsp;have I:Inv (u5 CX P w K mg base N qual scope f cdv A outer s H E) [] (start N vs) H s1:=bO5 S hr.hd e0 hl r x;refine bG (ht [] s1 (start N vs) H _ I hq) (λfl s' hs=> ?_) λe s' hs=>hs
 have fin: ∀{σ':St} {H':Hp} {v:V} {u:Value},Inv (u5 CX P w K mg base N qual scope f cdv A outer s H E) [] σ' H' s'->RelV v u->Q v H'->CE outer P w H s Q u s':=
  λ{σ' H' v u} J rv q=>⟨v,H',J.os,J.bare,J.base,J.hok,rv,q⟩
 cases fl with
 | ret u=>
  obtain⟨v,σ',H',J,rv,q⟩:=hs;exact fin J rv q
 | next=>
  obtain⟨σ',H',J,q⟩:=hs;exact fin (v:=V.non) (u:=Value.none) J rfl q
 | brk=>
  obtain⟨_,_,_,q⟩:=hs;exact False.elim q
 | cont=>
  obtain⟨_,_,_,q⟩:=hs;exact False.elim q
end L2
namespace L2
open PySem PySem.Spec PyProof.Rows
section
variable {X:Cx}{x:Str}{p pos:Pos}{e:Expr}{es:List Expr}{t:TA}{id T:String}{r:List V->Hp->VK->Prop}
def tCB (r:List V->Hp->VK->Prop)(t:TA):TE:=λσ H Q=>t σ H λvs H1=>r vs H1 Q
theorem c37 (hc:oZ X (.builtin id) r)(hg:Gl X x)(hm:X.mg x=none)(hv:bootBuiltins x=some (.builtin id))(ha:PA X (e::es) t)(hn:x≠"__name__":=by decide)(hdb:(x==("__debug__":Str))=false:=by decide)
  (he:starEach (e::es) X.env=(false,eval e X.env)::starEach es X.env:=by rfl) (hpl:(backTo pos<|starEach es X.env).any (·.1)=false:=by rfl):PE X (.Call (.Name x p) (e::es) [] pos) (tCB r t):=by
 intro pins s σ H Q I h;refine pO (u4 I hg hm hv ?_ hn hdb);exact PyProof.Rows.callWith_builtin1 (thn (ha pos pins s σ H _ I h) λus s1 ⟨vs,H1,I1,r1,q1⟩=>hc pins s1 σ H1 vs us Q I1 r1 q1) he hpl
theorem cU2 (hc:oZ X (.type T) r)(hg:Gl X x)(hm:X.mg x=none)(hv:bootBuiltins x=some (.type T))(ha:PA X (e::es) t)(hn:x≠"__name__":=by decide)(hdb:(x==("__debug__":Str))=false:=by decide)
  (he:starEach (e::es) X.env=(false,eval e X.env)::starEach es X.env:=by rfl) (hpl:(backTo pos<|starEach es X.env).any (·.1)=false:=by rfl):PE X (.Call (.Name x p) (e::es) [] pos) (tCB r t):=by
 intro pins s σ H Q I h;refine pO (u4 I hg hm hv ?_ hn hdb);exact jS (thn (ha pos pins s σ H _ I h) λus s1 ⟨vs,H1,I1,r1,q1⟩=>hc pins s1 σ H1 vs us Q I1 r1 q1) he hpl
end
end L2
namespace HT
open PySem PyProof.Rows
section
open PySem.SeqAt
open PySem.AutoSeq1 (wpAny_loadPart')
open PySem.MeetsSeq PySem.MeetsSeq2 PySem.MeetsSeq3
end
section
variable {prog:Program}{w:World}{A:Around}{E:Value->Shared->Prop}{s:Shared}
theorem cat_tup {t b:Addr}{vs ws:List Value}{Q:Value->Shared->Prop}(ht:IsTup s.heap t vs.toArray)(hb:IsTup s.heap b ws.toArray)(hv:vs≠[])
  (h1:ws=[]->Q (.ref t) s) (h2:ws≠[]->Q (.ref s.heap.objs.size) {s with heap:=s.heap.push {cls:= .type "tuple",data:= .seq (vs++ws).toArray}})
  (hsz:vs.length+ws.length<=sizeLine):wpAny (model prog w) A (binaryOp .Add (.ref t)<|.ref b) Q E s:=by
 obtain⟨⟨cls,dd,data,sl⟩,ho,hc,n,hd⟩:=id ht;obtain⟨⟨cls2,dd2,data2,sl2⟩,ho2,hc2,n2,hd2⟩:=id hb;simp only at hc hd hc2 hd2;subst hc hd hc2 hd2;have e:vs.toArray++ws.toArray=(vs++ws).toArray:=ae
 by_cases hw:ws=[]
 ·exact concat_meets ⟨_,ho,rfl⟩ ⟨_,ho2,rfl⟩ aN6 seq_tuple_add aK8 aK3 (aJ9 _ _)
   (tuple_addW1 t b vs.toArray ws.toArray n n2 dd dd2 sl sl2 (by simpa using hv)<|by simp[hw]) ⟨ho,ho2,h1 hw⟩
 ·refine concat_meets ⟨_,ho,rfl⟩ ⟨_,ho2,rfl⟩ aN6 seq_tuple_add aK8 aK3 (aJ9 _ _)
   (tuple_addW2 t b vs.toArray ws.toArray n n2 dd dd2 sl sl2 (by simpa using hv) (by simpa using hw) (by rw[b6,b6];exact hsz)) ⟨ho,ho2,?_⟩
  rw[e];exact h2 hw
noncomputable def sIx (n d:Nat):Option Int->Nat
 | none=>d
 | some v=>if v<0 then(v+(n:Int)).toNat else min v.toNat n
theorem sIx_none (n d:Nat):sIx n d none=d:=rfl
theorem sIx_nat (n d k:Nat):sIx n d (some (k:Int))=min k n:=by
 show(if(k:Int)<0 then((k:Int)+(n:Int)).toNat else min (k:Int).toNat n)=min k n
 rw[a6 ad,cP]
theorem sIx_le (n d:Nat)(hd:d<=n)(o:Option Int):sIx n d o<=n:=by
 cases o with
 | none=>exact hd
 | some v=>
  show(if v<0 then(v+(n:Int)).toNat else min v.toNat n)<=n
  by_cases hv:v<0
  ·rw[a7 hv];lia
  ·rw[a6 hv];exact Nat.min_le_right _ _
theorem cN6 (v:Int)(n d:Nat):(if v<0 then max (v+(n:Int)) 0 else min v (n:Int))=((sIx n d (some v):Nat):Int):=by
 show(if v<0 then max (v+(n:Int)) 0 else min v (n:Int))=(((if v<0 then(v+(n:Int)).toNat else min v.toNat n):Nat):Int)
 by_cases hv:v<0
 ·simp only[a7 hv];lia
 ·simp only[a6 hv];lia
theorem cE9 (lo hi:Option Int)(n:Nat):Builtin.Slice.sliceAdjust lo hi 1 (n:Int)=(((sIx n 0 lo:Nat):Int),((sIx n n hi:Nat):Int)):=by
 have h1: ¬((1:Int)<0):=ad
 unfold Builtin.Slice.sliceAdjust;simp only[h1,eG];refine j9 ?_ ?_
 ·cases lo with
  | none=>rfl
  | some v=>exact cN6 v n 0
 ·cases hi with
  | none=>rfl
  | some v=>exact cN6 v n n
theorem cF0 (i j:Nat):Builtin.Slice.slicePlaces (i:Int) (j:Int) 1=j-i:=by
 unfold Builtin.Slice.slicePlaces;have h1:(1:Int)>0:=ad
 simp only[h1,bZ,Int.ediv_one];split<;>lia
theorem bA0 {v:Value}{o:Option Int}{Q:Option Int->Shared->Prop}(p:IsPart v o)(h:Q o s):wpAny (model prog w) A (Builtin.Slice.slicePartIndex v) Q E s:=by
 cases p with
 | none=>exact slicePart_none h
 | int i t=>exact slicePart_int h
theorem xY {sl:Addr}{vl vu:Value}{lo hi:Option Int}{n:Nat}{Q:Int×Int×Nat->Shared->Prop}(hs:s.heap.IsSliceOf sl vl vu .none)(pl:IsPart vl lo)(pu:IsPart vu hi)
  (h:Q (((sIx n 0 lo:Nat):Int),1,sIx n n hi-sIx n 0 lo) s):wpAny (model prog w) A (Builtin.Slice.sliceApplied (.ref sl)<|pure (n:Int)) Q E s:=by
 obtain⟨os,hos,hcs,hds⟩:=id hs;unfold Builtin.Slice.sliceApplied Builtin.Slice.sliceFields;refine a8 (a8<|d6 hos hds (x:=vl) rfl (a8<|d6 hos hds (x:=vu) rfl (a8<|d6 hos hds (x:= .none) rfl (aH ?_))));refine a8 (slicePart_none ?_);show wpAny _ _ (if((1:Int)==0)=true then _ else _) _ _ s;rw[a6 ac]
 refine a8 (bA0 pl<|a8<|bA0 pu<|a8<|aH ?_)
 show wpAny _ _ (match Builtin.Slice.sliceAdjust lo hi 1 (n:Int)with| (lo,hi)=>pure (lo,(1:Int),Builtin.Slice.slicePlaces lo hi 1)) _ _ s
 rw[cE9 lo hi n];show wpAny _ _ (pure (((sIx n 0 lo:Nat):Int),(1:Int),Builtin.Slice.slicePlaces ((sIx n 0 lo:Nat):Int) ((sIx n n hi:Nat):Int) 1)) _ _ s;rw[cF0];exact aH h
theorem d19 (xs:Array Value)(i k:Nat):((List.range k).filterMap fun(m:Nat)=>xs[((i:Int)+(m:Int)*1).toNat]?).toArray=((xs.toList.drop i).take k).toArray:=by
 have e:(fun(m:Nat)=>xs[((i:Int)+(m:Int)*1).toNat]?)=λm=>xs[i+m]? :=by
  funext m
  have:((i:Int)+(m:Int)*1).toNat=i+m:=ad
  rw[this]
 rw[e];have:=pick_run xs i k;rw[List.filterMap_map]at this;have e2:((λx=>xs[x]?)∘λx=>i+x)=λm=>xs[i+m]? :=rfl
 rw[e2]at this;rw[this]
theorem getItem_tuple_cut {t sl:Addr}{items:Array Value}{vl vu:Value}{lo hi:Option Int}{Q:Value->Shared->Prop}(ht:IsTup s.heap t items)(hs:s.heap.IsSliceOf sl vl vu .none)(pl:IsPart vl lo)(pu:IsPart vu hi)
  (hw: ¬(sIx items.size 0 lo=0/\sIx items.size items.size hi=items.size))
  (h:Q (.ref s.heap.objs.size) {s with heap:=s.heap.push {cls:= .type "tuple",data:= .seq ((items.toList.drop<|sIx items.size 0 lo).take<|sIx items.size items.size hi-sIx items.size 0 lo).toArray}})
  (hsz:items.size<=sizeLine):wpAny (model prog w) A (getItem (.ref t)<|.ref sl) Q E s:=by
 have htake:sizeOk (.seq ((items.toList.drop<|sIx items.size 0 lo).take<|sIx items.size items.size hi-sIx items.size 0 lo).toArray):=by
  show((items.toList.drop<|sIx items.size 0 lo).take<|sIx items.size items.size hi-sIx items.size 0 lo).toArray.size<=sizeLine
  rw[b6,pT,nK,aM0];omega
 have hj:sIx items.size items.size hi<=items.size:=sIx_le _ _ (aE _) hi;obtain⟨os,hos,hcs,hds⟩:=id hs;have hTs:s.TypeIs (.ref sl) "slice":=⟨os,hos,hcs⟩;unfold getItem;try with_reducible refine j3 ?_
 first|refine a8 (aH ?_)|skip
 refine a8 (wpAny_sequenceKey ht.typeIs ac ?_)
 refine a8 (kR (name:=Str.ofString "__getitem__") ht.typeIs yT
  (j0 yT ht.typeIs entry_tuple_getitem ?_<|args_tuple_getitem _ _))
 show wpAny _ _ (Builtin.Tuple.tupleItemsOf (.ref t) >>= _) _ _ s
 refine a8 (tupleItemsOf_ ht ?_)
 refine a8 (zQ hTs ?_)
 rw[a7 ac]
 refine a8 (xY hs pl pu ?_)
 have hno: ¬((((sIx items.size 0 lo:Nat):Int)==0&&(1:Int)==1&&(sIx items.size items.size hi-sIx items.size 0 lo)==items.size)=true):=by
  intro q;rw[dW,dW]at q;have q1:((sIx items.size 0 lo:Nat):Int)=0:=eq_of_beq q.1.1;have q2:sIx items.size items.size hi-sIx items.size 0 lo=items.size:=eq_of_beq q.2;exact hw ⟨aa,aa⟩
 show wpAny _ _ (if(((sIx items.size 0 lo:Nat):Int)==0&&(1:Int)==1&&(sIx items.size items.size hi-sIx items.size 0 lo)==items.size)=true then _ else _) _ _ s
 rw[a6 hno,d19]
 first
  | exact a8 (m:=Builtin.Tuple.tupleExact _) (iZ (aH ⟨_,rfl,aH h⟩) htake)
  | exact a8 (m:=Builtin.Tuple.tupleExact _) (iZ (a8<|aH<|aH ⟨_,rfl,aH h⟩) htake)
  | exact a8 (a8 (m:=Builtin.Tuple.tupleExact _)<|iZ (aH<|aH ⟨_,rfl,aH h⟩) htake)
  | exact a8 (a8 (m:=Builtin.Tuple.tupleExact _)<|iZ (aH ⟨_,rfl,aH h⟩) htake)
end
end HT
namespace L2
open PySem PySem.Spec PyProof.Rows
abbrev TO:=St->Hp->(Option Int->Hp->Prop)->Prop
def PO (X:Cx)(e:Option Expr)(t:TO):Prop:=
 ∀(pins:List (Addr×Obj)) (s:Shared) (σ:St) (H:Hp) (Q:Option Int->Hp->Prop),Inv X pins σ H s->t σ H Q->
  wpAny (model X.prog X.w) X.A (evalPart e X.env) (λu s'=> ∃o H',Inv X pins σ H' s'/\IsPart u o/\Q o H') X.xe s
def dG6:TO:=λ_ H Q=>Q none H
def tPart (t:TE):TO:=λσ H Q=>t σ H λx H1=> ∃i,x= .int i/\Q (some i) H1
theorem intsAre_of {ns:List Int}: ∀{us:List Value},Vals (ns.map V.int) us->IntsAre us ns:=by
 induction ns with
 | nil=>intro us r;rw[jX]at r;cases r;exact .nil
 | cons n ns ih=>
  intro us r;rw[dJ]at r;cases r with
  | cons r1 r2=>
   obtain⟨t,e⟩:=r1;subst e;exact .cons n t (ih r2)
section
variable {X:Cx}{e:Expr}{te:TE}{lo hi:Option Expr}{tl th:TO}{pos p2:Pos}
theorem dG7:PO X none dG6:=by
 intro pins s σ H Q I h;rw[evalPart_none];exact aH ⟨none,H,I,.none,h⟩
theorem dG8 (h:PE X e te):PO X (some e) (tPart te):=by
 intro pins s σ H Q I hw;rw[evalPart_some];refine thn (h pins s σ H _ I hw) λu s1 ⟨x,H1,I1,r1,q1⟩=> ?_
 obtain⟨i,rfl,q⟩:=q1;obtain⟨t,rfl⟩:=r1;exact⟨some i,H1,I1,.int i t,q⟩
def SlR (X:Cx)(r:V->Option Int->Option Int->Hp->VK->Prop):Prop:=
 ∀(pins:List (Addr×Obj)) (s:Shared) (σ:St) (H:Hp) (x:V) (v vl vu:Value) (lo hi:Option Int) (sl:Addr) (Q:VK),Inv X pins σ H s->RelV x v->s.heap.IsSliceOf sl vl vu .none->IsPart vl lo->IsPart vu hi->r x lo hi H Q->
  ∃T id,typeLookup (.type T) "__getitem__"=pure (some<|.builtin id)/\s.TypeIs v T/\wpAny (model X.prog X.w) X.A (getItem v<|.ref sl) (EP X pins σ Q) X.xe s
theorem SlR.or {r r':V->Option Int->Option Int->Hp->VK->Prop}(h:SlR X r)(h':SlR X r'):SlR X (λx lo hi H Q=>r x lo hi H Q\/r' x lo hi H Q):=by
 intro pins s σ H x v vl vu lo hi sl Q I rx hs pl pu q;rcases q with q|q
 ·exact h pins s σ H x v vl vu lo hi sl Q I rx hs pl pu q
 ·exact h' pins s σ H x v vl vu lo hi sl Q I rx hs pl pu q
def tSl (r:V->Option Int->Option Int->Hp->VK->Prop)(te:TE)(tl th:TO):TE:=λσ H Q=>te σ H λx H1=>tl σ H1 λl H2=>th σ H2 λu H3=>r x l u H3 Q
theorem c38 {r:V->Option Int->Option Int->Hp->VK->Prop}(hr:SlR X r)(he:PE X e te)(hl:PO X lo tl)(hu:PO X hi th):PE X (.Subscript e (.Slice lo hi none p2) pos) (tSl r te tl th):=by
 intro pins s σ H Q I h;refine Subscript_ (thn (he pins s σ H _ I h) λv s1 ⟨x,H1,I1,r1,q1⟩=> ?_)
 refine wpAny_Slice (thn (hl pins s1 σ H1 _ I1 q1) λvl s2 ⟨l,H2,I2,pl,q2⟩=>thn (hu pins s2 σ H2 _ I2 q2) λvu s3 ⟨u,H3,I3,pu,q3⟩=> ?_)
 rw[evalPart_none];refine aH ?_;have I4:Inv X pins σ H3 {s3 with heap:=s3.heap.push {cls:= .type "slice",data:= .fields #[vl,vu,.none]}}:=I3.kept (t':=s3.toks) λb ob q=>aS _ q
 obtain⟨T,id,hT,ht,hg⟩:=hr pins {s3 with heap:=s3.heap.push {cls:= .type "slice",data:= .fields #[vl,vu,.none]}} σ H3 x v vl vu l u s3.heap.objs.size Q I4 r1 (Heap.IsSliceOf.new ..) pl pu q3;show wpAny (model X.prog X.w) X.A (subscriptTail e (.Slice lo hi none p2) v<|.ref s3.heap.objs.size) (EP X pins σ Q) X.xe {s3 with heap:=s3.heap.push {cls:= .type "slice",data:= .fields #[vl,vu,.none]}}
 exact tail_any (ops:=[.ref s3.heap.objs.size,v]) ht hT hg (by with_unfolding_all rfl)
noncomputable def c39 (xs:List V)(lo hi:Option Int):List V:=(xs.drop<|HT.sIx xs.length 0 lo).take (HT.sIx xs.length xs.length hi-HT.sIx xs.length 0 lo)
theorem b28 (xs:List V)(lo hi:Option Int):(c39 xs lo hi).length<=xs.length:=by
 unfold c39;rw[pT,nK]
 lia
def rSlT (K:Frag):V->Option Int->Option Int->Hp->VK->Prop:=λx lo hi H Q=> ∃a xs,x= .ref a/\SqT K H a xs/\
 ¬(HT.sIx xs.length 0 lo=0/\HT.sIx xs.length xs.length hi=xs.length)/\ ∀p,H p=none->Q (.ref p) (upd H p<|.tup<|c39 xs lo hi)
theorem d20:SlR X (rSlT X.K):=by
 intro pins s σ H x v vl vu lo hi sl Q I rx hs pl pu h;obtain⟨a,xs,rfl,hx,hw,q⟩:=h;cases rx;obtain⟨its,r,ht,hz⟩:=I.tuple hx;have hlen:its.toArray.size=xs.length:=by rw[b6];exact r.length.symm
 refine⟨"tuple",_,PyProof.Rows.slot_tuple_getitem.lookup,ht.typeIs,?_⟩
 refine HT.getItem_tuple_cut ht hs pl pu (by rw[hlen];exact hw) ?_ (by rw[hlen];exact hz)
 rw[hlen];refine⟨.ref s.heap.objs.size,_,I.laid (t':=s.toks) (o:= .tup (c39 xs lo hi)) (λb ob q=>aS _ q) (aE _) ?_,rfl,q _<|I.hok.fresh<|aE _⟩
 exact⟨aM (b28 xs lo hi) hz,_,(r.drop<|HT.sIx xs.length 0 lo).take<|HT.sIx xs.length xs.length hi-HT.sIx xs.length 0 lo,qA _ _⟩
def rCatT (K:Frag):R2:=λx y H Q=> ∃a b xs ys,x= .ref a/\y= .ref b/\SqT K H a xs/\SqT K H b ys/\xs≠[]/\xs.length+ys.length<=sizeLine/\
 (ys=[]->Q (.ref a) H)/\(ys≠[]-> ∀p,H p=none->Q (.ref p) (upd H p<|.tup<|xs++ys))
theorem Vals.nil_iff {xs:List V}{us:List Value}(r:Vals xs us):us=[]↔xs=[]:=by
 cases r with
 | nil=>simp
 | cons _ _=>simp
theorem dG9:OpR X (binaryOp .Add) (rCatT X.K):=by
 intro pins s σ H x y v u Q I rx ry h;obtain⟨a,b,xs,ys,rfl,rfl,ha,hb,hx,hz,q1,q2⟩:=h;cases rx;cases ry;obtain⟨its,r1,p1,_⟩:=I.tuple ha;obtain⟨its2,r2,p2,_⟩:=I.tuple hb;refine HT.cat_tup p1 p2 (λz=>hx (r1.nil_iff.mp z)) (λz=>⟨.ref a,H,I,rfl,q1<|r2.nil_iff.mp z⟩) (λz=> ?_) (by rw[<-r1.length,<-r2.length];exact hz)
 refine⟨.ref s.heap.objs.size,_,I.laid (t':=s.toks) (o:= .tup (xs++ys)) (λb ob q=>aS _ q) (aE _) ?_,rfl,q2 (λw=>z (r2.nil_iff.mpr w)) _<|I.hok.fresh<|aE _⟩
 exact⟨by rw[bN];exact hz,_,r1.append r2,qA _ _⟩
end
end L2
namespace L2
open PySem PySem.Spec PyProof.Rows
noncomputable def ixN (n:Nat)(i:Int):Option Nat:=if 0<=i then(if i<n then some i.toNat else none)else if -(n:Int)<=i then some (i+n).toNat else none
noncomputable def atI {α:Type}(xs:List α)(i:Int):Option α:=(ixN xs.length i).bind λj=>xs[j]?
theorem cN7 {n:Nat}{i:Int}{j:Nat}(h:ixN n i=some j):seqIndex? i n=some j/\j<n/\ -(n:Int)<=i/\i<n:=by
 unfold ixN at h
 by_cases h0:0<=i
 ·rw[a7 h0]at h
  by_cases h1:i<n
  ·rw[a7 h1]at h;have e:i.toNat=j:=iF h;exact⟨by rw[zX h0 h1,e],ad,ad,h1⟩
  ·rw[a6 h1]at h;cases h
 ·rw[a6 h0]at h
  by_cases h1: -(n:Int)<=i
  ·rw[a7 h1]at h;have e:(i+n).toNat=j:=iF h;exact⟨by rw[zR ad h1,e],ad,h1,ad⟩
  ·rw[a6 h1]at h;cases h
theorem b74 {α:Type}{xs:List α}{i:Int}{v:α}(h:atI xs i=some v): ∃j,seqIndex? i xs.length=some j/\xs[j]? =some v/\j<xs.length/\ -(xs.length:Int)<=i/\i<xs.length:=by
 unfold atI at h;cases e:ixN xs.length i with
 | none=>rw[e]at h;cases h
 | some j=>
  rw[e]at h;obtain⟨h1,h2,h3,h4⟩:=cN7 e;exact⟨j,h1,h,h2,h3,h4⟩
theorem cS {α:Type}{xs:List α}{j:Nat}{v:α}(h:xs[j]? =some v):atI xs (j:Int)=some v:=by
 have hj:j<xs.length:=(kQ.mp h).1;have e:ixN xs.length (j:Int)=some j:=by
  unfold ixN;rw[a7 ad,a7 ad];simp
 unfold atI;rw[e];exact h
theorem d21 {α:Type}(xs:List α)(v:α):atI (xs++[v]) (-1)=some v:=by
 have hl:(xs++[v]).length=xs.length+1:=ae
 have e:ixN (xs++[v]).length (-1)=some xs.length:=by
  unfold ixN;rw[hl,a6 ac,a7 ad]
  congr 1
  lia
 unfold atI;rw[e];show(xs++[v])[xs.length]? =some v;simp
def bT9 (b:Expr):Prop:= ∀o i,subscripted b false o i=operate [o,i] (getItem o i)
def IxR (X:Cx)(r:R2):Prop:=
 ∀(value slice:Expr) (pins:List (Addr×Obj)) (s:Shared) (σ:St) (H:Hp) (x y:V) (v u:Value) (Q:VK),Inv X pins σ H s->RelV x v->RelV y u->r x y H Q->
  subscripted slice false v u=operate [v,u] (getItem v u)->wpAny (model X.prog X.w) X.A (subscriptTail value slice v u) (EP X pins σ Q) X.xe s
def MtR (X:Cx)(id:String)(r:V->List V->Hp->VK->Prop):Prop:=
 ∀(pins:List (Addr×Obj)) (s:Shared) (σ:St) (H:Hp) (x:V) (xs:List V) (v:Value) (us:List Value) (Q:VK),Inv X pins σ H s->RelV x v->Vals xs us->r x xs H Q->
  wpAny (model X.prog X.w) X.A (call (.builtin id) (v::us)) (EP X pins σ Q) X.xe s
section
variable {X:Cx}{a b:Expr}{ta tb:TE}{pos:Pos}
theorem IxR.or {r r':R2}(h:IxR X r)(h':IxR X r'):IxR X (λx y H Q=>r x y H Q\/r' x y H Q):=by
 intro value slice pins s σ H x y v u Q I rx ry q hs;rcases q with q|q
 ·exact h value slice pins s σ H x y v u Q I rx ry q hs
 ·exact h' value slice pins s σ H x y v u Q I rx ry q hs
theorem pe_ix {r:R2}(hr:IxR X r)(ha:PE X a ta)(hb:PE X b tb)(hs:bT9 b):PE X (.Subscript a b pos) (tOp r ta tb):=by
 intro pins s σ H Q I h;exact Subscript_ (binT ha hb I h λv u s2 x y H2 I2 rx ry q=>hr a b pins s2 σ H2 x y v u Q I2 rx ry q (hs _ _))
def rIxL (K:Frag):R2:=λx y H Q=> ∃p xs i v,x= .ref p/\y= .int i/\SqL K H p xs/\atI xs i=some v/\Q v H
def rIxT (K:Frag):R2:=λx y H Q=> ∃p xs i v,x= .ref p/\y= .int i/\SqT K H p xs/\atI xs i=some v/\Q v H
def rIxS:R2:=λx y H Q=> ∃z i c,x= .str z/\y= .int i/\z.length<=sizeLine/\atI z.cps.toList i=some c/\Q (.str ⟨#[c]⟩) H
theorem dH0:IxR X (rIxL X.K):=by
 intro value slice pins s σ H x y v u Q I rx ry h hs;obtain⟨p,xs,i,z,rfl,rfl,hq,he,q⟩:=h;cases rx;obtain⟨t,rfl⟩:=ry;obtain⟨its,r,pl,hz⟩:=I.list hq;obtain⟨j,h1,h2,h3,h4,h5⟩:=b74 he;obtain⟨w,ew,rw'⟩:=r.get h2;have hl:=r.length;have hn:=aX6;have fin:EP X pins σ Q w s:=⟨z,H,I,rw',q⟩
 by_cases h0:0<=i
 ·have hj:i.toNat=j:=by
   rw[zX h0 h5]at h1;exact iF h1
  exact item_listR pl.isList h0 ad (by rw[hj];simpa using ew) fin hs
 ·have hj:(i+(its.toArray.size:Int)).toNat=j:=by
   rw[zR ad h4]at h1
   rw[b6,<-hl];exact iF h1
  exact subscriptTail_builtinR (x:=w) pl.isList.typeIs slot_list_getitem.lookup
   (wpAny_getItem_list_neg (Q:=λr s'=>r=w/\EP X pins σ Q r s') pl.isList ad (by rw[b6]<;>lia) ad (by rw[hj];simpa using ew) ⟨rfl,fin⟩) hs
theorem ix_tup:IxR X (rIxT X.K):=by
 intro value slice pins s σ H x y v u Q I rx ry h hs;obtain⟨p,xs,i,z,rfl,rfl,hq,he,q⟩:=h;cases rx;obtain⟨t,rfl⟩:=ry;obtain⟨its,r,pl,hz⟩:=I.tuple hq;obtain⟨j,h1,h2,h3,h4,h5⟩:=b74 he;obtain⟨w,ew,rw'⟩:=r.get h2;have hl:=r.length;have hn:=aX6;have fin:EP X pins σ Q w s:=⟨z,H,I,rw',q⟩;exact subscriptTail_builtinR (x:=w) pl.typeIs slot_tuple_getitem.lookup
  (getItem_tuple (j:=j) (Q:=λr s'=>r=w/\EP X pins σ Q r s') pl ad ad (by rw[b6,<-hl];exact h1) (by simpa using ew) ⟨rfl,fin⟩) hs
theorem ix_str:IxR X rIxS:=by
 intro value slice pins s σ H x y v u Q I rx ry h hs;obtain⟨z,i,c,rfl,rfl,hz,he,q⟩:=h;obtain⟨t,rfl⟩:=rx;obtain⟨t',rfl⟩:=ry;obtain⟨j,h1,h2,h3,h4,h5⟩:=b74 he;have hl:z.cps.toList.length=z.length:=by simp[Str.length]
 rw[hl]at h1 h4 h5;have hn:=aX6;exact tail_any (typeIs_str s z t) slot_str_getitem.lookup (getItem_str (c:=c) (by
  have e1:decide (i< -(2^63:Int))=false:=gK ad
  have e2:decide (i≥2^63)=false:=gK ad
  rw[e1,e2,Bool.or_false]) (by rw[h1];simpa using h2) ⟨.str ⟨#[c]⟩,H,I.tok _,⟨_,rfl⟩,q⟩) hs
def rIx (K:Frag):R2:=λx y H Q=>rIxL K x y H Q\/rIxT K x y H Q\/rIxS x y H Q
theorem ix_seq:IxR X (rIx X.K):=dH0.or (ix_tup.or ix_str)
theorem cF1 (its:List Value)(n j:Nat)(u:Value):Obj.mapSeq (·.setIfInBounds j u) {cls:= .type "list",data:= .seq its.toArray n}={cls:= .type "list",data:= .seq (its.set j u).toArray n}:=by
 simp[Obj.mapSeq]
theorem Inv.lst {pins:List (Addr×Obj)}{σ:St}{H:Hp}{s:Shared}{p:Addr}{xs:List V}(I:Inv X pins σ H s)(h:H p=some (.lst xs)) :
  ∃(its:List Value) (n:Nat),Vals xs its/\s.heap.get? p=some {cls:= .type "list",data:= .seq its.toArray n}/\xs.length<=sizeLine:=by
 obtain⟨z,its,n,r,e⟩:=I.hok p _ h;exact⟨its,n,r,e,z⟩
theorem Inv.lstUpd {pins:List (Addr×Obj)}{σ:St}{H:Hp}{s:Shared}{p:Addr}{xs ys:List V}{its its':List Value}{n n':Nat}{f:Obj->Obj}(I:Inv X pins σ H s)(h:H p=some (.lst xs))
  (ho:s.heap.get? p=some {cls:= .type "list",data:= .seq its.toArray n}) (hf:f {cls:= .type "list",data:= .seq its.toArray n}={cls:= .type "list",data:= .seq its'.toArray n'}) (r:Vals ys its') (hz:ys.length<=sizeLine) (t:Nat) :
  Inv X pins σ (upd H p<|.lst ys) {s with heap:=s.heap.update p f,toks:=t}:=by
 have e:(s.heap.update p f).get? p=some {cls:= .type "list",data:= .seq its'.toArray n'}:=by
  rw[pJ f ho (by rw[hf]<;>rfl),hf]
 refine I.write (x:=p) (e:=p) (by rw[h];trivial) (.inl rfl) (λb u hb q=>(aK9 _ _<|Ne.symm hb).trans q) ⟨_,e⟩ ?_
 exact⟨hz,its',n',r,e⟩
def rSetL:V->V->V->Hp->(Hp->Prop)->Prop:=λo i v H Q=> ∃p xs k j,o= .ref p/\i= .int k/\H p=some (.lst xs)/\ixN xs.length k=some j/\Q (upd H p<|.lst<|xs.set j v)
theorem c40:PSet X rSetL:=by
 intro pins s σ H o i v ov iv u Q I ro ri rv h;obtain⟨p,xs,k,j,rfl,rfl,hp,hj,q⟩:=h;cases ro;obtain⟨t,rfl⟩:=ri;obtain⟨its,n,r,ho,hz⟩:=I.lst hp;obtain⟨h1,h2,h3,h4⟩:=cN7 hj;have hl:=r.length;have hn:=aX6;have I':Inv X pins σ (upd H p<|.lst<|xs.set j v) {s with heap:=s.heap.update p (Obj.mapSeq (·.setIfInBounds j u))}:=
  I.lstUpd hp ho (cF1 its n j u) (r.set rv j) (by rw[eE];exact hz) s.toks
 by_cases h0:0<=k
 ·have hk:k.toNat=j:=by
   rw[zX h0 h4]at h1;exact iF h1
  exact PySem.W.ki_setAt ho h0 ad (by rw[b6,<-hl];exact h4) (by rw[hk];exact⟨_,I',q⟩)
 ·have hk:(k+(its.toArray.size:Int)).toNat=j:=by
   rw[zR ad h3]at h1
   rw[b6,<-hl];exact iF h1
  exact PySem.W.ki_setBack ho ad (by rw[b6,<-hl];exact h3) ad (by rw[hk];exact⟨_,I',q⟩)
theorem bU0 (lo hi:Option Int)(n:Nat):(sliceBounds lo hi none n).1=((HT.sIx n 0 lo:Nat):Int)/\(sliceBounds lo hi none n).2.1=((HT.sIx n n hi:Nat):Int)/\(sliceBounds lo hi none n).2.2=1:=by
 refine⟨?_,?_,rfl⟩
 ·cases lo with
  | none=>simp[sliceBounds,HT.sIx]
  | some i=>
   simp only[sliceBounds,HT.sIx,getD_none,show(1:Int)>0 by decide,bZ]
   by_cases h:i<0
   ·simp only[h,bZ]<;>lia
   ·simp only[h,eG]<;>lia
 ·cases hi with
  | none=>simp[sliceBounds,HT.sIx]
  | some i=>
   simp only[sliceBounds,HT.sIx,getD_none,show(1:Int)>0 by decide,bZ]
   by_cases h:i<0
   ·simp only[h,bZ]<;>lia
   ·simp only[h,eG]<;>lia
theorem bK0 (its:List Value)(lo hi:Option Int):slicePick its.toArray lo hi none=((its.drop<|HT.sIx its.length 0 lo).take<|HT.sIx its.length its.length hi-HT.sIx its.length 0 lo).toArray:=by
 obtain⟨h1,h2,h3⟩:=bU0 lo hi its.toArray.size;unfold slicePick;rw[h1,h2,h3];simp only[sliceRange_one,pick_run,b6]<;>rfl
def rSlL (K:Frag):V->Option Int->Option Int->Hp->VK->Prop:=λx lo hi H Q=> ∃a xs,x= .ref a/\SqL K H a xs/\ ∀p,H p=none->Q (.ref p) (upd H p<|.lst<|c39 xs lo hi)
theorem cN8:SlR X (rSlL X.K):=by
 intro pins s σ H x v vl vu lo hi sl Q I rx hs pl pu h;obtain⟨a,xs,rfl,hx,q⟩:=h;cases rx;obtain⟨its,r,ht,hz⟩:=I.list hx;have hlen:=r.length;refine⟨"list",_,slot_list_getitem.lookup,ht.isList.typeIs,?_⟩;refine wpAny_getItem_list_slice ht.isList hs pl pu .none ae ?_ (by rw[b6]<;>lia)
 rw[bK0,<-hlen];refine⟨.ref s.heap.objs.size,_,I.laid (t':=s.toks) (o:= .lst (c39 xs lo hi)) (λb ob q=>aS _ q) (aE _) ?_,rfl,q _<|I.hok.fresh<|aE _⟩
 exact⟨aM (b28 xs lo hi) hz,_,0,(r.drop<|HT.sIx xs.length 0 lo).take<|HT.sIx xs.length xs.length hi-HT.sIx xs.length 0 lo,bU _ rfl⟩
noncomputable def aR7:V->Bool
 | .non=>true
 | .bl _=>true
 | .int _=>true
 | .str _=>true
 | _=>false
noncomputable def eqV:V->V->Bool
 | .non,.non=>true
 | .bl a,.bl b=>a==b
 | .bl a,.int b=>(if a then 1 else 0)==b
 | .int a,.bl b=>a==(if b then 1 else 0)
 | .int a,.int b=>a==b
 | .str a,.str b=>a==b
 | _,_=>false
theorem eqAt_V {A:Around}{s:Shared}{y x:V}{u v:Value}(ry:RelV y u)(rx:RelV x v)(fy:aR7 y=true)(fx:aR7 x=true):SeqAt.EqAt A s u v (eqV y x):=by
 cases y with
 | non=>
  cases ry;cases x with
  | non=>cases rx;exact SeqAt.EqAt.same _
  | bl b=>cases rx;exact SeqAt.EqAt.none_bool b
  | int b=>obtain⟨t,rfl⟩:=rx;exact SeqAt.EqAt.none_int b t
  | str b=>obtain⟨t,rfl⟩:=rx;exact SeqAt.EqAt.none_str b t
  | _=>exact absurd (show false=true from fx) bC
 | bl a=>
  cases ry;cases x with
  | non=>cases rx;exact SeqAt.EqAt.bool_none a
  | bl b=>cases rx;exact SeqAt.EqAt.bool_bool a b
  | int b=>obtain⟨t,rfl⟩:=rx;exact SeqAt.EqAt.bool_int a b t
  | str b=>obtain⟨t,rfl⟩:=rx;exact SeqAt.EqAt.bool_str a b t
  | _=>exact absurd (show false=true from fx) bC
 | int a=>
  obtain⟨t',rfl⟩:=ry;cases x with
  | non=>cases rx;exact SeqAt.EqAt.int_none a t'
  | bl b=>cases rx;exact SeqAt.EqAt.int_bool a t' b
  | int b=>obtain⟨t,rfl⟩:=rx;exact SeqAt.EqAt.int_int a t' b t
  | str b=>obtain⟨t,rfl⟩:=rx;exact SeqAt.EqAt.int_str a t' b t
  | _=>exact absurd (show false=true from fx) bC
 | str a=>
  obtain⟨t',rfl⟩:=ry;cases x with
  | non=>cases rx;exact SeqAt.EqAt.str_none a t'
  | bl b=>cases rx;exact SeqAt.EqAt.str_bool a t' b
  | int b=>obtain⟨t,rfl⟩:=rx;exact SeqAt.EqAt.str_int a t' b t
  | str b=>obtain⟨t,rfl⟩:=rx;exact SeqAt.EqAt.str_str a t' b t
  | _=>exact absurd (show false=true from fx) bC
 | _=>exact absurd (show false=true from fy) bC
noncomputable def eqU (x:V)(u:Value):Bool:=match u with
 | .none=>eqV .non x
 | .bool b=>eqV (.bl b) x
 | .int i _=>eqV (.int i) x
 | .str z _=>eqV (.str z) x
 | _=>false
theorem d22 {x y:V}{u:Value}(r:RelV y u)(f:aR7 y=true):eqU x u=eqV y x:=by
 cases y with
 | non=>cases r;rfl
 | bl b=>cases r;rfl
 | int i=>obtain⟨t,rfl⟩:=r;rfl
 | str z=>obtain⟨t,rfl⟩:=r;rfl
 | _=>exact absurd (show false=true from f) bC
theorem bU1 {x:V}: ∀{xs:List V} {us:List Value},Vals xs us->xs.all aR7=true->us.any (eqU x)=xs.any λy=>eqV y x
 | _,_,.nil,_=>rfl
 | y::xs,u::us,.cons r t,f=>by
  rw[all_cons,dW]at f;rw[any_cons,any_cons,d22 r f.1,bU1 t f.2]
theorem bA1 {A:Around}{s:Shared}{x:V}{v:Value}(rx:RelV x v)(fx:aR7 x=true): ∀{xs:List V} {us:List Value},Vals xs us->xs.all aR7=true-> ∀u∈us,SeqAt.EqAt A s u v (eqU x u)
 | _,_,.nil,_=>λu hu=>by cases hu
 | y::xs,u::us,.cons r t,f=>λu' hu=>by
  rw[all_cons,dW]at f;rcases aX.mp hu with rfl|hu
  ·rw[d22 r f.1];exact eqAt_V r rx f.1 fx
  ·exact bA1 rx fx t f.2 u' hu
noncomputable def inV (x:V)(xs:List V):Bool:=xs.any λy=>eqV y x
def rIn (K:Frag)(neg:Bool):R2:=λx y H Q=> ∃p xs,y= .ref p/\(SqL K H p xs\/SqT K H p xs)/\aR7 x=true/\xs.all aR7=true/\Q (.bl<|if neg then !inV x xs else inV x xs) H
theorem bU2:OpR X (compareOp .NotIn) (rIn X.K true):=by
 intro pins s σ H x y v u Q I rx ry h;obtain⟨p,xs,rfl,hq,fx,fs,q⟩:=h;cases ry;rcases hq with hq|hq
 ·obtain⟨its,r,pl,hz⟩:=I.list hq;refine SeqAt.notIn_listAt (eqU x) pl.isList (λw hw=>bA1 rx fx r fs w (by simpa using hw)) ⟨.bl _,H,I,rfl,?_⟩
  rw[show its.toArray.any (eqU x)=its.any (eqU x)by simp,bU1 r fs]
  exact q
 ·obtain⟨its,r,pl,hz⟩:=I.tuple hq;refine SeqAt.notIn_tupleAt (eqU x) pl (λw hw=>bA1 rx fx r fs w (by simpa using hw)) ⟨.bl _,H,I,rfl,?_⟩
  rw[show its.toArray.any (eqU x)=its.any (eqU x)by simp,bU1 r fs]
  exact q
theorem bU3:oZ X (.builtin "len") (λxs H Q=> ∃p ys,xs=[.ref p]/\(SqL X.K H p ys\/SqT X.K H p ys)/\Q (.int ys.length) H):=by
 intro pins s σ H xs us Q I r h;obtain⟨p,ys,rfl,hq,q⟩:=h;obtain⟨u,rfl,rx⟩:=vals1 r;cases rx;have hn:=aX6;rcases hq with hq|hq
 ·obtain⟨its,r',pl,hz⟩:=I.list hq;have hlen:=r'.length;exact Calls.call_len_list pl.isList (by simp only[b6]<;>lia) ⟨.int ys.length,H,I.tok _,⟨s.toks+1,by rw[b6,hlen]⟩,q⟩
 ·obtain⟨its,r',pl,hz⟩:=I.tuple hq;have hlen:=r'.length;exact len_tuple pl (by simp only[b6]<;>lia) ⟨.int ys.length,H,I.tok _,⟨s.toks+1,by rw[b6,hlen]⟩,q⟩
theorem bU4:oZ X (.type "list") (λxs H Q=> ∃p ys,xs=[.ref p]/\(SqL X.K H p ys\/SqT X.K H p ys)/\ ∀l,H l=none->Q (.ref l) (upd H l<|.lst ys)):=by
 intro pins s σ H xs us Q I r h;obtain⟨p,ys,rfl,hq,q⟩:=h;obtain⟨u,rfl,rx⟩:=vals1 r;cases rx;have fin: ∀(its:List Value),Vals ys its->ys.length<=sizeLine-> ∀(h':Heap) (c':Nat),(∀b o',s.heap.get? b=some o'->h'.get? b=some o')->
   h'.get? s.heap.objs.size=some {cls:= .type "list",dict:=none,data:= .seq its.toArray c',slots:= #[]}->EP X pins σ Q (.ref s.heap.objs.size) {s with heap:=h'}:=λits r' hz h' c' kp e=>
  ⟨.ref s.heap.objs.size,_,I.laid (t':=s.toks) kp (aE _)<|show rB X.prog X.w _ h' _ (.lst ys)from⟨hz,its,c',r',e⟩,rfl,q _<|I.hok.fresh<|aE _⟩
 rcases hq with hq|hq
 ·obtain⟨its,r',pl,hz⟩:=I.list hq;have hlen:=r'.length;obtain⟨o,ho,hc,n,hd⟩:=pl.isList;exact call_list_seq p (.inl rfl) ho hc hd (λh' c' kp e=>fin its r' hz h' c' kp e) (by simp only[b6]<;>lia)
 ·obtain⟨its,r',pl,hz⟩:=I.tuple hq;have hlen:=r'.length;obtain⟨o,ho,hc,n,hd⟩:=pl;exact call_list_seq p (.inr rfl) ho hc hd (λh' c' kp e=>fin its r' hz h' c' kp e) (by simp only[b6]<;>lia)
theorem wH:oZ X (.type "tuple") (λxs H Q=> ∃p ys,xs=[.ref p]/\((SqL X.K H p ys/\ ∀l,H l=none->Q (.ref l) (upd H l<|.tup ys))\/(SqT X.K H p ys/\Q (.ref p) H))):=by
 intro pins s σ H xs us Q I r h;obtain⟨p,ys,rfl,h⟩:=h;obtain⟨u,rfl,rx⟩:=vals1 r;cases rx;rcases h with⟨hq,q⟩| ⟨hq,q⟩
 ·obtain⟨its,r',pl,hz⟩:=I.list hq;have hlen:=r'.length;refine call_tuple_list pl.isList (λh' kp=> ?_) (by simp only[b6]<;>lia)
  have I1:Inv X pins σ H {s with heap:=h'}:=I.kept (t':=s.toks) kp;have I2:Inv X pins σ (upd H h'.objs.size<|.tup ys) {s with heap:=h'.push {cls:= .type "tuple",data:= .seq its.toArray}}:=
   I1.laid (t':=s.toks) (λb o e=>aS _ e) (aE _) (show rB X.prog X.w _ _ _ (.tup ys)from⟨hz,its,r',qA _ _⟩)
  exact⟨.ref h'.objs.size,_,I2,rfl,q _<|I1.hok.fresh<|aE _⟩
 ·obtain⟨its,r',pl,hz⟩:=I.tuple hq;exact call_tuple_same pl ⟨.ref p,H,I,rfl,q⟩
def tyV (K:Frag)(T:String)(x:V)(H:Hp):Prop:=match x with
 | .str _=>T="str"
 | .int _=>T="int"
 | .ref p=>(T="list"/\ ∃xs,SqL K H p xs)\/(T="tuple"/\ ∃o,K.lookup p=some o/\o.cls= .type "tuple"/\o.dict=none)\/
   (T="dict"/\((∃kvs,H p=some (.dK kvs))\/ ∃kvs,H p=some (.dT kvs)))\/(T="set"/\ ∃S n,H p=some (.set S n))
 | _=>False
theorem tyV_is {pins:List (Addr×Obj)}{σ:St}{H:Hp}{s:Shared}{T:String}{x:V}{v:Value}(I:Inv X pins σ H s)(r:RelV x v)(ty:tyV X.K T x H) :
  s.TypeIs v T/\ ∀a,v= .ref a-> ∃ob,s.heap.get? a=some ob/\ob.dict=none:=by
 cases x with
 | str z=>
  obtain⟨t,rfl⟩:=r;cases (show T="str" from ty)
  exact⟨typeIs_str s z t,λ_ e=>nomatch e⟩
 | int i=>
  obtain⟨t,rfl⟩:=r;cases (show T="int" from ty)
  exact⟨pZ s i t,λ_ e=>nomatch e⟩
 | ref p=>
  cases r;rcases ty with⟨rfl,xs,hq⟩| ⟨rfl,o,hk,hc,hd⟩| ⟨rfl,hk⟩| ⟨rfl,S,n,hk⟩
  ·obtain⟨its,_,pl,_⟩:=I.list hq;refine⟨pl.isList.typeIs,λa e=> ?_⟩
   cases e;obtain⟨o,n,e,c,hd,_⟩:=pl;exact⟨o,e,hd⟩
  ·refine⟨⟨o,I.kIn p o hk,hc⟩,λa e=> ?_⟩
   cases e;exact⟨o,I.kIn _ o hk,hd⟩
  ·have z: ∃o,s.heap.get? p=some o/\o.ExactDict:=by
    rcases hk with⟨kvs,hk⟩| ⟨kvs,hk⟩
    ·obtain⟨_,_,_,_,o,_,_,e,ex,_⟩:=I.hok p _ hk;exact⟨o,e,ex⟩
    ·obtain⟨_,_,_,_,o,_,_,e,ex,_⟩:=I.hok p _ hk;exact⟨o,e,ex⟩
   obtain⟨o,e,ex⟩:=z;refine⟨⟨o,e,ex.1⟩,λa e2=> ?_⟩
   cases e2;exact⟨o,e,ex.2.1⟩
  ·obtain⟨o,_,_,_,e,ex,_⟩:=I.hok p _ hk;refine⟨⟨o,e,ex.1⟩,λa e2=> ?_⟩
   cases e2;exact⟨o,e,ex.2.1⟩
 | _=>exact False.elim ty
def tBM (K:Frag)(T:String)(r:V->List V->Hp->VK->Prop)(to:TE)(t:TA):TE:=λσ H Q=>to σ H λx H1=>tyV K T x H1/\t σ H1 λxs H2=>r x xs H2 Q
variable {o e:Expr}{es:List Expr}{to:TE}{t:TA}{name:Str}{apos cpos:Pos}{T id:String}{r:V->List V->Hp->VK->Prop}
theorem dQ5 (pa:PlainAttrs T)(slot:Slot T name id)(hty:typeOf (.builtin id)=pure (.type "method_descriptor"))(hm:MtR X id r)(ho:PE X o to)(ha:PA X (e::es) t)
  (hbase:attributeBase o name X.env (eval o X.env)=eval o X.env:=by rfl)
  (hfew:((backTo cpos<|starEach (e::es) X.env).all (λx=> !x.1)&&(backToKw cpos<|keywordEach [] X.env).all (λx=>x.1.isSome)
   &&decide ((e::es).length+([]:List Keyword).length+(if([]:List Keyword).isEmpty then 0 else 1)<30))=true:=by rfl)
  (hline:(apos.endLine==cpos.line)=true:=by rfl) (hs:starEach (e::es) X.env=(false,eval e X.env)::starEach es X.env:=by rfl) (hplain:(backTo cpos<|starEach es X.env).any (·.1)=false:=by rfl) :
  PE X (.Call (.Attribute o name apos) (e::es) [] cpos) (tBM X.K T r to t):=by
 intro pins s σ H Q I h;refine wpAny_Call_method_late hbase hfew hline rfl (thn (ho pins s σ H _ I h) λv s1 ⟨x,H1,I1,r1,ty,q1⟩=> ?_)
 obtain⟨h1,h2⟩:=tyV_is I1 r1 ty;refine⟨T,id,pa,slot,hty,h1,h2,?_⟩;have hA:=ha cpos pins s1 σ H1 _ I1 q1;rw[hs]at hA⊢;refine Calls.callWith_builtin (by show(false||(backTo cpos<|starEach es X.env).any (·.1))=false;rw[hplain]<;>rfl) (aL3 ?_)
 exact thn hA λus s2 ⟨vs,H2,I2,r2,q2⟩=>hm pins s2 σ H2 x vs v us Q I2 r1 r2 q2
end
end L2
namespace L2
open PySem PySem.Spec PyProof.Rows
def MtM (X:Cx)(id:String)(r:V->List V->Hp->VK->Prop):Prop:=
 ∀(pins:List (Addr×Obj)) (s:Shared) (σ:St) (H:Hp) (x:V) (xs:List V) (v:Value) (us:List Value) (Q:VK),Inv X pins σ H s->RelV x v->Vals xs us->r x xs H Q->
  wpAny (model X.prog X.w) X.A (call (.builtin id) (v::us)) (EP X pins σ Q) X.xe s
theorem Vals.one {x:V}{us:List Value}(h:Vals [x] us): ∃u,us=[u]/\RelV x u:=by
 cases h with
 | cons r q=>cases q;exact⟨_,rfl,r⟩
theorem Vals.two {x y:V}{us:List Value}(h:Vals [x,y] us): ∃u v,us=[u,v]/\RelV x u/\RelV y v:=by
 cases h with
 | cons r q=>obtain⟨u,rfl,s⟩:=Vals.one q;exact⟨_,_,rfl,r,s⟩
theorem Vals.rep {xs:List V}{us:List Value}(h:Vals xs us): ∀k:Nat,Vals (replicate k xs).flatten (replicate k us).flatten
 | 0=> .nil
 | k+1=>by
  rw[jU,jU,nG,nG];exact Vals.append h (Vals.rep h k)
theorem foldl_rep (its:List Value): ∀(k:Nat) (acc:List Value),
  foldl (λx1 x2=>x1++x2) acc.toArray (replicate k its.toArray)=(acc++(replicate k its).flatten).toArray
 | 0,acc=>ae
 | k+1,acc=>by
  have e:acc.toArray++its.toArray=(acc++its).toArray:=ae
  have e2:(acc++its)++(replicate k its).flatten=acc++(replicate (k+1) its).flatten:=by
   rw[jU,nG,List.append_assoc]
  rw[<-e2,<-foldl_rep its k (acc++its),<-e,jU,List.foldl_cons]
section
variable {X:Cx}{pins:List (Addr×Obj)}{σ:St}{H:Hp}{s:Shared}{l b:Addr}{xs ys zs:List V}
theorem Inv.lset {its its':List Value}{n:Nat}{f:Array Value->Array Value}{t':Nat}(I:Inv X pins σ H s)(hH:H l=some (.lst xs))
  (e:s.heap.get? l=some {cls:= .type "list",data:= .seq its.toArray n}) (hf:f its.toArray=its'.toArray) (hv:Vals ys its') (hz:ys.length<=sizeLine) :
  Inv X pins σ (upd H l<|.lst ys) {s with heap:=s.heap.update l (Obj.mapSeq f),toks:=t'}:=by
 have q:=PySem.IsL.update e f;rw[hf]at q;refine I.write (x:=l) (e:=l) (by rw[hH];exact trivial) (.inl rfl) (λb' u hb hu=>(aK9 s.heap (Obj.mapSeq f)<|Ne.symm hb).trans hu) ⟨_,q⟩ ?_
 exact⟨hz,its',_,hv,q⟩
theorem Inv.lnew {its:List Value}{t':Nat}(I:Inv X pins σ H s)(hv:Vals ys its)(hz:ys.length<=sizeLine) :
  Inv X pins σ (upd H s.heap.objs.size<|.lst ys) {s with heap:=s.heap.push {cls:= .type "list",data:= .seq its.toArray},toks:=t'}:=
 I.laid (λ_ _ q=>aS _ q) (aE _) ⟨hz,its,0,hv,bU _ rfl⟩
theorem Inv.fresh (I:Inv X pins σ H s):H s.heap.objs.size=none:=I.hok.fresh (aE _)
theorem Inv.lstM (I:Inv X pins σ H s)(hH:H l=some (.lst xs)):xs.length<=sizeLine/\ ∃(its:List Value) (n:Nat),Vals xs its/\xs.length=its.length/\s.heap.get? l=some {cls:= .type "list",data:= .seq its.toArray n}:=by
 obtain⟨z,its,n,r,e⟩:=I.hok l _ hH;exact⟨z,its,n,r,r.length,e⟩
theorem c41 {n:Nat}(h:n<=sizeLine):Builtin.List.listTooLong n=false:=by
 unfold Builtin.List.listTooLong;exact gK ad
end
section
variable {X:Cx}
def dH1:V->List V->Hp->VK->Prop:=λx vs H Q=> ∃l xs y,x= .ref l/\vs=[y]/\H l=some (.lst xs)/\xs.length<sizeLine/\Q .non (upd H l<|.lst<|xs++[y])
theorem bO6:MtM X "list.append" dH1:=by
 intro pins s σ H x vs v us Q I rx rv h;obtain⟨l,xs,y,rfl,rfl,hH,hz,q⟩:=h;cases rx;obtain⟨u,rfl,ru⟩:=rv.one;obtain⟨z,its,n,r,hl,e⟩:=I.lstM hH;refine k8 F.slot_list_append ⟨_,e,rfl⟩ F.entry_list_append (F.args_list_append_2 _ _) (PySem.list_append l its.toArray n u (by rw[b6];lia)) ⟨e,?_⟩
 refine⟨.non,_,I.lset (its':=its++[u]) hH e ae (r.append<|.cons ru .nil) ?_,rfl,q⟩
 rw[bN,yY]
 lia
def rCat:R2:=λx y H Q=> ∃l b xs zs,x= .ref l/\y= .ref b/\H l=some (.lst xs)/\H b=some (.lst zs)/\xs.length+zs.length<=sizeLine/\ ∀p,H p=none->Q (.ref p) (upd H p<|.lst<|xs++zs)
theorem op_cat:OpR X (binaryOp .Add) rCat:=by
 intro pins s σ H x y v u Q I rx ry h;obtain⟨l,b,xs,zs,rfl,rfl,hH,hB,hz,q⟩:=h;cases rx;cases ry;obtain⟨z,its,n,r,hl,e⟩:=I.lstM hH;obtain⟨z2,its2,n2,r2,hl2,e2⟩:=I.lstM hB;refine PySem.P.add_list e e2 ?_ (by rw[b6,b6];omega)
 have ea:its.toArray++its2.toArray=(its++its2).toArray:=ae
 rw[ea];exact⟨.ref _,_,I.lnew (t':=s.toks) (r.append r2) (by rw[bN];omega),rfl,q _ I.fresh⟩
def rRep:R2:=λx y H Q=> ∃l k xs,x= .ref l/\y= .int k/\H l=some (.lst xs)/\ -(2^63)<=k/\k<2^63/\xs.length*k.toNat<=sizeLine/\
 ∀p,H p=none->Q (.ref p) (upd H p<|.lst (replicate k.toNat xs).flatten)
theorem bU5 {α:Type}(xs:List α)(k:Nat):(replicate k xs).flatten.length=k*xs.length:=by
 induction k with
 | zero=>simp
 | succ k ih=>rw[jU,nG,bN,ih,Nat.succ_mul,add_comm]
theorem op_rep:OpR X (binaryOp .Mult) rRep:=by
 intro pins s σ H x y v u Q I rx ry h;obtain⟨l,k,xs,rfl,rfl,hH,h1,h2,hz,q⟩:=h;cases rx;obtain⟨t,rfl⟩:=ry;obtain⟨z,its,n,r,hl,e⟩:=I.lstM hH;have hlen:its.toArray.size*k.toNat<=sizeLine:=by rw[b6,<-hl];exact hz
 have hcap: ¬its.toArray.size*k.toNat>(2^63-1)/8:=by
  have:(sizeLine:Nat)<=(2^63-1)/8:=ac
  lia
 have hfit: ¬(!Builtin.List.listFitsIndex k)=true:=by
  rw[fitsIndex_both h1 h2];exact bC
 have hlong: ¬Builtin.List.listTooLong (its.toArray.size*k.toNat)=true:=by
  rw[c41 hlen];exact bC
 have hnew:foldl (λx1 x2=>x1++x2) #[] (replicate (if its.toArray.isEmpty=true then 0 else k.toNat) its.toArray)=(replicate k.toNat its).flatten.toArray:=by
  have f0: ∀m:Nat,foldl (λx1 x2=>x1++x2) #[] (replicate m its.toArray)=(replicate m its).flatten.toArray:=λm=>by
   have:=foldl_rep its m [];rw[zK]at this;exact this
  rw[f0];cases its with
  | nil=>simp
  | cons a r'=>rw[a6 ae]
 refine wpAny_binaryOp_repeat_ref (T:="list") (U:="int") ac ⟨_,e,rfl⟩ (λs'=>pZ s' k t) noFill_list_mul F.fills_int_mul F.slot_int_rmul repeat_list F.slot_int_index.lookup
  (k8 F.slot_int_rmul (pZ s k t) F.entry_int_rmul (F.args_int_rmul_2 _ _) (int___rmul___int_list k t l its.toArray n)
   ⟨e,rfl,⟨_,e,rfl⟩,k8 F.slot_list_mul ⟨_,e,rfl⟩ F.entry_list_mul (F.args_list_mul_2 _ _) (AutoListH.list___mul___list_int_3 l its.toArray n k t hfit hcap hlong) ⟨e,?_⟩⟩)
 rw[hnew];exact⟨.ref _,_,I.lnew (t':=s.toks) (r.rep k.toNat) (by rw[bU5,mul_comm];exact hz),rfl,q _ I.fresh⟩
end
section
variable {prog:Program}{w:World}{A:Around}{E:Value->Shared->Prop}{s:Shared}
set_option maxRecDepth 100000 in
end
end L2
namespace Att
open PySem PySem.W PySem.Calls PyProof.Rows
theorem b50 {P:Params}{h:Heap}: ∀(ns:List Int) (vs:List Value),WellAll P h vs (ns.map WData.int)->IntsAre vs ns:=by
 intro ns
 induction ns with
 | nil=>
  intro vs w;rw[jX]at w;cases w;exact .nil
 | cons n ns ih=>
  intro vs w;rw[dJ]at w;cases w with
  | cons a b=>
   cases a;exact .cons _ _ (ih _ b)
theorem cU3 {l:OpenLaw}{n:Nat}(hn:l.most=some n){P:Params}{h:Heap}{args:List WData}{vals:List Value}
  (hpre:l.row.toRowW.claim.pre args=true) (hwl:WellAll P h vals args) :
  ∃a vs ns,vals=[Value.ref a]/\args=[WData.list<|ns.map WData.int]/\h.get? a=some {cls:= .type "list",data:= .seq vs.toArray}/\IntsAre vs ns/\ns.length<=n:=by
 have hsh:WShape.hasAll [] args [.list .int]=true:=(pre_splitW hpre).1;have hc:l.pre.holds [] {args:=args}=true:=(pre_splitW hpre).2;obtain⟨d,r,rfl,h1,h2⟩:=hasAllW_cons hsh;obtain rfl:=hasAllW_nil h2;obtain⟨xs,rfl,h3⟩:=hasW_list h1;obtain⟨ns,rfl⟩:=items_int h3;have hlen:ns.length<=n:=by
  unfold OpenLaw.pre at hc;have h4:(WTm.not<|.lt (.lit<|.int (n:Int))<|.len<|.arg 0).holds [] {args:=[.list<|ns.map .int]}=true:=by
   have h4:=(holds_andW hc).1;rw[hn]at h4;exact h4
  have h5:=condW_of h4 (w_not<|w_lt w_lit<|w_len_list<|w_arg rfl);rw[aG]at h5;refine Nat.le_of_not_lt λq=> ?_
  have q':(n:Int)< ((ns.length:Nat):Int):=aa
  first
   | (rw[jW q']at h5;exact absurd h5 ac)
   | (simp at h5;omega)
 cases hwl with
 | cons w1 w2=>
  cases w2;cases w1 with
  | list ho hall=>exact⟨_,_,ns,rfl,rfl,ho,b50 ns _ hall,hlen⟩
theorem cU4 (l:OpenLaw)(args:List WData):l.row.toRowW.claim.post args (.bool true) args=true:=
 postW_of (r:=l.row.toRowW) (X:=(true==true))
  (show WShape.has [] (.bool true) .bool=true by first|rfl|decide|simp[WShape.has,WShape.arms,WShape.armsAll])
  (show(WTm.eq .res<|.lit<|.bool true).value [] {args:=args,res:=some (.bool true),after:=args}=some (.bool<|true==true)from w_eq_bool (w_res rfl) w_lit) rfl
theorem attach_call {l:OpenLaw}{n:Nat}{q:Program}{loose:List Str}{XP:(Str->Option Value)->Heap->Prop}{YP:World->Heap->Prop}{d:DefRec}
  (hn:l.most=some n) (hdf:d.params.defaults=[])
  (call: ∀(w:World) (s₀ s₁:Shared) (mg mb:Str->Option Value) (fa:Addr) (o:Obj) (pm cd doc:Value) (a:Addr) (vs:List Value) (ns:List Int),
   Ground q loose [] XP w s₀ mg mb s₁.heap->YP w s₁.heap->
   s₁.heap.get? fa=some o->o.data= .func (docDef d.name d.params d.body d.scope pm cd doc)->s₁.heap.CodeRec cd d.name->mg d.name=some (.ref fa)->
   s₁.heap.get? a=some {cls:= .type "list",data:= .seq vs.toArray}->IntsAre vs ns->ns.length<=n->s₁.gens= #[]->
   codeAny (model l.prog w) callerA (.call (.ref fa) ⟨[.ref a],[]⟩) (λr s'=>r= .ok (.ret<|.bool true)/\OldK s₁.heap s'.heap/\s'.os=s₁.os/\AllBare s'.gens) s₁) :
  WalkO q loose XP YP l.row.toRowW d [] (λf vs=>PySem.call f vs):=by
 intro w s₀ s₁ mg mb G Y fa o pm cd doc dV kV ho hd hcd hD hmg hg args vals as hpre hlay hrd hwl hlo;obtain rfl:dV= .none:=Dflts.none hD hdf;obtain rfl:kV= .none:=Dflts.noKw hD;obtain⟨a,vs,ns,rfl,rfl,hobj,hints,hlen⟩:=cU3 hn hpre hwl;refine enter_call (tU (call w s₀ s₁ mg mb fa o pm cd doc a vs ns G Y ho (fd_plain hd) hcd hmg hobj hints hlen hg) λr s' hq=> ?_)
 obtain⟨rfl,h2,h3,h4⟩:=hq;exact⟨.inl ⟨.bool true,.bool true,[],rfl,λ_=>rfl,.bool true,cU4 l _,λ_=>⟨List.Pairwise.nil,λ_ hm=>(nomatch hm)⟩⟩,h2,h3,h4⟩
end Att
namespace L2
open PySem PySem.Spec PyProof.Rows
theorem bO7: ∀{vs:List Value} {ns:List Int},IntsAre vs ns->Vals (ns.map V.int) vs
 | _,_,.nil=> .nil
 | _,_,.cons n t h=> .cons ⟨t,rfl⟩ (bO7 h)
def Only (H:Hp):Prop:= ∀b,H b=none\/ ∃o xs,H b=some (.frz o<|.lst xs)
theorem d23 {P:Program}{w:World}{K:Frag}{mg mb:Str->Option Value}{CX:CXT}{k:Nat}{fa a:Addr}{fd:FuncData}{x:Str}{sp:Sp}{s₁:Shared}{vs:List Value}{ns:List Int}
  (KX:K.In s₁.heap) (hns:s₁.heap.Ns mainGlobals mg) (hb:s₁.heap.Ns builtinsNs mb) (hbb: ∀x:Str,x≠"__name__"->mb x=bootBuiltins x) (hlim:s₁.heap.NoLimit) (hg:s₁.gens= #[])
  (ha:s₁.heap.get? a=some {cls:= .type "list",data:= .seq vs.toArray}) (hi:IntsAre vs ns) (hl:ns.length<=sizeLine) (hr:i5 k callerA)
  (F: ∀base:Heap,K.In base->base.Ns mainGlobals mg->sQ P w K mg base CX k fa fd [x] sp) (hbind: ∀(s:Shared) (u:Value),BindsTo s fd ⟨[u],[]⟩ [(x,u)])
  (hsp: ∀H:Hp,Only H->SqL K H a (ns.map V.int)->sp [.ref a] H (λv _=>v= .bl true) λ_ _ _=>False)
  (hCX: ∀H e s',CX [] H s₁ (λ_ _ _=>False) e s'->False) :
  codeAny (model P w) callerA (.call (.ref fa) ⟨[.ref a],[]⟩) (λr s'=>r= .ok (.ret<|.bool true)/\OldK s₁.heap s'.heap/\s'.os=s₁.os/\AllBare s'.gens) s₁:=by
 have rv:=bO7 hi;have lenV:=hi.length;have core: ∀H:Hp,Only H->SqL K H a (ns.map V.int)->HOk P w H s₁.heap->(∀b,H b≠none->b=a)->(H a≠none->K.lookup a=none)->
   codeAny (model P w) callerA (.call (.ref fa) ⟨[.ref a],[]⟩) (λr s'=>r= .ok (.ret<|.bool true)/\OldK s₁.heap s'.heap/\s'.os=s₁.os/\AllBare s'.gens) s₁:=by
  intro H hO hS hok hA hK;have base_of: ∀{b:Addr} {o:Obj},s₁.heap.get? b=some o->H b=none->(bT5 s₁.heap H).get? b=some o:=λe n=>cZ9 e n
  have noA: ∀{b:Addr} {o:Obj} {es:Array DictEntry} {ep:Nat},s₁.heap.get? b=some o->o.data= .dict es ep->H b=none:=λ{b o es ep} e d=>by
   cases q:H b with
   | none=>rfl
   | some u=>
    have e':b=a:=hA b (by rw[q];simp)
    subst e';rw[ha]at e;cases e;have d':Data.seq vs.toArray _=Data.dict es ep:=d;cases d'
  have nsK: ∀{b:Addr} {m:Str->Option Value},s₁.heap.Ns b m->(bT5 s₁.heap H).Ns b m:=λ{b m} ⟨o,es,ep,e,d,r⟩=>⟨o,es,ep,base_of e<|noA e d,d,r⟩
  have hKb:K.In (bT5 s₁.heap H):=λb o e=>base_of (KX b o e) (by
   cases q:H b with
   | none=>rfl
   | some u=>
    have e':b=a:=hA b (by rw[q];simp)
    subst e';rw[hK (by rw[q];simp)]at e;cases e)
  have hM:Mod K mg (bT5 s₁.heap H):=⟨hKb,nsK hns,⟨mb,nsK hb,hbb⟩,let ⟨mc,h1,h2⟩:=hlim;⟨mc,nsK h1,h2⟩⟩;have e0:cE8 P w K mg (bT5 s₁.heap H) callerA [] s₁ H:=⟨rfl,hM,λb o e=>dE8 e,le_of_eq<|cT1 _ _,trivial,λb hb=>absurd (show b∈([]:List Addr)from hb) ae,hok,.of_eq hg⟩
  refine tU ((F _ hKb<|nsK hns).run callerA [] s₁ H ⟨[.ref a],[]⟩ [.ref a] [.ref a] _ _ hr e0 (hbind s₁<|.ref a) (.cons rfl .nil)<|hsp H hO hS) λr s' h=> ?_
  cases r with
  | error e=>exact(hCX H e s' h).elim
  | ok fl=>
   cases fl with
   | next=>exact False.elim h
   | brk=>exact False.elim h
   | cont=>exact False.elim h
   | ret u=>
    obtain⟨v,H',os,bare,un,hok',r',q⟩:=h;have q':v= .bl true:=q;subst q';obtain rfl:u=Value.bool true:=r';refine⟨rfl,OldK.of_keep λb o e=> ?_,os,bare⟩
    cases q:H b with
    | none=>exact un.keep b o e q (by intro z;exact absurd (show b∈([]:List Addr)from z) ae) ae
    | some u=>
     rcases hO b with z| ⟨ob,xs,z⟩
     ·rw[q]at z;cases z
     ·have z2:=un.frzs b ob _ z;obtain⟨e1,_⟩:=hok b _ z;obtain⟨e2,_⟩:=hok' b _ z2;rw[e]at e1;cases e1;exact e2
 cases hk:K.lookup a with
 | some o=>
  have e:=KX a o hk;rw[ha]at e;cases e;refine core (λ_=>none) (λ_=> .inl rfl) (.inr ⟨_,vs.toArray,_,hk,rfl,rfl,rfl,by rw[b6,lenV];exact hl,by simpa using rv⟩) (λb u z=>by have z':(none:Option HO)=some u:=z;cases z') (λb z=>absurd rfl z) λz=>absurd rfl z
 | none=>
  refine core (λb=>if b=a then some (.frz {cls:= .type "list",data:= .seq vs.toArray}<|.lst<|ns.map V.int)else none) (λb=> ?_) (.inl<|.inr ⟨{cls:= .type "list",data:= .seq vs.toArray},a7 rfl⟩) (λb u z=> ?_) (λb z=> ?_) λ_=>hk
  ·by_cases hb:b=a
   ·exact .inr ⟨_,_,a7 hb⟩
   ·exact .inl (a6 hb)
  ·by_cases hb:b=a
   ·have z':=(a7 hb).symm.trans z;cases z';subst hb;exact⟨ha,by rw[aG];exact hl,vs,_,rv,ha⟩
   ·have z':=(a6 hb).symm.trans z;cases z'
  ·by_cases hb:b=a
   ·exact hb
   ·exact absurd (a6 hb) z
end L2
namespace L2
open PySem PySem.Spec PyProof.Rows
theorem walk_of {l:PySem.W.OpenLaw}{n k:Nat}{q:Program}{loose:List Str}{XP:(Str->Option Value)->Heap->Prop}{YP:World->Heap->Prop}{d:DefRec}{K:Params->Frag}{CX:World->CXT}{sp:World->Sp}{x:Str}
  (hn:l.most=some n) (hn2:n<=sizeLine) (hdf:d.params.defaults=[]) (hr:i5 k callerA)
  (hY: ∀(w:World) (h:Heap),YP w h->(K w.params).In h)
  (F: ∀(w:World) (mg:Str->Option Value) (fa:Addr) (h:Heap),(K w.params).In h->h.Ns mainGlobals mg->mg d.name=some (.ref fa)->
   ∃fd:FuncData,(∀(s:Shared) (u:Value),BindsTo s fd ⟨[u],[]⟩ [(x,u)])/\
    ∀base:Heap,(K w.params).In base->base.Ns mainGlobals mg->sQ l.prog w (K w.params) mg base (CX w) k fa fd [x] (sp w))
  (hsp: ∀(w:World) (H:Hp) (a:Addr) (ns:List Int),ns.length<=n->Only H->SqL (K w.params) H a (ns.map V.int)->sp w [.ref a] H (λv _=>v= .bl true) λ_ _ _=>False)
  (hCX: ∀(w:World) (H:Hp) (s:Shared) (e:Value) (s':Shared),CX w [] H s (λ_ _ _=>False) e s'->False) :
  PySem.W.WalkO q loose XP YP l.row.toRowW d [] (λf vs=>PySem.call f vs):=by
 refine Att.attach_call hn hdf λw s₀ s₁ mg mb fa o pm cd doc a vs ns G Y ho hd hcd hmg hobj hints hlen hg=> ?_
 have KX:=hY w _ Y;obtain⟨fd,hb,hF⟩:=F w mg fa _ KX G.T.g hmg;exact d23 KX G.T.g G.T.b G.T.builtins G.T.nolimit hg hobj hints (aM hlen hn2) hr hF hb (λH hO hS=>hsp w H a ns hlen hO hS) λH e s'=>hCX w H s₁ e s'
end L2
namespace L2
open PySem PySem.Spec PyProof.Rows
noncomputable def kA (s:Stmt):Arguments:=match s with
 | .FunctionDef _ a _ _ _ _ _ _ _ _=>a
 | _=>{posonlyargs:=[],args:=[],vararg:=none,kwonlyargs:=[],kw_defaults:=[],kwarg:=none,defaults:=[]}
noncomputable def dZ (s:Stmt):List Stmt:=match s with
 | .FunctionDef _ _ b _ _ _ _ _ _ _=>b
 | _=>[]
noncomputable def aD (s:Stmt):Scope:=match s with
 | .FunctionDef _ _ _ _ _ _ sc _ _ _=>sc
 | _=>{kind:= .function,names:=[],isGenerator:=false,isCoroutine:=false}
abbrev CX0:CXT:=λ_ _ _ _ _ _=>False
abbrev E0:XK:=λ_ _ _=>False
structure Fun (K:Frag)(x qual:Str)(st:Stmt)(f:Addr)(fd:FuncData):Prop where
 ex: ∃(oc:Value) (od:Option Addr) (kV doc pm:Value) (an:Option Addr) (cdv ct:Value) (osl:Array (Option Value)),
  fd=fnOf x qual (kA st) (dZ st) (aD st) .none kV doc pm an cdv ct/\K.lookup f=some ⟨oc,od,.func fd,osl⟩/\codeIn K cdv qual=true
 kp:keepIn K (.ref f)=true
section
variable {P:Program}{w:World}{K:Frag}{mg:Str->Option Value}{base:Heap}
theorem Fun.ok {x qual:Str}{st:Stmt}{f:Addr}{fd:FuncData}{N ps:List Str}{k:Nat}{sp:Sp}(F:Fun K x qual st f fd)(S:aW N ps (aD st))(len: ∀vs H Q E,sp vs H Q E->vs.length=ps.length)
  (hbody: ∀(cdv:Value) (A:Around) (outer:List Env) (s:Shared) (H:Hp) (vs:List V) (Q:VK) (E:XK),i5 k (A.deeper<|envOfC qual (aD st) s.heap.objs.size f cdv)->sp vs H Q E->
   ∃t,PSs (u5 CX0 P w K mg base N qual (aD st) f cdv A outer s H E).nox (dZ st) t/\t {nx:=λ_ H'=>Q .non H',rt:=Q} (start N vs) H):sQ P w K mg base CX0 (k+1) f fd ps sp:=by
 obtain⟨oc,od,kV,doc,pm,an,cdv,ct,osl,rfl,lk,hcd⟩:=F.ex;refine d18 lk hcd S len λA outer s H vs Q E hr hsp=> ?_
 obtain⟨t,h,q⟩:=hbody cdv A outer s H vs Q E hr hsp;exact⟨t,h.nox,q⟩
theorem Fun.binds {x qual:Str}{st:Stmt}{f:Addr}{fd:FuncData}{ps:List Str}(F:Fun K x qual st f fd)
  (h: ∀(kV doc pm:Value) (an:Option Addr) (cdv ct:Value) (us:List Value),us.length=ps.length->bindArgs (fnOf x qual (kA st) (dZ st) (aD st) .none kV doc pm an cdv ct) ⟨us,[]⟩=pure (ps.zip us)):Binds K fd ps []:=by
 obtain⟨oc,od,kV,doc,pm,an,cdv,ct,osl,rfl,lk,hcd⟩:=F.ex;exact .all (h kV doc pm an cdv ct)
theorem aX8 {x qual:Str}{st:Stmt}{f:Addr}{oc:Value}{od an:Option Addr}{osl:Array (Option Value)}{kV doc pm cdv ct:Value}(l:K.lookup f=some ⟨oc,od,.func<|fnOf x qual (kA st) (dZ st) (aD st) .none kV doc pm an cdv ct,osl⟩)
  (c:codeIn K cdv qual=true) (k:keepIn K (.ref f)=true):Fun K x qual st f (fnOf x qual (kA st) (dZ st) (aD st) .none kV doc pm an cdv ct):=⟨⟨oc,od,kV,doc,pm,an,cdv,ct,osl,rfl,l,c⟩,k⟩
end
section
variable {X:Cx}
theorem pv (i:Nat){x:Str}{pos:Pos}(hN:X.N[i]? =some x:=by rfl)(hv:Vis X.env.scope x:=by first|exact Or.inl rfl|exact Or.inr (Or.inl rfl)|exact Or.inr (Or.inr rfl))(hd:(x==("__debug__":Str))=false:=by decide)
  (hcd:(x==("__classdict__":Str))=false:=by decide):PE X (.Name x pos) (aG3 i):=pe_var hN hv hd hcd
end
def iB (H H':Hp):Prop:= ∀b o,H b=some o->H' b=some o
theorem iB.refl (H:Hp):iB H H:=λ_ _ h=>h
theorem iB.trans {H H1 H2:Hp}(a:iB H H1)(b:iB H1 H2):iB H H2:=λc o h=>b c o (a c o h)
theorem iB.free {H H':Hp}(e:iB H H'){l:Addr}(h:H' l=Option.none):H l=Option.none:=by
 cases q:H l with
 | none=>rfl
 | some o=>
  rw[e l o q]at h;cases h
theorem iB.seq {K:Frag}{H H':Hp}{a:Addr}{xs:List V}(e:iB H H')(h:SqL K H a xs):SqL K H' a xs:=by
 rcases h with(h| ⟨o,h⟩)|h
 ·exact .inl (.inl<|e _ _ h)
 ·exact .inl (.inr ⟨o,e _ _ h⟩)
 ·exact .inr h
end L2
section
namespace M
open PySem PySem.Spec PyProof.Rows L2
inductive D where
 | non|bl (b:Bool)|int (i:Int)|str (x:Str)|ty (n:String)
 | tup (l:List D)|lst (l:List D)|rol (l:List D)
 | obj (C:Addr) (ks:List Str) (l:List D)
 | adr (a:Addr)
 | xob (a d:Addr) (ks:List Str) (l:List D)
abbrev AS:=Addr->Prop
def KT (K:Frag)(a:Addr)(vs:List V):Prop:=
 ∃(o:Obj) (its:Array Value) (n:Nat),K.lookup a=some o/\o.cls= .type "tuple"/\o.data= .seq its n/\its.size<=sizeLine/\Vals vs its.toList
def KL (K:Frag)(a:Addr)(vs:List V):Prop:=
 ∃(o:Obj) (its:Array Value) (n:Nat),K.lookup a=some o/\o.cls= .type "list"/\o.dict=none/\o.data= .seq its n/\its.size<=sizeLine/\Vals vs its.toList
def OkC (K:Frag)(C:Addr)(ks:List Str):Prop:=Cls K C/\ ∀f∈ks,a76 K C f
mutual
def Rep (K:Frag)(A:AS)(H:Hp):D->V->Prop
 | .non,v=>v= .non
 | .bl b,v=>v= .bl b
 | .int i,v=>v= .int i
 | .str x,v=>v= .str x
 | .ty n,v=>v= .ty n
 | .tup l,v=> ∃a vs,v= .ref a/\((¬A a/\Rd H a (.tup vs))\/KT K a vs)/\bL K A H l vs
 | .lst l,v=> ∃a vs,v= .ref a/\ ¬A a/\H a=some (.lst vs)/\bL K A H l vs
 | .rol l,v=> ∃a vs,v= .ref a/\((¬A a/\Rd H a (.lst vs))\/KL K a vs)/\bL K A H l vs
 | .obj C ks l,v=> ∃a dx vs,v= .ref a/\ ¬A a/\H a=some (.ins C dx<|ks.zip vs)/\ks.length=vs.length/\bL K A H l vs/\OkC K C ks
 | .adr a,v=>v= .ref a
 | .xob a d ks l,v=> ∃vs,v= .ref a/\ ¬A d/\H d=some (.xd<|ks.zip vs)/\ks.length=vs.length/\bL K A H l vs
def bL (K:Frag)(A:AS)(H:Hp):List D->List V->Prop
 | [],vs=>vs=[]
 | d::ds,vs=> ∃v vr,vs=v::vr/\Rep K A H d v/\bL K A H ds vr
end
section
variable {K:Frag}{A A':AS}{H H':Hp}
def mT (A:AS)(H:Hp)(A':AS)(H':Hp):Prop:= ∀b o,¬A b->H b=some o-> ¬A' b/\H' b=some o
theorem Rd.pres (p:mT A H A' H'){a:Addr}{u:HO}(n: ¬A a)(r:Rd H a u): ¬A' a/\Rd H' a u:=by
 rcases r with r| ⟨o,r⟩
 ·exact⟨(p a _ n r).1,.inl (p a _ n r).2⟩
 ·exact⟨(p a _ n r).1,.inr ⟨o,(p a _ n r).2⟩⟩
mutual
theorem Rep.mono (p:mT A H A' H'): ∀{d:D} {v:V},Rep K A H d v->Rep K A' H' d v
 | .non,_,h=>h
 | .bl _,_,h=>h
 | .int _,_,h=>h
 | .str _,_,h=>h
 | .ty _,_,h=>h
 | .tup l,v,h=>by
  simp only[Rep]at h⊢;obtain⟨a,vs,e,c,r⟩:=h;refine⟨a,vs,e,?_,bL.mono p r⟩;rcases c with⟨n,c⟩|c
  ·exact .inl (Rd.pres p n c)
  ·exact .inr c
 | .lst l,v,h=>by
  simp only[Rep]at h⊢;obtain⟨a,vs,e,n,c,r⟩:=h;exact⟨a,vs,e,(p a _ n c).1,(p a _ n c).2,bL.mono p r⟩
 | .rol l,v,h=>by
  simp only[Rep]at h⊢;obtain⟨a,vs,e,c,r⟩:=h;refine⟨a,vs,e,?_,bL.mono p r⟩;rcases c with⟨n,c⟩|c
  ·exact .inl (Rd.pres p n c)
  ·exact .inr c
 | .obj C ks l,v,h=>by
  simp only[Rep]at h⊢;obtain⟨a,dx,vs,e,n,c,hl,r,ok⟩:=h;exact⟨a,dx,vs,e,(p a _ n c).1,(p a _ n c).2,hl,bL.mono p r,ok⟩
 | .adr _,_,h=>h
 | .xob a d ks l,v,h=>by
  simp only[Rep]at h⊢;obtain⟨vs,e,n,c,hl,r⟩:=h;exact⟨vs,e,(p d _ n c).1,(p d _ n c).2,hl,bL.mono p r⟩
theorem bL.mono (p:mT A H A' H'): ∀{l:List D} {vs:List V},bL K A H l vs->bL K A' H' l vs
 | [],_,h=>by simp only[bL]at h ⊢; exact h
 | d::ds,vs,h=>by
  simp only[bL]at h⊢;obtain⟨v,vr,e,r,rs⟩:=h;exact⟨v,vr,e,Rep.mono p r,bL.mono p rs⟩
end
theorem bL.length: ∀{l:List D} {vs:List V},bL K A H l vs->l.length=vs.length
 | [],_,h=>by simp only[bL]at h;subst h;rfl
 | d::ds,vs,h=>by
  simp only[bL]at h;obtain⟨v,vr,rfl,_,rs⟩:=h;simp only[eO,bL.length rs]
theorem bL.nil:bL K A H [] []:=by simp only[bL]
theorem bL.cons {d:D}{v:V}{l:List D}{vs:List V}(r:Rep K A H d v)(rs:bL K A H l vs):bL K A H (d::l) (v::vs):=by
 simp only[bL];exact⟨v,vs,rfl,r,rs⟩
theorem bL.uncons {d:D}{l:List D}{vs:List V}(h:bL K A H (d::l) vs): ∃v vr,vs=v::vr/\Rep K A H d v/\bL K A H l vr:=by
 simpa only[bL]using h
theorem bL.unnil {vs:List V}(h:bL K A H [] vs):vs=[]:=by simpa only[bL]using h
theorem bL.append: ∀{l m:List D} {vs ws:List V},bL K A H l vs->bL K A H m ws->bL K A H (l++m) (vs++ws)
 | [],_,_,_,h,g=>by rw[h.unnil];exact g
 | d::l,m,vs,ws,h,g=>by
  obtain⟨v,vr,rfl,r,rs⟩:=h.uncons;exact .cons r (bL.append rs g)
theorem bL.get: ∀{l:List D} {vs:List V} {i:Nat} {d:D},bL K A H l vs->l[i]? =some d-> ∃v,vs[i]? =some v/\Rep K A H d v
 | [],_,_,_,_,e=>by simp at e
 | d::l,vs,0,d',h,e=>by
  obtain⟨v,vr,rfl,r,rs⟩:=h.uncons;simp at e;subst e;exact⟨v,ae,r⟩
 | d::l,vs,i+1,d',h,e=>by
  obtain⟨v,vr,rfl,r,rs⟩:=h.uncons;obtain⟨w,h1,h2⟩:=bL.get (i:=i) rs (by simpa using e)
  exact⟨w,by simpa using h1,h2⟩
theorem bL.set: ∀{l:List D} {vs:List V} {d:D} {v:V} (i:Nat),bL K A H l vs->Rep K A H d v->bL K A H (l.set i d) (vs.set i v)
 | [],_,_,_,_,h,_=>by rw[h.unnil];exact .nil
 | d'::l,vs,d,v,0,h,g=>by
  obtain⟨w,vr,rfl,r,rs⟩:=h.uncons;exact .cons g rs
 | d'::l,vs,d,v,i+1,h,g=>by
  obtain⟨w,vr,rfl,r,rs⟩:=h.uncons;exact .cons r (bL.set i rs g)
theorem bL.drop: ∀{l:List D} {vs:List V} (n:Nat),bL K A H l vs->bL K A H (l.drop n) (vs.drop n)
 | _,_,0,h=>h
 | [],_,n+1,h=>by rw[h.unnil];exact .nil
 | d::l,vs,n+1,h=>by
  obtain⟨v,vr,rfl,r,rs⟩:=h.uncons;exact bL.drop n rs
theorem bL.take: ∀{l:List D} {vs:List V} (n:Nat),bL K A H l vs->bL K A H (l.take n) (vs.take n)
 | _,_,0,h=>by simp only[List.take_zero];exact .nil
 | [],_,n+1,h=>by rw[h.unnil];exact .nil
 | d::l,vs,n+1,h=>by
  obtain⟨v,vr,rfl,r,rs⟩:=h.uncons;exact .cons r (bL.take n rs)
theorem bL.rep {l:List D}{vs:List V}(h:bL K A H l vs): ∀k:Nat,bL K A H (replicate k l).flatten (replicate k vs).flatten
 | 0=> .nil
 | k+1=>by
  rw[jU,jU,nG,nG];exact .append h (h.rep k)
theorem mT.same (s:iB H H'):mT A H A H':=λb o n e=>⟨n,s b o e⟩
theorem mT.sub (s:iB H H')(h: ∀a,A' a->A a):mT A H A' H':=λb o n e=>⟨λq=>n (h b q),s b o e⟩
theorem mT.fresh {a:Addr}(s:iB H H')(n:H a=none):mT A H (λb=>A b\/b=a) H':=λb o nb e=>
 ⟨λq=>q.elim nb λz=>(by subst z;rw[n]at e;cases e),s b o e⟩
theorem mT.upd {a:Addr}{o:HO}(h:A a):mT A H A (upd H a o):=λb o' nb e=>⟨nb,by rw[cH λz=>nb (by subst z;exact h)];exact e⟩
end
inductive B where
 | pu (d:D)|ow (l:List D)|bo (l:List D)
noncomputable def B.d:B->D
 | .pu d=>d
 | .ow l=> .lst l
 | .bo l=> .lst l
abbrev Ev:=List (Option B)
def Own (ρ:Ev)(σ:L2.St):AS:=λa=> ∃(i:Nat) (l:List D),ρ[i]? =some (some<|.ow l)/\σ[i]? =some (some<|.ref a)
structure C0 where
 H0:Hp
 A0:AS
def Av (C:C0)(ρ:Ev)(σ:L2.St):AS:=λa=>C.A0 a\/Own ρ σ a
structure EOk (K:Frag)(C:C0)(ρ:Ev)(σ:L2.St)(H:Hp):Prop where
 len:ρ.length=σ.length
 pu: ∀(i:Nat) (d:D),ρ[i]? =some (some<|.pu d)-> ∃v,σ[i]? =some (some v)/\Rep K (Av C ρ σ) H d v
 ow: ∀(i:Nat) (l:List D),ρ[i]? =some (some<|.ow l)-> ∃a vs,σ[i]? =some (some<|.ref a)/\H a=some (.lst vs)/\C.H0 a=none/\bL K (Av C ρ σ) H l vs
 inj: ∀(i j:Nat) (l l':List D) (a:Addr),ρ[i]? =some (some<|.ow l)->ρ[j]? =some (some<|.ow l')->σ[i]? =some (some<|.ref a)->σ[j]? =some (some<|.ref a)->i=j
 bo: ∀(i:Nat) (l:List D),ρ[i]? =some (some<|.bo l)-> ∃a vs,σ[i]? =some (some<|.ref a)/\C.A0 a/\C.H0 a=some (.lst vs)/\bL K (Av C ρ σ) H l vs
 ext:iB C.H0 H
 a0: ∀a,C.A0 a->C.H0 a≠none
section
variable {K:Frag}{C:C0}{ρ ρ':Ev}{σ σ':L2.St}{H H':Hp}
theorem EOk.avSome (I:EOk K C ρ σ H){a:Addr}(h:Av C ρ σ a):H a≠none:=by
 rcases h with h| ⟨i,l,h1,h2⟩
 ·intro z;cases e:C.H0 a with
  | none=>exact I.a0 a h e
  | some o=>rw[I.ext a o e]at z;cases z
 ·obtain⟨b,vs,h3,h4,_⟩:=I.ow i l h1;rw[h2]at h3;cases h3;rw[h4];simp
theorem EOk.same (I:EOk K C ρ σ H)(s:iB H H'):EOk K C ρ σ H' where
 len:=I.len
 pu:=λi d h=>let ⟨v,h1,h2⟩:=I.pu i d h;⟨v,h1,h2.mono<|.same s⟩
 ow:=λi l h=>let ⟨a,vs,h1,h2,h3,h4⟩:=I.ow i l h;⟨a,vs,h1,s _ _ h2,h3,h4.mono<|.same s⟩
 inj:=I.inj
 bo:=λi l h=>let ⟨a,vs,h1,h2,h3,h4⟩:=I.bo i l h;⟨a,vs,h1,h2,h3,h4.mono<|.same s⟩
 ext:=I.ext.trans s
 a0:=I.a0
theorem get_set_ne {α:Type}{l:List α}{i j:Nat}{x:α}(h:i≠j):(l.set i x)[j]? =l[j]? :=by
 rw[aN0];simp[h]
theorem iI {α:Type}{l:List α}{i:Nat}{x:α}(h:i<l.length):(l.set i x)[i]? =some x:=by
 rw[aN0];simp[h]
theorem b9 {α:Type}{l:List α}{i j:Nat}{x y:α}(h:(l.set i x)[j]? =some y):(i=j/\y=x/\i<l.length)\/(i≠j/\l[j]? =some y):=by
 by_cases e:i=j
 ·subst e;rw[aN0]at h
  by_cases hl:i<l.length
  ·simp[hl]at h;exact .inl ⟨rfl,h.symm,hl⟩
  ·simp[hl]at h
 ·exact .inr ⟨e,by rw[get_set_ne e]at h;exact h⟩
def u6 (K:Frag)(A:AS)(H H':Hp):B->V->Prop
 | .pu d,v=>Rep K A H' d v
 | .ow l,v=> ∃a vs,v= .ref a/\H a=none/\H' a=some (.lst vs)/\bL K (λb=>A b\/b=a) H' l vs
 | .bo _,_=>False
theorem u6.rep {A:AS}(hA: ∀a,A a->H a≠none): ∀{b:B} {v:V},u6 K A H H' b v->Rep K A H' b.d v
 | .pu d,v,h=>h
 | .ow l,v,h=>by
  obtain⟨a,vs,e,n,h1,r⟩:=h;show Rep K A H' (.lst l) v;simp only[Rep];exact⟨a,vs,e,λz=>hA a z n,h1,r.mono λb o nb q=>⟨λz=>nb (.inl z),q⟩⟩
 | .bo l,v,h=>h.elim
theorem EOk.store (I:EOk K C ρ σ H){i:Nat}{b:B}{v:V}{H1:Hp}(s:iB H H1)(r:u6 K (Av C ρ σ) H H1 b v)(hi:i<σ.length):EOk K C (ρ.set i<|some b) (σ.set i<|some v) H1:=by
 have I1:=I.same s;have hir:i<ρ.length:=by rw[I.len];exact hi
 cases b with
 | pu d=>
  have sub: ∀a,Av C (ρ.set i<|some<|.pu d) (σ.set i<|some v) a->Av C ρ σ a:=by
   rintro a (z| ⟨j,l,h1,h2⟩)
   ·exact .inl z
   ·rcases b9 h1 with⟨rfl,h3,_⟩| ⟨ne,h3⟩
    ·cases h3
    ·rw[get_set_ne ne]at h2;exact .inr ⟨j,l,h3,h2⟩
  refine⟨by rw[eE,eE];exact I.len,?_,?_,?_,?_,I1.ext,I.a0⟩
  rotate_right
  ·intro j l h;rcases b9 h with⟨rfl,h3,_⟩| ⟨ne,h3⟩
   ·cases h3
   ·obtain⟨a,vs,h4,h5,h6,h7⟩:=I1.bo j l h3;exact⟨a,vs,by rw[get_set_ne ne];exact h4,h5,h6,h7.mono<|.sub (.refl _) sub⟩
  ·intro j d' h;rcases b9 h with⟨rfl,h3,_⟩| ⟨ne,h3⟩
   ·cases h3;exact⟨v,iI hi,Rep.mono (.sub (.refl _) sub) r⟩
   ·obtain⟨v',h4,h5⟩:=I1.pu j d' h3;exact⟨v',by rw[get_set_ne ne];exact h4,h5.mono<|.sub (.refl _) sub⟩
  ·intro j l h;rcases b9 h with⟨rfl,h3,_⟩| ⟨ne,h3⟩
   ·cases h3
   ·obtain⟨a,vs,h4,h5,h6,h7⟩:=I1.ow j l h3;exact⟨a,vs,by rw[get_set_ne ne];exact h4,h5,h6,h7.mono<|.sub (.refl _) sub⟩
  ·intro j k l l' a h1 h2 h3 h4;rcases b9 h1 with⟨rfl,z,_⟩| ⟨ne,z⟩
   ·cases z
   ·rcases b9 h2 with⟨rfl,z',_⟩| ⟨ne',z'⟩
    ·cases z'
    ·rw[get_set_ne ne]at h3;rw[get_set_ne ne']at h4;exact I.inj j k l l' a z z' h3 h4
 | ow l0=>
  obtain⟨a0,vs0,rfl,n0,e0,r0⟩:=r;have sub: ∀a,Av C (ρ.set i<|some<|.ow l0) (σ.set i<|some<|.ref a0) a->Av C ρ σ a\/a=a0:=by
   rintro a (z| ⟨j,l,h1,h2⟩)
   ·exact .inl (.inl z)
   ·rcases b9 h1 with⟨rfl,h3,_⟩| ⟨ne,h3⟩
    ·rw[iI hi]at h2;cases h2;exact .inr rfl
    ·rw[get_set_ne ne]at h2;exact .inl (.inr ⟨j,l,h3,h2⟩)
  have P:mT (Av C ρ σ) H (Av C (ρ.set i<|some<|.ow l0)<|σ.set i<|some<|.ref a0) H1:=λb o nb e=>
   ⟨λq=>(sub b q).elim nb λz=>(by subst z;rw[n0]at e;cases e),s b o e⟩
  refine⟨by rw[eE,eE];exact I.len,?_,?_,?_,?_,I1.ext,I.a0⟩
  rotate_right
  ·intro j l h;rcases b9 h with⟨rfl,h3,_⟩| ⟨ne,h3⟩
   ·cases h3
   ·obtain⟨a,vs,h4,h5,h6,h7⟩:=I.bo j l h3;exact⟨a,vs,by rw[get_set_ne ne];exact h4,h5,h6,h7.mono P⟩
  ·intro j d' h;rcases b9 h with⟨rfl,h3,_⟩| ⟨ne,h3⟩
   ·cases h3
   ·obtain⟨v',h4,h5⟩:=I.pu j d' h3;exact⟨v',by rw[get_set_ne ne];exact h4,h5.mono P⟩
  ·intro j l h;rcases b9 h with⟨rfl,h3,_⟩| ⟨ne,h3⟩
   ·cases h3;refine⟨a0,vs0,iI hi,e0,?_,r0.mono λb o nb q=>⟨λz=>nb (sub b z),q⟩⟩
    cases e:C.H0 a0 with
    | none=>rfl
    | some o=>rw[I.ext _ _ e]at n0;cases n0
   ·obtain⟨a,vs,h4,h5,h6,h7⟩:=I.ow j l h3;exact⟨a,vs,by rw[get_set_ne ne];exact h4,s _ _ h5,h6,h7.mono P⟩
  ·intro j k l l' a h1 h2 h3 h4;have old: ∀{j:Nat} {l:List D},ρ[j]? =some (some<|.ow l)->σ[j]? ≠some (some<|.ref a0):=λ{j l} h z=>by
    obtain⟨b,vs,h4,h5,_⟩:=I.ow j l h;rw[z]at h4;cases h4;rw[n0]at h5;cases h5
   rcases b9 h1 with⟨rfl,z,_⟩| ⟨ne,z⟩
   ·rw[iI hi]at h3;cases h3;rcases b9 h2 with⟨rfl,z',_⟩| ⟨ne',z'⟩
    ·rfl
    ·rw[get_set_ne ne']at h4;exact absurd h4 (old z')
   ·rw[get_set_ne ne]at h3;rcases b9 h2 with⟨rfl,z',_⟩| ⟨ne',z'⟩
    ·rw[iI hi]at h4;cases h4;exact absurd h3 (old z)
    ·rw[get_set_ne ne']at h4;exact I.inj j k l l' a z z' h3 h4
 | bo l0=>exact r.elim
theorem EOk.freeze (I:EOk K C ρ σ H){i:Nat}{l:List D}(h:ρ[i]? =some (some<|.ow l)) :
  EOk K C (ρ.set i<|some<|.pu<|.lst l) σ H/\(∀a,Own (ρ.set i<|some<|.pu<|.lst l) σ a->Own ρ σ a)/\ ∃v,σ[i]? =some (some v)/\Rep K (Av C (ρ.set i<|some<|.pu<|.lst l) σ) H (.lst l) v:=by
 have sub: ∀a,Own (ρ.set i<|some<|.pu<|.lst l) σ a->Own ρ σ a:=by
  rintro a ⟨j,l',h1,h2⟩;rcases b9 h1 with⟨rfl,h3,_⟩| ⟨ne,h3⟩
  ·cases h3
  ·exact⟨j,l',h3,h2⟩
 have subA: ∀a,Av C (ρ.set i<|some<|.pu<|.lst l) σ a->Av C ρ σ a:=λa z=>z.imp id (sub a)
 obtain⟨a,vs,h1,h2,h3,h4⟩:=I.ow i l h;have na: ¬Av C (ρ.set i<|some<|.pu<|.lst l) σ a:=by
  rintro(z| ⟨j,l',g1,g2⟩)
  ·exact I.a0 a z h3
  ·rcases b9 g1 with⟨rfl,g3,_⟩| ⟨ne,g3⟩
   ·cases g3
   ·exact ne (I.inj i j l l' a h g3 h1 g2)
 have R:Rep K (Av C (ρ.set i<|some<|.pu<|.lst l) σ) H (.lst l) (.ref a):=by
  simp only[Rep];exact⟨a,vs,rfl,na,h2,h4.mono<|.sub (.refl _) subA⟩
 refine⟨⟨by rw[eE];exact I.len,?_,?_,?_,?_,I.ext,I.a0⟩,sub,.ref a,h1,R⟩
 rotate_right
 ·intro j l' g;rcases b9 g with⟨rfl,g3,_⟩| ⟨ne,g3⟩
  ·cases g3
  ·obtain⟨a',vs',g4,g5,g6,g7⟩:=I.bo j l' g3;exact⟨a',vs',g4,g5,g6,g7.mono<|.sub (.refl _) subA⟩
 ·intro j d' g;rcases b9 g with⟨rfl,g3,_⟩| ⟨ne,g3⟩
  ·cases g3;exact⟨_,h1,R⟩
  ·obtain⟨v',g4,g5⟩:=I.pu j d' g3;exact⟨v',g4,g5.mono<|.sub (.refl _) subA⟩
 ·intro j l' g;rcases b9 g with⟨rfl,g3,_⟩| ⟨ne,g3⟩
  ·cases g3
  ·obtain⟨a',vs',g4,g5,g6,g7⟩:=I.ow j l' g3;exact⟨a',vs',g4,g5,g6,g7.mono<|.sub (.refl _) subA⟩
 ·intro j k l1 l2 a' g1 g2 g3 g4;rcases b9 g1 with⟨rfl,z,_⟩| ⟨ne,z⟩
  ·cases z
  ·rcases b9 g2 with⟨rfl,z',_⟩| ⟨ne',z'⟩
   ·cases z'
   ·exact I.inj j k l1 l2 a' z z' g3 g4
theorem EOk.write (I:EOk K C ρ σ H){i:Nat}{l l':List D}{a:Addr}{vs':List V}(h:ρ[i]? =some (some<|.ow l))(hs:σ[i]? =some (some<|.ref a))(r:bL K (Av C ρ σ) H l' vs') :
  EOk K C (ρ.set i<|some<|.ow l') σ (upd H a<|.lst vs'):=by
 have hi:i<ρ.length:=(kQ.mp h).1;have sub: ∀b,Av C (ρ.set i<|some<|.ow l') σ b->Av C ρ σ b:=by
  rintro b (z| ⟨j,l2,h1,h2⟩)
  ·exact .inl z
  ·rcases b9 h1 with⟨rfl,h3,_⟩| ⟨ne,h3⟩
   ·exact .inr ⟨i,l,h,h2⟩
   ·exact .inr ⟨j,l2,h3,h2⟩
 have own:Av C ρ σ a:= .inr ⟨i,l,h,hs⟩;have P:mT (Av C ρ σ) H (Av C (ρ.set i<|some<|.ow l') σ) (upd H a<|.lst vs'):=λb o nb e=>⟨λz=>nb (sub b z),(mT.upd own b o nb e).2⟩
 obtain⟨a1,vs,h1,h2,h3,h4⟩:=I.ow i l h;rw[hs]at h1;cases h1;refine⟨by rw[eE];exact I.len,?_,?_,?_,?_,?_,I.a0⟩
 rotate_left 3
 ·intro j l2 g;rcases b9 g with⟨rfl,g3,_⟩| ⟨ne,g3⟩
  ·cases g3
  ·obtain⟨a',vs',g4,g5,g6,g7⟩:=I.bo j l2 g3;exact⟨a',vs',g4,g5,g6,g7.mono P⟩
 rotate_left 1
 ·intro j d' g;rcases b9 g with⟨rfl,g3,_⟩| ⟨ne,g3⟩
  ·cases g3
  ·obtain⟨v',g4,g5⟩:=I.pu j d' g3;exact⟨v',g4,g5.mono P⟩
 ·intro j l2 g;rcases b9 g with⟨rfl,g3,_⟩| ⟨ne,g3⟩
  ·cases g3;exact⟨a,vs',hs,iR,h3,r.mono P⟩
  ·obtain⟨a',vs2,g4,g5,g6,g7⟩:=I.ow j l2 g3;refine⟨a',vs2,g4,?_,g6,g7.mono P⟩;rw[cH λz=> ?_]
   ·exact g5
   ·subst z;exact ne (I.inj i j l l2 a' h g3 hs g4)
 ·intro j k l1 l2 a' g1 g2 g3 g4;have old: ∀{j:Nat} {l1:List D},(ρ.set i<|some<|.ow l')[j]? =some (some<|.ow l1)-> ∃l3,ρ[j]? =some (some<|.ow l3):=λ{j l1} g=>by
   rcases b9 g with⟨rfl,z,_⟩| ⟨ne,z⟩
   ·exact⟨l,h⟩
   ·exact⟨l1,z⟩
  obtain⟨_,q1⟩:=old g1;obtain⟨_,q2⟩:=old g2;exact I.inj j k _ _ a' q1 q2 g3 g4
 ·intro b o e;rw[cH λz=> ?_]
  ·exact I.ext b o e
  ·subst z;rw[h3]at e;cases e
noncomputable def C0.raise (C:C0)(ρ:Ev)(σ:L2.St)(H:Hp)(D:(a:Addr)->Decidable (Own ρ σ a)):C0:=⟨λb=> @ite _ (Own ρ σ b) (D b) none (H b),C.A0⟩
open Classical in
theorem EOk.raise (I:EOk K C ρ σ H):EOk K (C.raise ρ σ H λ_=>inferInstance) ρ σ H/\iB C.H0 (C.raise ρ σ H λ_=>inferInstance).H0:=by
 have e1: ∀b,Own ρ σ b->(C.raise ρ σ H λ_=>inferInstance).H0 b=none:=λb h=>a7 h
 have e2: ∀b,¬Own ρ σ b->(C.raise ρ σ H λ_=>inferInstance).H0 b=H b:=λb h=>a6 h
 have no: ∀b o,C.H0 b=some o-> ¬Own ρ σ b:=λb o e ⟨i,l,h1,h2⟩=>by
  obtain⟨a,vs,h3,h4,h5,_⟩:=I.ow i l h1;rw[h2]at h3;cases h3;rw[h5]at e;cases e
 have s1:iB C.H0 (C.raise ρ σ H λ_=>inferInstance).H0:=λb o e=>by rw[e2 b<|no b o e];exact I.ext b o e
 refine⟨⟨I.len,I.pu,λi l h=> ?_,I.inj,λi l h=> ?_,λb o e=> ?_,λa h z=> ?_⟩,s1⟩
 ·obtain⟨a,vs,h3,h4,h5,h6⟩:=I.ow i l h;exact⟨a,vs,h3,h4,e1 a ⟨i,l,h,h3⟩,h6⟩
 ·obtain⟨a,vs,h3,h4,h5,h6⟩:=I.bo i l h;exact⟨a,vs,h3,h4,s1 _ _ h5,h6⟩
 ·by_cases q:Own ρ σ b
  ·rw[e1 b q]at e;cases e
  ·rw[e2 b q]at e;exact e
 ·cases e:C.H0 a with
  | none=>exact I.a0 a h e
  | some o=>rw[s1 a o e]at z;cases z
theorem EOk.lower {C C':C0}(I:EOk K C' ρ σ H)(s:iB C.H0 C'.H0)(e:C'.A0=C.A0)(ha: ∀a,C.A0 a->C.H0 a≠none):EOk K C ρ σ H:=by
 obtain⟨H0',A0'⟩:=C';obtain⟨H0,A0⟩:=C;have e':A0'=A0:=e;subst e';refine⟨I.len,I.pu,λi l h=> ?_,I.inj,λi l h=> ?_,s.trans I.ext,ha⟩
 ·obtain⟨a,vs,h3,h4,h5,h6⟩:=I.ow i l h;exact⟨a,vs,h3,h4,s.free h5,h6⟩
 ·obtain⟨a,vs,h3,h4,h5,h6⟩:=I.bo i l h;refine⟨a,vs,h3,h4,?_,h6⟩;cases e:H0 a with
  | none=>exact absurd e (ha a h4)
  | some o=>
   have:=s a o e;have h5':H0' a=some (.lst vs):=h5;have this':H0' a=some o:=this;rw[h5']at this';cases this';exact e
end
end M
end
section
namespace M
open PySem PySem.Spec PyProof.Rows L2
def Frz (ρ ρ':Ev):Prop:=ρ'.length=ρ.length/\ ∀i:Nat,ρ'[i]? =ρ[i]? \/ ∃l:List D,ρ[i]? =some (some<|.ow l)/\ρ'[i]? =some (some<|.pu<|.lst l)
theorem Frz.refl (ρ:Ev):Frz ρ ρ:=⟨rfl,λ_=> .inl rfl⟩
theorem Frz.trans {a b c:Ev}(h:Frz a b)(g:Frz b c):Frz a c:=by
 refine⟨g.1.trans h.1,λi=> ?_⟩
 rcases g.2 i with e| ⟨l,e1,e2⟩
 ·rcases h.2 i with e'| ⟨l,e1,e2⟩
  ·exact .inl (e.trans e')
  ·exact .inr ⟨l,e1,e.trans e2⟩
 ·rcases h.2 i with e'| ⟨l',e3,e4⟩
  ·exact .inr ⟨l,e'▸e1,e2⟩
  ·rw[e4]at e1;cases e1
theorem Frz.own {ρ ρ':Ev}{σ:L2.St}(f:Frz ρ ρ'){a:Addr}(h:Own ρ' σ a):Own ρ σ a:=by
 obtain⟨i,l,h1,h2⟩:=h;rcases f.2 i with e| ⟨l',_,e2⟩
 ·exact⟨i,l,e▸h1,h2⟩
 ·rw[e2]at h1;cases h1
theorem Frz.set {ρ:Ev}{i:Nat}{l:List D}(h:ρ[i]? =some (some<|.ow l)):Frz ρ (ρ.set i<|some<|.pu<|.lst l):=by
 refine⟨eE,λj=> ?_⟩
 by_cases e:i=j
 ·subst e;exact .inr ⟨l,h,iI (kQ.mp h).1⟩
 ·exact .inl (get_set_ne e)
section
variable {K:Frag}{C:C0}{ρ ρ':Ev}{σ:L2.St}{H H':Hp}
theorem Frz.av (f:Frz ρ ρ'){a:Addr}(h:Av C ρ' σ a):Av C ρ σ a:=h.imp id f.own
theorem EOk.frz (I:EOk K C ρ σ H)(f:Frz ρ ρ'):EOk K C ρ' σ H:=by
 have ow': ∀{j:Nat} {l:List D},ρ'[j]? =some (some<|.ow l)->ρ[j]? =some (some<|.ow l):=λ{j l} h=>by
  rcases f.2 j with e| ⟨l',_,e2⟩
  ·exact e▸h
  ·rw[e2]at h;cases h
 refine⟨by rw[f.1];exact I.len,λi d h=> ?_,λi l h=> ?_,λi j l l' a h1 h2=>I.inj i j l l' a (ow' h1) (ow' h2),λi l h=> ?_,I.ext,I.a0⟩
 ·rcases f.2 i with e| ⟨l,e1,e2⟩
  ·obtain⟨v,h1,h2⟩:=I.pu i d (e▸h);exact⟨v,h1,h2.mono<|.sub (.refl _) λa=>f.av⟩
  ·rw[e2]at h;cases h;obtain⟨a,vs,h1,h2,h3,h4⟩:=I.ow i l e1;refine⟨.ref a,h1,?_⟩;simp only[Rep];refine⟨a,vs,rfl,?_,h2,h4.mono<|.sub (.refl _) λa=>f.av⟩
   rintro(z| ⟨j,l',g1,g2⟩)
   ·exact I.a0 a z h3
   ·have:=I.inj i j l l' a e1 (ow' g1) h1 g2;subst this;rw[e2]at g1;cases g1
 ·obtain⟨a,vs,h1,h2,h3,h4⟩:=I.ow i l (ow' h);exact⟨a,vs,h1,h2,h3,h4.mono<|.sub (.refl _) λa=>f.av⟩
 ·have h':ρ[i]? =some (some<|.bo l):=by
   rcases f.2 i with e| ⟨l',_,e2⟩
   ·exact e▸h
   ·rw[e2]at h;cases h
  obtain⟨a,vs,h1,h2,h3,h4⟩:=I.bo i l h';exact⟨a,vs,h1,h2,h3,h4.mono<|.sub (.refl _) λa=>f.av⟩
end
abbrev UE:=Ev->(B->Ev->Prop)->Prop
abbrev UV:=Ev->(D->Ev->Prop)->Prop
abbrev UA:=Ev->(List D->Ev->Prop)->Prop
abbrev UT:=Ev->(Bool->Ev->Prop)->Prop
def lE (K:Frag)(t:UE):TE:=λσ H Q=> ∃C ρ Q0,EOk K C ρ σ H/\t ρ Q0/\
 ∀b ρ' v H',Q0 b ρ'->Frz ρ ρ'->iB H H'->u6 K (Av C ρ' σ) H H' b v->Q v H'
def lA (K:Frag)(t:UA):TA:=λσ H Q=> ∃C ρ Q0,EOk K C ρ σ H/\t ρ Q0/\
 ∀ds ρ' vs H',Q0 ds ρ'->Frz ρ ρ'->iB H H'->bL K (Av C ρ' σ) H' ds vs->Q vs H'
def lT (K:Frag)(t:UT):TT:=λσ H Q=> ∃C ρ Q0,EOk K C ρ σ H/\t ρ Q0/\
 ∀b ρ' H',Q0 b ρ'->Frz ρ ρ'->iB H H'->Q b H'
def cF2 (K:Frag)(A:AS)(H:Hp):D->V->Prop
 | .tup l,v=> ∃a vs,v= .ref a/\SqT K H a vs/\bL K A H l vs
 | .lst l,v=> ∃a vs,v= .ref a/\H a=some (.lst vs)/\bL K A H l vs
 | .rol l,v=> ∃a vs,v= .ref a/\SqL K H a vs/\bL K A H l vs
 | d,v=>Rep K A H d v
def lV (K:Frag)(t:UV):TE:=λσ H Q=> ∃C ρ Q0,EOk K C ρ σ H/\t ρ Q0/\
 ∀d ρ' v H',Q0 d ρ'->Frz ρ ρ'->iB H H'->cF2 K (Av C ρ' σ) H' d v->Q v H'
def PU (X:Cx)(e:Expr)(t:UE):Prop:=PE X e (lE X.K t)
def PUV (X:Cx)(e:Expr)(t:UV):Prop:=PE X e (lV X.K t)
def PUA (X:Cx)(es:List Expr)(t:UA):Prop:=PA X es (lA X.K t)
def PUT (X:Cx)(e:Expr)(t:UT):Prop:=PT X e (lT X.K t)
def PUW (X:Cx)(e:Expr)(t:UT):Prop:=PW X e (lT X.K t)
section
variable {K:Frag}{A:AS}{H:Hp}
theorem Rep.one: ∀{d:D} {v:V},Rep K A H d v->cF2 K A H d v
 | .non,_,h=>h
 | .bl _,_,h=>h
 | .int _,_,h=>h
 | .str _,_,h=>h
 | .ty _,_,h=>h
 | .tup l,v,h=>by
  simp only[Rep]at h;obtain⟨a,vs,e,c,r⟩:=h;exact⟨a,vs,e,c.imp cU id,r⟩
 | .lst l,v,h=>by
  simp only[Rep]at h;obtain⟨a,vs,e,n,c,r⟩:=h;exact⟨a,vs,e,c,r⟩
 | .rol l,v,h=>by
  simp only[Rep]at h;obtain⟨a,vs,e,c,r⟩:=h;exact⟨a,vs,e,c.imp cU id,r⟩
 | .obj _ _ _,_,h=>h
 | .adr _,_,h=>h
 | .xob _ _ _ _,_,h=>h
end
theorem iS {X:Cx}{e:Expr}{t t':TE}(h:PE X e t)(i: ∀σ H Q,t' σ H Q->t σ H Q):PE X e t':=λpins s σ H Q I q=>h pins s σ H Q I (i σ H Q q)
theorem dQ6 {X:Cx}{es:List Expr}{t t':TA}(h:PA X es t)(i: ∀σ H Q,t' σ H Q->t σ H Q):PA X es t':=λpos pins s σ H Q I q=>h pos pins s σ H Q I (i σ H Q q)
theorem c42 {X:Cx}{e:Expr}{t t':TT}(h:PT X e t)(i: ∀σ H Q,t' σ H Q->t σ H Q):PT X e t':=λpins s σ H Q I q=>h pins s σ H Q I (i σ H Q q)
theorem dQ7 {X:Cx}{e:Expr}{t t':TT}(h:PW X e t)(i: ∀σ H Q,t' σ H Q->t σ H Q):PW X e t':=λw pins s σ H Q I q=>h w pins s σ H Q I (i σ H Q q)
section
variable {X:Cx}{a b c e o:Expr}{es rT:List Expr}{pos:Pos}{ta tb tc:UE}
def uC (d:D):UE:=λρ Q=>Q (.pu d) ρ
theorem aF {i j pos}:PU X (.Constant (.int i) j pos) (uC<|.int i):=iS pe_int λσ H Q ⟨C,ρ,Q0,I,h,k⟩=>k _ ρ _ H h (.refl _) (.refl _) (show Rep _ _ _ _ _ by simp only[Rep])
theorem cN9 {b j pos}:PU X (.Constant (.bool b) j pos) (uC<|.bl b):=iS pe_bl λσ H Q ⟨C,ρ,Q0,I,h,k⟩=>k _ ρ _ H h (.refl _) (.refl _) (show Rep _ _ _ _ _ by simp only[Rep])
theorem bA2 {j pos}:PU X (.Constant .none j pos) (uC .non):=iS pe_non λσ H Q ⟨C,ρ,Q0,I,h,k⟩=>k _ ρ _ H h (.refl _) (.refl _) (show Rep _ _ _ _ _ by simp only[Rep])
theorem pu_str {x j pos}:PU X (.Constant (.str x) j pos) (uC<|.str x):=iS pe_str λσ H Q ⟨C,ρ,Q0,I,h,k⟩=>k _ ρ _ H h (.refl _) (.refl _) (show Rep _ _ _ _ _ by simp only[Rep])
def b29 (ρ:Ev)(i:Nat)(Q:B->Ev->Prop):Prop:=match ρ[i]? with
 | some (some<|.pu d)=>Q (.pu d) ρ
 | some (some<|.ow l)=>Q (.pu<|.lst l) (ρ.set i<|some<|.pu<|.lst l)
 | _=>False
def aB (i:Nat):UE:=λρ Q=>b29 ρ i Q
theorem eX (i:Nat){x:Str}{pos:Pos}(h:PE X (.Name x pos) (aG3 i)):PU X (.Name x pos) (aB i):=iS h λσ H Q ⟨C,ρ,Q0,I,h,k⟩=>by
 unfold aB b29 at h;split at h
 ·rename_i d e
  obtain⟨v,h1,h2⟩:=I.pu i d e;exact⟨v,h1,k _ ρ v H h (.refl _) (.refl _) h2⟩
 ·rename_i l e
  obtain⟨_,_,v,h1,h2⟩:=I.freeze e;exact⟨v,h1,k _ _ v H h (.set e) (.refl _) h2⟩
 ·exact h.elim
def c43 (ρ:Ev)(i:Nat)(Q:D->Ev->Prop):Prop:=match ρ[i]? with
 | some (some<|.pu d)=>Q d ρ
 | some (some<|.ow l)=>Q (.lst l) ρ
 | some (some<|.bo l)=>Q (.lst l) ρ
 | _=>False
def aV (i:Nat):UV:=λρ Q=>c43 ρ i Q
theorem lZ (i:Nat){x:Str}{pos:Pos}(h:PE X (.Name x pos) (aG3 i)):PUV X (.Name x pos) (aV i):=iS h λσ H Q ⟨C,ρ,Q0,I,h,k⟩=>by
 unfold aV c43 at h;split at h
 ·rename_i d e
  obtain⟨v,h1,h2⟩:=I.pu i d e;exact⟨v,h1,k _ ρ v H h (.refl _) (.refl _) h2.one⟩
 ·rename_i l e
  obtain⟨a,vs,h1,h2,h3,h4⟩:=I.ow i l e;exact⟨_,h1,k _ ρ _ H h (.refl _) (.refl _) ⟨a,vs,rfl,h2,h4⟩⟩
 ·rename_i l e
  obtain⟨a,vs,h1,h2,h3,h4⟩:=I.bo i l e;exact⟨_,h1,k _ ρ _ H h (.refl _) (.refl _) ⟨a,vs,rfl,I.ext _ _ h3,h4⟩⟩
 ·exact h.elim
def uV (t:UE):UV:=λρ Q=>t ρ λb ρ1=>Q b.d ρ1
theorem EOk.avF {K:Frag}{C:C0}{ρ ρ':Ev}{σ:L2.St}{H:Hp}(I:EOk K C ρ σ H)(f:Frz ρ ρ'){a:Addr}(h:Av C ρ' σ a):H a≠none:=I.avSome (f.av h)
theorem u7 (h:PU X e ta):PUV X e (uV ta):=iS h λσ H Q ⟨C,ρ,Q0,I,h,k⟩=>
 ⟨C,ρ,_,I,h,λb ρ' v H' q f s r=>k b.d ρ' v H' q f s (r.rep λa z=>I.avF f z).one⟩
theorem bU6 {x:Str}{v:V}{d:D}{pos:Pos}(h:PE X (.Name x pos) (tC v))(r: ∀A H,Rep X.K A H d v):PU X (.Name x pos) (uC d):=iS h λσ H Q ⟨C,ρ,Q0,I,h,k⟩=>k _ ρ _ H h (.refl _) (.refl _) (r _ _)
def OpU (X:Cx)(f:Value->Value->Sem Value)(g:D->D->(B->Prop)->Prop):Prop:=
 ∀(A:AS) (H:Hp) (d e:D) (v w:V) (Q0:B->Prop) (Q:VK),(∀a,A a->H a≠none)->Rep X.K A H d v->Rep X.K A H e w->g d e Q0->
  (∀b v' H',Q0 b->iB H H'->u6 X.K A H H' b v'->Q v' H')-> ∃r,OpR X f r/\r v w H Q
def uOp (g:D->D->(B->Prop)->Prop)(ta tb:UE):UE:=λρ Q=>ta ρ λx ρ1=>tb ρ1 λy ρ2=>g x.d y.d λb=>Q b ρ2
theorem d24 {f:Value->Value->Sem Value}:OpR X f (λx y H Q=> ∃r,OpR X f r/\r x y H Q):=λpins s σ H x y v u Q I rx ry ⟨r,hr,q⟩=>hr pins s σ H x y v u Q I rx ry q
theorem u6.from {K:Frag}{A:AS}{H0 H H':Hp}(s:iB H0 H): ∀{b:B} {v:V},u6 K A H H' b v->u6 K A H0 H' b v
 | .pu _,_,h=>h
 | .ow _,_,⟨a,vs,e,n,h1,r⟩=>⟨a,vs,e,s.free n,h1,r⟩
 | .bo _,_,h=>h.elim
theorem lOp {f:Value->Value->Sem Value}{g:D->D->(B->Prop)->Prop}(ho:OpU X f g)(σ:L2.St)(H:Hp)(Q:VK)(h:lE X.K (uOp g ta tb) σ H Q) :
  tOp (λx y H Q=> ∃r,OpR X f r/\r x y H Q) (lE X.K ta) (lE X.K tb) σ H Q:=by
 obtain⟨C,ρ,Q0,I,h,k⟩:=h;refine⟨C,ρ,_,I,h,λx ρ1 v H1 q1 f1 s1 r1=> ?_⟩
 have I1:=(I.frz f1).same s1;refine⟨C,ρ1,_,I1,q1,λy ρ2 w H2 q2 f2 s2 r2=> ?_⟩
 have I2:=(I1.frz f2).same s2;have hA: ∀a,Av C ρ2 σ a->H2 a≠none:=λa z=>I2.avSome z
 refine ho (Av C ρ2 σ) H2 x.d y.d v w _ Q hA ((r1.rep λa z=>I.avF f1 z).mono<|.sub s2 λa=>f2.av) (r2.rep λa z=>I1.avF f2 z) q2 λb v' H' q s r=> ?_
 exact k b ρ2 v' H' q (f1.trans f2) (s1.trans<|s2.trans s) (r.from<|s1.trans s2)
theorem aL {op:Operator}{g:D->D->(B->Prop)->Prop}(ho:OpU X (binaryOp op) g)(ha:PU X a ta)(hb:PU X b tb):PU X (.BinOp a op b pos) (uOp g ta tb):=
 iS (pe_op d24 ha hb) (lOp ho)
theorem pu_cmp {op:CmpOp}{g:D->D->(B->Prop)->Prop}(ho:OpU X (compareOp op) g)(ha:PU X a ta)(hb:PU X b tb)(hm:behindInMarks op b=false):PU X (.Compare a [op] [b] pos) (uOp g ta tb):=
 iS (dG0 d24 ha hb hm) (lOp ho)
def isB (Q:Bool->Ev->Prop):B->Ev->Prop:=λb ρ=>match b with
 | .pu (.bl k)=>Q k ρ
 | _=>False
def gA (t:UE):UT:=λρ Q=>t ρ (isB Q)
theorem dH2 {t:UE}(σ:L2.St)(H:Hp)(Q:Bool->Hp->Prop)(h:lT X.K (gA t) σ H Q):lE X.K t σ H λx H'=> ∃k,x= .bl k/\Q k H':=by
 obtain⟨C,ρ,Q0,I,h,k⟩:=h;refine⟨C,ρ,_,I,h,λb ρ' v H' q f s r=> ?_⟩
 unfold isB at q;split at q
 ·rename_i k'
  refine⟨k',?_,k k' ρ' H' q f s⟩
  have r':Rep X.K (Av C ρ' σ) H' (.bl k') v:=r
  simpa only[Rep]using r'
 ·exact q.elim
theorem cO0 (h:PU X e ta)(he: ∀whole,isTrue e X.env whole=(do let v<-whole;standAt e.pos;holding [v] (truthy v)):=by intro _;rfl):PUT X e (gA ta):=
 c42 (pt_val h he) dH2
theorem aR8 {op:CmpOp}{g:D->D->(B->Prop)->Prop}(ho:OpU X (compareOp op) g)(ha:PU X a ta)(hb:PU X b tb)(hm:behindInMarks op b=false):PUT X (.Compare a [op] [b] pos) (gA<|uOp g ta tb):=
 c42 (dG1 d24 ha hb hm) λσ H Q h=>lOp ho σ H _ (dH2 σ H Q h)
def cU5 (t u:UT):UT:=λρ Q=>t ρ λc ρ1=>if c=true then u ρ1 Q else Q false ρ1
def uOr (t u:UT):UT:=λρ Q=>t ρ λc ρ1=>if c=true then Q true ρ1 else u ρ1 Q
def dH3 (t:UT):UT:=λρ Q=>t ρ λc ρ1=>Q (!c) ρ1
variable {tA tB:UT}
theorem aR9 (ha:PUT X a tA):PUW X (.BoolOp .And [a] pos) tA:=dF2 ha
theorem cO1 (ha:PUT X a tA):PUW X (.BoolOp .Or [a] pos) tA:=pw_or1 ha
theorem b75 (ha:PUT X a tA)(hb:PUW X (.BoolOp .And (b::rT) pos) tB):PUW X (.BoolOp .And (a::b::rT) pos) (cU5 tA tB):=
 dQ7 (pw_and ha hb) λσ H Q ⟨C,ρ,Q0,I,h,k⟩=>⟨C,ρ,_,I,h,λc ρ1 H1 q f s=>by
  cases c with
  | true=>
   rw[a7 rfl]at q⊢;exact⟨C,ρ1,Q0,(I.frz f).same s,q,λb ρ2 H2 q2 f2 s2=>k b ρ2 H2 q2 (f.trans f2) (s.trans s2)⟩
  | false=>
   rw[a6 bC]at q⊢;exact k _ _ _ q f s⟩
theorem cF3 (ha:PUT X a tA)(hb:PUW X (.BoolOp .Or (b::rT) pos) tB):PUW X (.BoolOp .Or (a::b::rT) pos) (uOr tA tB):=
 dQ7 (pw_or ha hb) λσ H Q ⟨C,ρ,Q0,I,h,k⟩=>⟨C,ρ,_,I,h,λc ρ1 H1 q f s=>by
  cases c with
  | true=>
   rw[a7 rfl]at q⊢;exact k _ _ _ q f s
  | false=>
   rw[a6 bC]at q⊢;exact⟨C,ρ1,Q0,(I.frz f).same s,q,λb ρ2 H2 q2 f2 s2=>k b ρ2 H2 q2 (f.trans f2) (s.trans s2)⟩⟩
theorem PUW.pt (h:PUW X e tA):PUT X e tA:=PW.pt h
theorem cO2 (ha:PUT X a tA):PUT X (.UnaryOp .Not a pos) (dH3 tA):=
 c42 (pt_not ha) λσ H Q ⟨C,ρ,Q0,I,h,k⟩=>⟨C,ρ,_,I,h,λc ρ1 H1 q f s=>k _ ρ1 H1 q f s⟩
def d25 (t u:UE):UE:=λρ Q=>t ρ λx ρ1=>isB (λc ρ1=>if c=true then u ρ1 Q else Q (.pu<|.bl false) ρ1) x ρ1
def uOrV (t u:UE):UE:=λρ Q=>t ρ λx ρ1=>isB (λc ρ1=>if c=true then Q (.pu<|.bl true) ρ1 else u ρ1 Q) x ρ1
def d26 (t:UE):UE:=λρ Q=>t ρ λx ρ1=>isB (λc ρ1=>Q (.pu<|.bl<|!c) ρ1) x ρ1
theorem bU7 {Q:Bool->Ev->Prop}{b:B}{ρ:Ev}{K:Frag}{A:AS}{H H':Hp}{v:V}(h:isB Q b ρ)(r:u6 K A H H' b v): ∃k,v= .bl k/\Q k ρ:=by
 unfold isB at h;split at h
 ·rename_i k'
  have r':Rep K A H' (.bl k') v:=r;exact⟨k',by simpa only[Rep]using r',h⟩
 ·exact h.elim
theorem mC {K:Frag}{A:AS}{H H':Hp}{k:Bool}:u6 K A H H' (.pu<|.bl k) (.bl k):=by
 show Rep K A H' (.bl k) (.bl k)
 simp only[Rep]
theorem d27 {op}(h:PU X a ta):PU X (.BoolOp op [a] pos) ta:=pe_one h
theorem pu_and (ha:PU X a ta)(hb:PU X (.BoolOp .And (b::rT) pos) tb):PU X (.BoolOp .And (a::b::rT) pos) (d25 ta tb):=
 iS (pe_and ha hb) λσ H Q ⟨C,ρ,Q0,I,h,k⟩=>⟨C,ρ,_,I,h,λx ρ1 v H1 q f s r=>by
  obtain⟨c,rfl,q⟩:=bU7 q r;refine⟨c,rfl,?_⟩;cases c with
  | true=>
   rw[a7 rfl]at q⊢;exact⟨C,ρ1,Q0,(I.frz f).same s,q,λb ρ2 v H2 q2 f2 s2 r2=>k b ρ2 v H2 q2 (f.trans f2) (s.trans s2) (r2.from s)⟩
  | false=>
   rw[a6 bC]at q⊢;exact k _ _ _ _ q f s mC⟩
theorem pu_or (ha:PU X a ta)(hb:PU X (.BoolOp .Or (b::rT) pos) tb):PU X (.BoolOp .Or (a::b::rT) pos) (uOrV ta tb):=
 iS (pe_or ha hb) λσ H Q ⟨C,ρ,Q0,I,h,k⟩=>⟨C,ρ,_,I,h,λx ρ1 v H1 q f s r=>by
  obtain⟨c,rfl,q⟩:=bU7 q r;refine⟨c,rfl,?_⟩;cases c with
  | true=>
   rw[a7 rfl]at q⊢;exact k _ _ _ _ q f s mC
  | false=>
   rw[a6 bC]at q⊢;exact⟨C,ρ1,Q0,(I.frz f).same s,q,λb ρ2 v H2 q2 f2 s2 r2=>k b ρ2 v H2 q2 (f.trans f2) (s.trans s2) (r2.from s)⟩⟩
theorem pu_not (ha:PU X a ta):PU X (.UnaryOp .Not a pos) (d26 ta):=
 iS (pe_not ha) λσ H Q ⟨C,ρ,Q0,I,h,k⟩=>⟨C,ρ,_,I,h,λx ρ1 v H1 q f s r=>by
  obtain⟨c,rfl,q⟩:=bU7 q r;exact⟨c,rfl,k _ _ _ _ q f s mC⟩⟩
def uIf (t:UT)(ta tb:UE):UE:=λρ Q=>t ρ λc ρ1=>if c=true then ta ρ1 Q else tb ρ1 Q
theorem d28 (hc:PUT X c tA)(ha:PU X a ta)(hb:PU X b tb):PU X (.IfExp c a b pos) (uIf tA ta tb):=
 iS (d02 hc ha hb) λσ H Q ⟨C,ρ,Q0,I,h,k⟩=>⟨C,ρ,_,I,h,λc ρ1 H1 q f s=>by
  have I1:=(I.frz f).same s;cases c with
  | true=>
   dsimp only at q⊢;rw[a7 rfl]at q⊢;exact⟨C,ρ1,Q0,I1,q,λb ρ2 v H2 q2 f2 s2 r2=>k b ρ2 v H2 q2 (f.trans f2) (s.trans s2) (r2.from s)⟩
  | false=>
   dsimp only at q⊢;rw[a6 bC]at q⊢;exact⟨C,ρ1,Q0,I1,q,λb ρ2 v H2 q2 f2 s2 r2=>k b ρ2 v H2 q2 (f.trans f2) (s.trans s2) (r2.from s)⟩⟩
def aK:UA:=λρ Q=>Q [] ρ
def a9 (t:UE)(u:UA):UA:=λρ Q=>t ρ λx ρ1=>u ρ1 λxs ρ2=>Q (x.d::xs) ρ2
theorem aA:PUA X [] aK:=dQ6 bT8 λσ H Q ⟨C,ρ,Q0,I,h,k⟩=>k [] ρ [] H h (.refl _) (.refl _) .nil
theorem aC {t:UA}(ha:PU X e ta)(hr:PUA X es t)(hs:starEach (e::es) X.env=(false,eval e X.env)::starEach es X.env:=by rfl):PUA X (e::es) (a9 ta t):=
 dQ6 (b73 ha hr hs) λσ H Q ⟨C,ρ,Q0,I,h,k⟩=>⟨C,ρ,_,I,h,λx ρ1 v H1 q1 f1 s1 r1=>by
  have I1:=(I.frz f1).same s1;refine⟨C,ρ1,_,I1,q1,λxs ρ2 vs H2 q2 f2 s2 r2=> ?_⟩
  exact k _ ρ2 _ H2 q2 (f1.trans f2) (s1.trans s2) (.cons ((r1.rep λa z=>I.avF f1 z).mono<|.sub s2 λa=>f2.av) r2)⟩
def i6 (t:UA):UE:=λρ Q=>t ρ λl ρ1=>l.length<=sizeLine/\Q (.pu<|.tup l) ρ1
def kF (t:UA):UE:=λρ Q=>t ρ λl ρ1=>l.length<=sizeLine/\Q (.ow l) ρ1
theorem eZ {H:Hp}{p:Addr}(h:H p=none)(o:HO):iB H (upd H p o):=λb u q=>by rw[cH<|d7 q h];exact q
theorem iT {K:Frag}{A:AS}{H:Hp}{p:Addr}{l:List D}{vs:List V}(hA: ∀a,A a->H a≠none)(n:H p=none)(r:bL K A H l vs):Rep K A (upd H p<|.tup vs) (.tup l) (.ref p):=by
 simp only[Rep];exact⟨p,vs,rfl,.inl ⟨λz=>hA p z n,.inl iR⟩,r.mono<|.same<|eZ n _⟩
theorem i8 {K:Frag}{A:AS}{H H0:Hp}{p:Addr}{l:List D}{vs:List V}(s:iB H0 H)(n:H p=none)(r:bL K A H l vs):u6 K A H0 (upd H p<|.lst vs) (.ow l) (.ref p):=
 ⟨p,vs,rfl,s.free n,iR,r.mono<|.fresh (eZ n _) n⟩
theorem dR {t:UA}{x1}(h:PUA X es t):PU X (.Tuple es x1 pos) (i6 t):=
 iS (pe_tup h) λσ H Q ⟨C,ρ,Q0,I,h,k⟩=>⟨C,ρ,_,I,h,λl ρ1 vs H1 q f s r=>by
  obtain⟨hz,q⟩:=q;refine⟨by rw[<-r.length];exact hz,λp n=> ?_⟩
  have I1:=(I.frz f).same s;exact k _ ρ1 _ _ q f (s.trans<|eZ n _) (iT (λa z=>I1.avSome z) n r)⟩
theorem fA {t:UA}(h:PUA X es t):PU X (.List es pos) (kF t):=
 iS (pe_lst h) λσ H Q ⟨C,ρ,Q0,I,h,k⟩=>⟨C,ρ,_,I,h,λl ρ1 vs H1 q f s r=>by
  obtain⟨hz,q⟩:=q;refine⟨by rw[<-r.length];exact hz,λp n=> ?_⟩
  exact k _ ρ1 _ _ q f (s.trans<|eZ n _) (i8 s n r)⟩
abbrev Φ:=List D->(B->Prop)->Prop
def spP (K:Frag)(φ:Φ):Sp:=λvs H Q _=> ∃A ds Q0,(∀a,A a->H a≠none)/\bL K A H ds vs/\φ ds Q0/\ ∀b v H',Q0 b->iB H H'->u6 K A H H' b v->Q v H'
def aQ (φ:Φ)(t:UA):UE:=λρ Q=>t ρ λds ρ1=>φ ds λb=>Q b ρ1
theorem lCall {φ:Φ}{t:UA}{E:XK}(σ:L2.St)(H:Hp)(Q:VK)(h:lE X.K (aQ φ t) σ H Q):d14 (spP X.K φ) [] E (lA X.K t) σ H Q:=by
 obtain⟨C,ρ,Q0,I,h,k⟩:=h;refine⟨C,ρ,_,I,h,λds ρ1 vs H1 q f s r=> ?_⟩
 have I1:=(I.frz f).same s;show spP X.K φ (vs++[]) H1 Q E;rw[jV];exact⟨Av C ρ1 σ,ds,_,λa z=>I1.avSome z,r,q,λb v H' q' s' r'=>k b ρ1 v H' q' f (s.trans s') (r'.from s)⟩
theorem dH4 {CX:CXT}{k:Nat}{f:Addr}{fd:FuncData}{ps:List Str}{φ:Φ}{E:XK}{x:Str}{p:Pos}{t:UA}(F:sQ X.prog X.w X.K X.mg X.base CX k f fd ps (spP X.K φ))(hr:i5 k X.A)(hg:Gl X x)(hm:X.mg x=some (.ref f))
  (hk:keepIn X.K (.ref f)=true) (hb:Binds X.K fd ps []) (hx:wG CX X E) (ha:PUA X (e::es) t) (hdb:(x==("__debug__":Str))=false:=by decide) (he:starEach (e::es) X.env=(false,eval e X.env)::starEach es X.env:=by rfl)
  (hpl:(backTo pos<|starEach es X.env).any (·.1)=false:=by rfl):PU X (.Call (.Name x p) (e::es) [] pos) (aQ φ t):=
 iS (cN5 F hr hg hm hk hb .nil hx ha hdb he hpl) lCall
theorem d29 {CX:CXT}{k:Nat}{f:Addr}{fd:FuncData}{ps:List Str}{φ:Φ}{E:XK}{x:Str}{p:Pos}(F:sQ X.prog X.w X.K X.mg X.base CX k f fd ps (spP X.K φ))(hr:i5 k X.A)(hg:Gl X x)(hm:X.mg x=some (.ref f))
  (hk:keepIn X.K (.ref f)=true) (hb:Binds X.K fd ps []) (hx:wG CX X E) (hdb:(x==("__debug__":Str))=false:=by decide):PU X (.Call (.Name x p) [] [] pos) (aQ φ aK):=
 iS (d16 F hr hg hm hk hb .nil hx hdb) λσ H Q ⟨C,ρ,Q0,I,h,k⟩=>⟨Av C ρ σ,[],_,λa z=>I.avSome z,.nil,h,λb v H' q' s' r'=>k b ρ v H' q' (.refl _) s' r'⟩
def vL (X:Cx)(f:Value)(g:List D->(B->Prop)->Prop):Prop:=
 ∀(A:AS) (H:Hp) (ds:List D) (vs:List V) (Q0:B->Prop) (Q:VK),(∀a,A a->H a≠none)->bL X.K A H ds vs->g ds Q0->
  (∀b v' H',Q0 b->iB H H'->u6 X.K A H H' b v'->Q v' H')-> ∃r,oZ X f r/\r vs H Q
theorem callAny {f:Value}:oZ X f (λxs H Q=> ∃r,oZ X f r/\r xs H Q):=λpins s σ H xs us Q I rx ⟨r,hr,q⟩=>hr pins s σ H xs us Q I rx q
theorem lCB {f:Value}{g:List D->(B->Prop)->Prop}{t:UA}(hc:vL X f g)(σ:L2.St)(H:Hp)(Q:VK)(h:lE X.K (aQ g t) σ H Q):tCB (λxs H Q=> ∃r,oZ X f r/\r xs H Q) (lA X.K t) σ H Q:=by
 obtain⟨C,ρ,Q0,I,h,k⟩:=h;refine⟨C,ρ,_,I,h,λds ρ1 vs H1 q f s r=> ?_⟩
 have I1:=(I.frz f).same s;exact hc (Av C ρ1 σ) H1 ds vs _ Q (λa z=>I1.avSome z) r q λb v H' q' s' r'=>k b ρ1 v H' q' f (s.trans s') (r'.from s)
theorem hV {id:String}{g:List D->(B->Prop)->Prop}{x:Str}{p:Pos}{t:UA}(hc:vL X (.builtin id) g)(hg:Gl X x)(hm:X.mg x=none)(hv:bootBuiltins x=some (.builtin id))(ha:PUA X (e::es) t)(hn:x≠"__name__":=by decide)(hdb:(x==("__debug__":Str))=false:=by decide)
  (he:starEach (e::es) X.env=(false,eval e X.env)::starEach es X.env:=by rfl) (hpl:(backTo pos<|starEach es X.env).any (·.1)=false:=by rfl):PU X (.Call (.Name x p) (e::es) [] pos) (aQ g t):=
 iS (c37 callAny hg hm hv ha hn hdb he hpl) (lCB hc)
theorem cD {T:String}{g:List D->(B->Prop)->Prop}{x:Str}{p:Pos}{t:UA}(hc:vL X (.type T) g)(hg:Gl X x)(hm:X.mg x=none)(hv:bootBuiltins x=some (.type T))(ha:PUA X (e::es) t)(hn:x≠"__name__":=by decide)(hdb:(x==("__debug__":Str))=false:=by decide)
  (he:starEach (e::es) X.env=(false,eval e X.env)::starEach es X.env:=by rfl) (hpl:(backTo pos<|starEach es X.env).any (·.1)=false:=by rfl):PU X (.Call (.Name x p) (e::es) [] pos) (aQ g t):=
 iS (cU2 callAny hg hm hv ha hn hdb he hpl) (lCB hc)
end
structure UD where
 nx:Ev->Prop
 rt:B->Prop
 bk:Ev->Prop:=λ_=>False
 ct:Ev->Prop:=λ_=>False
abbrev US:=UD->Ev->Prop
structure DOk (K:Frag)(C:C0)(D0:UD)(D:bJ9):Prop where
 nx: ∀ρ σ H,D0.nx ρ->EOk K C ρ σ H->D.nx σ H
 rt: ∀b v H,D0.rt b->iB C.H0 H->u6 K C.A0 C.H0 H b v->D.rt v H
 bk: ∀ρ σ H,D0.bk ρ->EOk K C ρ σ H->D.bk σ H
 ct: ∀ρ σ H,D0.ct ρ->EOk K C ρ σ H->D.ct σ H
def lS (K:Frag)(t:US):TS:=λD σ H=> ∃C ρ D0,EOk K C ρ σ H/\t D0 ρ/\DOk K C D0 D
def PUS (X:Cx)(st:Stmt)(t:US):Prop:=PS X st (lS X.K t)
def rV (X:Cx)(sts:List Stmt)(t:US):Prop:=PSs X sts (lS X.K t)
theorem rC {X:Cx}{st:Stmt}{t t':TS}(h:PS X st t)(i: ∀D σ H,t' D σ H->t D σ H):PS X st t':=λpins s σ H D I q=>h pins s σ H D I (i D σ H q)
theorem bA3 {X:Cx}{st:List Stmt}{t t':TS}(h:PSs X st t)(i: ∀D σ H,t' D σ H->t D σ H):PSs X st t':=λpins s σ H D I q=>h pins s σ H D I (i D σ H q)
section
variable {X:Cx}{st:Stmt}{sts:List Stmt}{e:Expr}{pos:Pos}{t u:US}{te:UE}{tc:UT}{K:Frag}
def gB:US:=λD ρ=>D.nx ρ
def aU (t u:US):US:=λD ρ=>t {D with nx:=u D} ρ
theorem bU8:rV X [] gB:=bA3 dF3 λD σ H ⟨C,ρ,D0,I,h,k⟩=>k.nx ρ σ H h I
theorem bB (h1:PUS X st t)(h2:rV X sts u):rV X (st::sts) (aU t u):=
 bA3 (xX h1 h2) λD σ H ⟨C,ρ,D0,I,h,k⟩=>⟨C,ρ,{D0 with nx:=u D0},I,h,⟨λρ' σ' H' q I'=>⟨C,ρ',D0,I',q,k⟩,k.rt,k.bk,k.ct⟩⟩
theorem bE (h1:PUS X st t):rV X [st] t:=bT6 h1
def cY (t:UE):US:=λD ρ=>t ρ λb _=>D.rt b
theorem u6.back {A A':AS}{H0 H H':Hp}(s:iB H0 H)(h: ∀a,A' a->A a): ∀{b:B} {v:V},u6 K A H H' b v->u6 K A' H0 H' b v
 | .pu _,_,r=>Rep.mono (.sub (.refl _) h) r
 | .ow _,_,⟨a,vs,e,n,h1,r⟩=>⟨a,vs,e,s.free n,h1,r.mono λb o nb q=>⟨λz=>nb (z.imp (h b) id),q⟩⟩
 | .bo _,_,r=>r.elim
theorem cF4 (he:PU X e te):PUS X (.Return (some e) pos) (cY te):=
 rC (d03 he) λD σ H ⟨C,ρ,D0,I,h,k⟩=>⟨C,ρ,_,I,h,λb ρ' v H' q f s r=>k.rt b v H' q (I.ext.trans s) (r.back I.ext λa z=> .inl z)⟩
def pA (i:Nat):US:=λD ρ=>match ρ[i]? with
 | some (some<|.pu d)=>D.rt (.pu d)
 | some (some<|.ow l)=>D.rt (.ow l)
 | _=>False
theorem kM (i:Nat){x:Str}{p:Pos}(h:PE X (.Name x p) (aG3 i)):PUS X (.Return (some<|.Name x p) pos) (pA i):=
 rC (d03 h) λD σ H ⟨C,ρ,D0,I,h,k⟩=>by
  unfold pA at h;split at h
  ·rename_i d e
   obtain⟨v,h1,h2⟩:=I.pu i d e;exact⟨v,h1,k.rt _ v H h I.ext<|Rep.mono (.sub (.refl _) λa z=> .inl z) h2⟩
  ·rename_i l e
   obtain⟨a,vs,h1,h2,h3,h4⟩:=I.ow i l e;refine⟨_,h1,k.rt _ _ H h I.ext ⟨a,vs,rfl,h3,h2,h4.mono λb o nb q=>⟨λz=>nb (z.elim .inl λz=> .inr ?_),q⟩⟩⟩
   subst z;exact⟨i,l,e,h1⟩
  ·exact h.elim
def jA (c:UT)(t u:US):US:=λD ρ=>c ρ λb ρ1=>if b=true then t D ρ1 else u D ρ1
theorem cO3 {c:Expr}{a b:List Stmt}(hc:PUT X c tc)(ha:rV X a t)(hb:rV X b u):PUS X (.If c a b pos) (jA tc t u):=
 rC (dQ4 hc ha hb) λD σ H ⟨C,ρ,D0,I,h,k⟩=>⟨C,ρ,_,I,h,λc ρ1 H1 q f s=>by
  have I1:=(I.frz f).same s;cases c with
  | true=>
   dsimp only at q⊢;rw[a7 rfl]at q⊢;exact⟨C,ρ1,D0,I1,q,k⟩
  | false=>
   dsimp only at q⊢;rw[a6 bC]at q⊢;exact⟨C,ρ1,D0,I1,q,k⟩⟩
theorem bA4:PUS X st (λ_ _=>False):=rC d04 λD σ H ⟨C,ρ,D0,I,h,k⟩=>h
abbrev UG:=B->Ev->(Ev->Prop)->Prop
def lG (K:Frag)(T:List Nat)(g:UG):TG:=λv σ H Q=> ∃C ρ b H00 Q0,EOk K C ρ σ H00/\iB H00 H/\u6 K (Av C ρ σ) H00 H b v/\g b ρ Q0/\ ∀ρ' σ' H',Q0 ρ'->EOk K C ρ' σ' H'->(∀j:Nat,j ∉ T->σ'[j]? =σ[j]?)->Q σ' H'
def PUG (X:Cx)(e:Expr)(T:List Nat)(g:UG):Prop:=PG X e (lG X.K T g)
theorem dQ8 {t t':TG}(h:PG X e t)(i: ∀v σ H Q,t' v σ H Q->t v σ H Q):PG X e t':=λpins s σ H v u Q I r q=>h pins s σ H v u Q I r (i v σ H Q q)
def cC (i:Nat):UG:=λb ρ Q=>i<ρ.length/\Q (ρ.set i<|some b)
theorem a02 (i:Nat)(h:PG X e (aR6 i)):PUG X e [i] (cC i):=dQ8 h λv σ H Q z=>by
 obtain⟨C,ρ,b,H00,Q0,I,s,r,⟨hi,q⟩,k⟩:=z;exact k _ _ _ q (I.store s r (by rw[<-I.len];exact hi)) λj hj=>get_set_ne λz=>hj (by simp[z])
abbrev UGs:=List D->Ev->(Ev->Prop)->Prop
def lGs (K:Frag)(T:List Nat)(g:UGs):TGs:=λvs σ H Q=> ∃C ρ ds Q0,EOk K C ρ σ H/\bL K (Av C ρ σ) H ds vs/\g ds ρ Q0/\ ∀ρ' σ' H',Q0 ρ'->EOk K C ρ' σ' H'->(∀j:Nat,j ∉ T->σ'[j]? =σ[j]?)->Q σ' H'
def dH5 (X:Cx)(es:List Expr)(T:List Nat)(g:UGs):Prop:=PGs X es (lGs X.K T g)
def mU:UGs:=λds ρ Q=>ds=[]/\Q ρ
theorem Av.store_pu {C:C0}{ρ:Ev}{σ:L2.St}{i:Nat}{d:D}{v:V}{a:Addr}(h:Av C (ρ.set i<|some<|.pu d) (σ.set i<|some v) a):Av C ρ σ a:=by
 rcases h with z| ⟨j,l,h1,h2⟩
 ·exact .inl z
 ·rcases b9 h1 with⟨rfl,h3,_⟩| ⟨ne,h3⟩
  ·cases h3
  ·rw[get_set_ne ne]at h2;exact .inr ⟨j,l,h3,h2⟩
theorem d30 {es:List Expr}{t t':TGs}(h:PGs X es t)(i: ∀v σ H Q,t' v σ H Q->t v σ H Q):PGs X es t':=λpins s σ H v u Q I r q=>h pins s σ H v u Q I r (i v σ H Q q)
theorem lM:dH5 X [] [] mU:=d30 dF4 λvs σ H Q z=>by
 obtain⟨C,ρ,ds,Q0,I,r,⟨e,q⟩,k⟩:=z;subst e;exact⟨r.unnil,k ρ σ H q I λ_ _=>rfl⟩
def d8 (i:Nat)(u:UGs):UGs:=λds ρ Q=>match ds with
 | d::r=>i<ρ.length/\u r (ρ.set i<|some<|.pu d) Q
 | []=>False
theorem cW {es:List Expr}{u:UGs}{T:List Nat}(i:Nat)(h1:PG X e (aR6 i))(h2:dH5 X es T u)
  (hs:(assignEach (e::es) X.env).map (·.2)=assign e X.env::(assignEach es X.env).map (·.2):=by rfl):dH5 X (e::es) (i::T) (d8 i u):=
 d30 (d06 h1 h2 hs) λvs σ H Q z=>by
  obtain⟨C,ρ,ds,Q0,I,r,g,k⟩:=z;cases ds with
  | nil=>exact(show False from g).elim
  | cons d dr=>
   obtain⟨hi,g⟩:i<ρ.length/\u dr (ρ.set i<|some<|.pu d) Q0:=g;obtain⟨v,vr,rfl,rv,rr⟩:=r.uncons;have I1:EOk X.K C (ρ.set i<|some<|.pu d) (σ.set i<|some v) H:=I.store (b:= .pu d) (.refl _) rv (by rw[<-I.len];exact hi)
   exact⟨v,vr,rfl,C,_,dr,Q0,I1,rr.mono<|.sub (.refl _) λa z=>Av.store_pu z,g,λρ' σ' H' q I' hT=>k ρ' σ' H' q I' λj hj=>(hT j λz=>hj (bH _ z)).trans (get_set_ne λz=>hj (by simp[z]))⟩
def mV (u:UGs):UG:=λb ρ Q=>match b.d with
 | .tup ds=>u ds ρ Q
 | _=>False
theorem qB {es:List Expr}{u:UGs}{T:List Nat}{n k:Nat}(hc:X.calm=true)(h:dH5 X es T u)(hu: ∀ds ρ Q,u ds ρ Q->ds.length=n)
  (hn:(assignEach es X.env).length=n:=by rfl) (hst:(assignEach es X.env).findIdx? (·.1)=none:=by rfl):PUG X (.Tuple es k pos) T (mV u):=
 dQ8 (pg_tup hc h hn hst) λv σ H Q z=>by
  obtain⟨C,ρ,b,H00,Q0,I,s,r,g,k⟩:=z;have R:=r.rep λa z=>I.avSome z
  unfold mV at g;split at g
  ·rename_i ds e
   rw[e]at R;simp only[Rep]at R;obtain⟨a,vs,rfl,c,rs⟩:=R;exact⟨a,vs,rfl,c.imp cU id,by rw[<-rs.length];exact hu _ _ _ g,C,ρ,ds,Q0,I.same s,rs,g,k⟩
  ·exact g.elim
def cF5 (t:UE)(g:UG):US:=λD ρ=>t ρ λb ρ1=>g b ρ1 D.nx
theorem bA5 {tg:Expr}{g:UG}{T:List Nat}(he:PU X e te)(hg:PUG X tg T g)(hs:swapsWithSole [tg] e pos.line X.env=pure false:=by rfl)(hw:swappedStores [tg] e X.env=pure none:=by rfl)
  (h1:(assignEach [tg] X.env).map (·.2)=[assign tg X.env]:=by rfl):PUS X (.Assign [tg] e pos) (cF5 te g):=
 rC (d07 he hg hs hw h1) λD σ H ⟨C,ρ,D0,I,h,k⟩=>⟨C,ρ,_,I,h,λb ρ1 v H1 q f s r=>⟨C,ρ1,b,H,D0.nx,I.frz f,s,r,q,λρ' σ' H' q I' _=>k.nx ρ' σ' H' q I'⟩⟩
def bT (i:Nat)(t:UE):US:=λD ρ=>t ρ λb ρ1=>D.nx (ρ1.set i<|some b)
theorem wI {x:Str}{pos':Pos}(i:Nat)(hN:X.N.Nodup)(hi:X.N[i]? =some x)(hx:Loc X.env.scope x)(he:PU X e te)(hs:swapsWith e (some<|.Name x pos') pos.line X.env=pure false:=by rfl)(hf:X.fn x=true\/X.env.scope.names.lookup x=some .local:=by walk_at "z")
  (hl: ∀pins σ H s,Inv X pins σ H s->i<σ.length:=by intro pins σ H s I;rw[I.len];decide):PUS X (.Assign [.Name x pos'] e pos) (bT i te):=by
 intro pins s σ H D I q;refine ps_set hN hi hx he hs hf pins s σ H D I ?_;obtain⟨C,ρ,D0,J,h,k⟩:=q;exact⟨C,ρ,_,J,h,λb ρ1 v H1 q f s1 r=>k.nx _ _ _ q ((J.frz f).store s1 r<|hl pins σ H s I)⟩
def cF6 (i j:Nat)(ta:UA):US:=λD ρ=>ta ρ λds ρ1=>match ds with
 | [d,d']=>D.nx ((ρ1.set i<|some<|.pu d).set j<|some<|.pu d')
 | _=>False
theorem bA6 {x y:Str}{a b:Expr}{ta:UA}{px py pt:Pos}{kt k2 pt2}(i j:Nat)(hc:X.calm=true)(hN:X.N.Nodup)(hi:X.N[i]? =some x)(hj:X.N[j]? =some y)(hij:i≠j)
  (hx:X.env.scope.names.lookup x=some .local) (hy:X.env.scope.names.lookup y=some .local) (ha:PUA X [a,b] ta)
  (hw:swappedStores [.Tuple [.Name x px,.Name y py] kt pt] (.Tuple [a,b] k2 pt2) X.env=pure (some [x,y]))
  (hs:swapsWithSole [.Tuple [.Name x px,.Name y py] kt pt] (.Tuple [a,b] k2 pt2) pos.line X.env=pure false:=by rfl)
  (hl: ∀pins σ H s,Inv X pins σ H s->i<σ.length/\j<σ.length:=by intro pins σ H s I;rw[I.len];decide) :
  PUS X (.Assign [.Tuple [.Name x px,.Name y py] kt pt] (.Tuple [a,b] k2 pt2) pos) (cF6 i j ta):=by
 intro pins s σ H D I q;refine ps_par hc hN hi hj hij hx hy ha hw hs pins s σ H D I ?_;obtain⟨C,ρ,D0,J,h,k⟩:=q;obtain⟨l1,l2⟩:=hl pins σ H s I;refine⟨C,ρ,_,J,h,λds ρ1 vs H1 q f s1 r=> ?_⟩
 split at q
 ·rename_i d d'
  obtain⟨v,vr,rfl,rv,rr⟩:=r.uncons;obtain⟨w,wr,rfl,rw',rr'⟩:=rr.uncons;have e:=rr'.unnil;subst e;have J1:EOk X.K C (ρ1.set i<|some<|.pu d) (σ.set i<|some v) H1:=((J.frz f).same s1).store (b:= .pu d) (.refl _) rv l1
  have J2:EOk X.K C ((ρ1.set i<|some<|.pu d).set j<|some<|.pu d') ((σ.set i<|some v).set j<|some w) H1:=J1.store (b:= .pu d') (.refl _) (Rep.mono (.sub (.refl _) λa z=>Av.store_pu z) rw') (by rw[eE];exact l2)
  exact⟨v,w,rfl,k.nx _ _ _ q J2⟩
 ·exact q.elim
def IpU (X:Cx)(op:Operator)(g:D->D->(B->Prop)->Prop):Prop:=
 ∀(A:AS) (H:Hp) (d e:D) (v w:V) (Q0:B->Prop) (Q:VK),(∀a,A a->H a≠none)->Rep X.K A H d v->Rep X.K A H e w->g d e Q0->
  (∀b v' H',Q0 b->iB H H'->u6 X.K A H H' b v'->Q v' H')-> ∃r,PIp X op r/\r v w H Q
theorem ipAny {op:Operator}:PIp X op (λx y H Q=> ∃r,PIp X op r/\r x y H Q):=λpins s σ H x y v u Q I rx ry ⟨r,hr,q⟩=>hr pins s σ H x y v u Q I rx ry q
def c44 (i:Nat)(g:D->D->(B->Prop)->Prop)(te:UE):US:=λD ρ=>b29 ρ i λx ρ0=>te ρ0 λy ρ1=>g x.d y.d λb=>D.nx (ρ1.set i<|some b)
theorem d31 {x:Str}{pos':Pos}{op:Operator}{g:D->D->(B->Prop)->Prop}(i:Nat)(hN:X.N.Nodup)(hi:X.N[i]? =some x)(hx:Loc X.env.scope x)(he:PU X e te)(ho:IpU X op g)(hf:X.fn x=true\/X.env.scope.names.lookup x=some .local:=by walk_at "z")
  (hl: ∀pins σ H s,Inv X pins σ H s->i<σ.length:=by intro pins σ H s I;rw[I.len];decide):PUS X (.AugAssign (.Name x pos') op e pos) (c44 i g te):=by
 intro pins s σ H D I q;refine ps_aug hN hi hx he ipAny hf pins s σ H D I ?_;obtain⟨C,ρ,D0,J,h,k⟩:=q;have go: ∀(d:M.D) (ρ0:Ev) (v:V),Frz ρ ρ0->σ[i]? =some (some v)->Rep X.K (Av C ρ0 σ) H d v->(te ρ0 λy ρ1=>g d y.d λb=>D0.nx (ρ1.set i<|some b))->
   tAug i (lE X.K te) (λx y H Q=> ∃r,PIp X op r/\r x y H Q) D σ H:=λd ρ0 v f0 h1 r0 h=>by
  have J0:=J.frz f0;refine⟨v,h1,C,ρ0,_,J0,h,λy ρ1 w H1 q1 f1 s1 r1=> ?_⟩
  have J1:=(J0.frz f1).same s1;refine ho (Av C ρ1 σ) H1 d y.d v w _ _ (λa z=>J1.avSome z) (r0.mono<|.sub s1 λa=>f1.av) (r1.rep λa z=>J0.avF f1 z) q1 λb v' H' q s r=> ?_
  exact k.nx _ _ _ q (J1.store s r<|hl pins σ _ _ I)
 unfold c44 b29 at h;split at h
 ·rename_i d e
  obtain⟨v,h1,h2⟩:=J.pu i d e;exact go d ρ v (.refl _) h1 h2 h
 ·rename_i l e
  obtain⟨_,_,v,h1,h2⟩:=J.freeze e;exact go (.lst l) _ v (.set e) h1 h2 h
 ·exact h.elim
def aX9 (c:UT)(tb:US):US:=λD ρ=> ∃W:Nat->Ev->Prop,(∃m,W m ρ)/\ ∀m ρ,W m ρ->
 c ρ λb ρ1=>if b=true then tb {D with nx:=λρ'=> ∃m',m'<m/\W m' ρ',ct:=λρ'=> ∃m',m'<m/\W m' ρ',bk:=D.nx} ρ1 else D.nx ρ1
theorem a77 {c:Expr}{body:List Stmt}{tb:US}(hp:PassesOwn (model X.prog X.w) X.A X.env X.xe)(hc:PUT X c tc)(hb:rV X body tb):PUS X (.While c body [] pos) (aX9 tc tb):=
 rC (d09 hp hc hb) λD σ H ⟨C,ρ,D0,I,⟨W,⟨m0,w0⟩,turn⟩,k⟩=>by
  refine⟨λm σ H=> ∃ρ,EOk X.K C ρ σ H/\W m ρ,⟨m0,ρ,I,w0⟩,?_⟩
  rintro m σ H ⟨ρ,I,w⟩;refine⟨C,ρ,_,I,turn m ρ w,λb ρ1 H1 q f s=> ?_⟩
  have I1:=(I.frz f).same s;cases b with
  | true=>
   dsimp only at q⊢;rw[a7 rfl]at q⊢;refine⟨λσ' H'=> ∃m',m'<m/\ ∃ρ',EOk X.K C ρ' σ' H'/\W m' ρ',λσ' H' z=>z,C,ρ1,_,I1,q,⟨?_,k.rt,k.nx,?_⟩⟩
   ·rintro ρ' σ' H' ⟨m',hm,w'⟩ I';exact⟨m',hm,ρ',I',w'⟩
   ·rintro ρ' σ' H' ⟨m',hm,w'⟩ I';exact⟨m',hm,ρ',I',w'⟩
  | false=>
   dsimp only at q⊢;rw[a6 bC]at q⊢;exact k.nx _ _ _ q I1
end
abbrev UI:=Ev->(Nat->(Nat->D)->Ev->Prop)->Prop
structure c45 (K:Frag)(A:AS)(H:Hp)(J:It)(n:Nat)(it:Nat->D):Prop where
 go: ∀A' H' i,mT A H A' H'->i<n->J.go i H'
 yld: ∀A' H' i x H'',mT A H A' H'->(∀a,A' a->H' a≠none)->i<n->J.yld i H' x H''->iB H' H''/\Rep K A' H'' (it i) x
 stop: ∀A' H',mT A H A' H'->J.stop n H'
def lI (K:Frag)(t:UI):TI:=λσ H R=> ∃C ρ Q0,EOk K C ρ σ H/\t ρ Q0/\
 ∀n it ρ' J H',Q0 n it ρ'->Frz ρ ρ'->iB H H'->c45 K (Av C ρ' σ) H' J n it->R J H'
def PUI (X:Cx)(tg iter:Expr)(t:UI):Prop:=PI X tg iter (lI X.K t)
def jD (ui:UI)(g:UG)(tb:US):US:=λD ρ=>ui ρ λn it ρ1=> ∃Pv:Nat->Ev->Prop,Pv 0 ρ1/\
 (∀i ρ,i<n->Pv i ρ->g (.pu<|it i) ρ λρ2=>tb {D with nx:=Pv (i+1),ct:=Pv (i+1),bk:=D.nx} ρ2)/\ ∀ρ,Pv n ρ->D.nx ρ
noncomputable def C0.rz (C:C0) (ρ:Ev) (σ:L2.St) (H:Hp):C0:=C.raise ρ σ H λ_=>Classical.propDecidable _
section
variable {X:Cx}{e:Expr}{pos:Pos}{te:UE}{K:Frag}{C:C0}{ρ ρ':Ev}{σ σ':L2.St}{H H':Hp}
theorem EOk.rz (I:EOk K C ρ σ H):EOk K (C.rz ρ σ H) ρ σ H/\iB C.H0 (C.rz ρ σ H).H0:=I.raise
theorem dH6 (I':EOk K (C.rz ρ σ H) ρ' σ' H'):mT (Av C ρ σ) H (Av (C.rz ρ σ H) ρ' σ') H':=λb o nb e=>by
 have e0:(C.rz ρ σ H).H0 b=some o:=by
  show @ite _ (Own ρ σ b) (Classical.propDecidable _) none (H b)=some o
  rw[a6 λz=>nb (.inr z)]
  exact e
 refine⟨?_,I'.ext b o e0⟩
 rintro(z| ⟨i,l,h1,h2⟩)
 ·exact nb (.inl z)
 ·obtain⟨a,vs,h3,h4,h5,_⟩:=I'.ow i l h1;rw[h2]at h3;cases h3;rw[e0]at h5;cases h5
theorem aO2 {tg iter:Expr}{body:List Stmt}{ui:UI}{g:UG}{T:List Nat}{tb:US}(hp:PassesOwn (model X.prog X.w) X.A X.env X.xe)(hc:X.calm=true)(hi:PUI X tg iter ui)(hg:PUG X tg T g)(hb:rV X body tb)
  (hs: ∀x,foldedSetIterable iter X.env x=pure x:=by intro _;rfl):PUS X (.For tg iter body [] pos) (jD ui g tb):=
 rC (ps_for hp hc hi hg hb hs) λD σ H ⟨C,ρ,D0,I,h,k⟩=>⟨C,ρ,_,I,h,λn it ρ1 J H1 q f s ok=>by
  obtain⟨Pv,p0,turn,fin⟩:=q;have I1:=(I.frz f).same s;obtain⟨Ir,sub⟩:=I1.rz;refine⟨λi m σ' H'=>m=n-i/\i<=n/\ ∃ρ',EOk X.K (C.rz ρ1 σ H1) ρ' σ' H'/\Pv i ρ',⟨n,rfl,dN _,ρ1,Ir,p0⟩,?_⟩
  rintro i m σ' H' ⟨rfl,hi,ρ',I',p'⟩;have P:=dH6 I';have lo: ∀ρ2 σ2 H2,EOk X.K (C.rz ρ1 σ H1) ρ2 σ2 H2->EOk X.K C ρ2 σ2 H2:=λρ2 σ2 H2 J2=>J2.lower sub rfl I.a0
  by_cases hlt:i<n
  ·refine .inr ⟨ok.go _ _ i P hlt,λσ2 H2=> ∃ρ2,EOk X.K (C.rz ρ1 σ H1) ρ2 σ2 H2/\Pv (i+1) ρ2,λσ2 H2 z=>⟨n-(i+1),aa,rfl,hlt,z⟩,λx H2 y=> ?_⟩
   obtain⟨s2,r2⟩:=ok.yld _ _ i x H2 P (λa z=>I'.avSome z) hlt y
   refine⟨C.rz ρ1 σ H1,ρ',.pu<|it i,H',_,I',s2,r2,turn i ρ' hlt p',λρ2 σ2 H3 q I3 _=>⟨C.rz ρ1 σ H1,ρ2,_,I3,q,⟨?_,?_,?_,?_⟩⟩⟩
   ·exact λρ3 σ3 H4 q I4=>⟨ρ3,I4,q⟩
   ·exact λb v H4 q s4 r4=>k.rt b v H4 q (sub.trans s4) (r4.from sub)
   ·exact λρ3 σ3 H4 q I4=>k.nx ρ3 σ3 H4 q (lo _ _ _ I4)
   ·exact λρ3 σ3 H4 q I4=>⟨ρ3,I4,q⟩
  ·have e:i=n:=aa
   subst e;exact .inl ⟨ok.stop _ _ P,k.nx _ _ _ (fin ρ' p')<|lo _ _ _ I'⟩⟩
noncomputable def pB:D->Option (List D)
 | .tup l=>some l
 | .lst l=>some l
 | .rol l=>some l
 | _=>none
def gR (t:UE):UI:=λρ Q=>t ρ λb ρ1=>match pB b.d with
 | some l=>Q l.length (λi=>l.getD i .non) ρ1
 | none=>False
theorem pi_any {l:Expr}{tl:TE}{tg:Expr}(hl:PE X l tl):PI X tg l (λσ H R=>tl σ H λx H1=> ∃a,x= .ref a/\((∃xs,SqL X.K H1 a xs/\R (Itl X.K a) H1)\/ ∃xs,SqT X.K H1 a xs/\R (Itt X.K a) H1)):=by
 intro pins s σ H R I h;refine thn (hl pins s σ H _ I h) λv s1 ⟨x,H1,I1,r1,q1⟩=> ?_
 obtain⟨a,e,q⟩:=q1;subst e;cases r1;rcases q with⟨xs,hq,q⟩| ⟨xs,hq,q⟩
 ·obtain⟨its,rv,p,hz⟩:=I1.list hq;refine zF p.isList ?_;refine⟨s1.heap.objs.size,[s1.heap.objs.size],_,_,H1,rfl,I1.kept (t':=s1.toks) λb o e=>aS _ e,cT3 a _,⟨_,bU _ rfl,rfl,rfl⟩,λb hb=> ?_,q⟩
  have e:b=s1.heap.objs.size:=by simpa using hb
  subst e;exact I1.fpOk (aE _) (I1.hok.fresh<|aE _)
 ·obtain⟨its,rv,p,hz⟩:=I1.tuple hq;refine wpAny_pyIter_tuple (show s1.heap.IsTuple a its.toArray from p) ?_
  refine⟨s1.heap.objs.size,[s1.heap.objs.size],_,_,H1,rfl,I1.kept (t':=s1.toks) λb o e=>aS _ e,cE0 a _,⟨_,bU _ rfl,rfl,rfl⟩,λb hb=> ?_,q⟩
  have e:b=s1.heap.objs.size:=by simpa using hb
  subst e;exact I1.fpOk (aE _) (I1.hok.fresh<|aE _)
theorem b30 {tg iter:Expr}{t t':TI}(h:PI X tg iter t)(i: ∀σ H R,t' σ H R->t σ H R):PI X tg iter t':=λpins s σ H R I q=>h pins s σ H R I (i σ H R q)
theorem bO8 {A:AS}{a:Addr}{vs:List V}{l:List D}(c:(¬A a/\Rd H a (.lst vs))\/KL K a vs)(r:bL K A H l vs):c45 K A H (Itl K a) l.length (λi=>l.getD i .non):=by
 have sq: ∀A' H',mT A H A' H'->SqL K H' a vs:=λA' H' P=>by
  rcases c with⟨n,c⟩|c
  ·exact .inl (Rd.pres P n c).2
  ·exact .inr c
 have get: ∀i,i<l.length-> ∃x,vs[i]? =some x/\Rep K A H (l.getD i .non) x:=λi hi=>r.get (by rw[aI,aO hi];rfl)
 refine⟨λA' H' i P hi=> ?_,λA' H' i x H'' P hA hi y=> ?_,λA' H' P=>⟨vs,sq _ _ P,by rw[r.length];exact aE _⟩⟩
 ·obtain⟨x,e,_⟩:=get i hi;exact⟨vs,x,sq _ _ P,e⟩
 ·obtain⟨x',e,r'⟩:=get i hi;obtain⟨rfl,y⟩:=y;have:=y vs (sq _ _ P);rw[e]at this;cases this;exact⟨.refl _,r'.mono P⟩
theorem d32 {A:AS}{a:Addr}{vs:List V}{l:List D}(c:(¬A a/\Rd H a (.tup vs))\/KT K a vs)(r:bL K A H l vs):c45 K A H (Itt K a) l.length (λi=>l.getD i .non):=by
 have sq: ∀A' H',mT A H A' H'->SqT K H' a vs:=λA' H' P=>by
  rcases c with⟨n,c⟩|c
  ·exact .inl (Rd.pres P n c).2
  ·exact .inr c
 have get: ∀i,i<l.length-> ∃x,vs[i]? =some x/\Rep K A H (l.getD i .non) x:=λi hi=>r.get (by rw[aI,aO hi];rfl)
 refine⟨λA' H' i P hi=> ?_,λA' H' i x H'' P hA hi y=> ?_,λA' H' P=>⟨vs,sq _ _ P,by rw[r.length];exact aE _⟩⟩
 ·obtain⟨x,e,_⟩:=get i hi;exact⟨vs,x,sq _ _ P,e⟩
 ·obtain⟨x',e,r'⟩:=get i hi;obtain⟨rfl,y⟩:=y;have:=y vs (sq _ _ P);rw[e]at this;cases this;exact⟨.refl _,r'.mono P⟩
theorem iN {tg:Expr}(h:PU X e te):PUI X tg e (gR te):=b30 (pi_any h) λσ H R ⟨C,ρ,Q0,I,h,k⟩=>⟨C,ρ,_,I,h,λb ρ1 v H1 q f s r=>by
 have rr:=r.rep λa z=>I.avF f z
 generalize b.d=d at q rr;cases d with
 | tup l=>
  simp only[Rep]at rr;obtain⟨a,vs,rfl,c,rs⟩:=rr;exact⟨a,rfl,.inr ⟨vs,c.imp cU id,k _ _ ρ1 _ H1 q f s<|d32 c rs⟩⟩
 | lst l=>
  simp only[Rep]at rr;obtain⟨a,vs,rfl,n,c,rs⟩:=rr;exact⟨a,rfl,.inl ⟨vs,.inl<|.inl c,k _ _ ρ1 _ H1 q f s<|bO8 (.inl ⟨n,.inl c⟩) rs⟩⟩
 | rol l=>
  simp only[Rep]at rr;obtain⟨a,vs,rfl,c,rs⟩:=rr;exact⟨a,rfl,.inl ⟨vs,c.imp cU id,k _ _ ρ1 _ H1 q f s<|bO8 c rs⟩⟩
 | _=>exact(show False from q).elim⟩
theorem bA7 {A:AS}{lo:Int}{n:Nat}:c45 K A H (Itr lo n) n (λi=> .int (lo+i)):=
 ⟨λ_ _ _ _ h=>h,λ_ _ i x H'' _ _ _ ⟨e,y⟩=>by subst e;subst y;exact⟨.refl _,by simp only[Rep]⟩,λ_ _ _=>aE n⟩
def gS (ta:UA):UI:=λρ Q=>ta ρ λds ρ1=>match ds with
 | [.int j]=>(-(2^62)<=j/\j<2^62)/\Q j.toNat (λi=> .int (0+i)) ρ1
 | _=>False
def aS0 (ta:UA):UI:=λρ Q=>ta ρ λds ρ1=>match ds with
 | [.int i,.int j]=>(-(2^62)<=i/\i<2^62/\ -(2^62)<=j/\j<2^62)/\Q (j-i).toNat (λk=> .int (i+k)) ρ1
 | _=>False
theorem bK {A:AS}{i:Int}{v:V}(h:Rep K A H (.int i) v):v= .int i:=by simpa only[Rep]using h
theorem dD {tg a:Expr}{ta:UA}{p:Pos}(hg:Gl X "range")(hm:X.mg "range"=none)(ha:PUA X [a] ta)(hs:starEach [a] X.env=[(false,eval a X.env)]:=by rfl):PUI X tg (.Call (.Name "range" p) [a] [] pos) (gS ta):=
 b30 (cT4 hg hm ha hs) λσ H R ⟨C,ρ,Q0,I,h,k⟩=>⟨C,ρ,_,I,h,λds ρ1 vs H1 q f s r=>by
  split at q
  ·rename_i j
   obtain⟨v,vr,rfl,rv,rr⟩:=r.uncons;have:=rr.unnil;subst this;have:=bK rv;subst this;obtain⟨⟨h1,h2⟩,q⟩:=q;exact⟨j,rfl,h1,h2,k _ _ ρ1 _ H1 q f s bA7⟩
  ·exact q.elim⟩
theorem xZ {tg a b:Expr}{ta:UA}{p:Pos}(hg:Gl X "range")(hm:X.mg "range"=none)(ha:PUA X [a,b] ta)(hs:starEach [a,b] X.env=[(false,eval a X.env),(false,eval b X.env)]:=by rfl)(hs2:starEach [b] X.env=[(false,eval b X.env)]:=by rfl) :
  PUI X tg (.Call (.Name "range" p) [a,b] [] pos) (aS0 ta):=
 b30 (cT5 hg hm ha hs hs2) λσ H R ⟨C,ρ,Q0,I,h,k⟩=>⟨C,ρ,_,I,h,λds ρ1 vs H1 q f s r=>by
  split at q
  ·rename_i i j
   obtain⟨v,vr,rfl,rv,rr⟩:=r.uncons;obtain⟨w,wr,rfl,rw',rr'⟩:=rr.uncons;have:=rr'.unnil;subst this;have:=bK rv;subst this;have:=bK rw';subst this;obtain⟨hb,q⟩:=q;exact⟨i,j,rfl,hb,k _ _ ρ1 _ H1 q f s bA7⟩
  ·exact q.elim⟩
end
section
variable {X:Cx}{a b e o:Expr}{es:List Expr}{pos:Pos}{ta tb te ti:UE}{K:Frag}{C:C0}{ρ ρ':Ev}{σ σ':L2.St}{H H':Hp}{A:AS}
theorem Frz.ow {i:Nat}{l:List D}(f:Frz ρ ρ')(h:ρ'[i]? =some (some<|.ow l)):ρ[i]? =some (some<|.ow l):=by
 rcases f.2 i with q| ⟨l',_,q⟩
 ·exact q▸h
 ·rw[q]at h;cases h
def oC (ρ:Ev)(i:Nat)(Q:List D->Prop):Prop:=match ρ[i]? with
 | some (some<|.ow l)=>Q l
 | _=>False
theorem jF {i:Nat}{Q:List D->Prop}(h:oC ρ i Q): ∃l,ρ[i]? =some (some<|.ow l)/\Q l:=by
 unfold oC at h;split at h
 ·rename_i l e
  exact⟨l,e,h⟩
 ·exact h.elim
def aO3 (i:Nat)(t:UE):US:=λD ρ=>oC ρ i λ_=>t ρ λb ρ1=>oC ρ1 i λl=>l.length<sizeLine/\D.nx (ρ1.set i<|some<|.ow<|l++[b.d])
theorem kE {x:Str}{p apos cpos:Pos}(i:Nat)(hx:PE X (.Name x p) (aG3 i))(he:PU X e te)
  (hbase:attributeBase (.Name x p) "append" X.env (eval (.Name x p) X.env)=eval (.Name x p) X.env:=by rfl)
  (hfew:((backTo cpos<|starEach [e] X.env).all (λx=> !x.1)&&(backToKw cpos<|keywordEach [] X.env).all (λx=>x.1.isSome)
   &&decide ([e].length+([]:List Keyword).length+(if([]:List Keyword).isEmpty then 0 else 1)<30))=true:=by rfl)
  (hline:(apos.endLine==cpos.line)=true:=by rfl) (hs:starEach [e] X.env=(false,eval e X.env)::starEach [] X.env:=by rfl) (hplain:(backTo cpos<|starEach [] X.env).any (·.1)=false:=by rfl)
  (hw:swapsWith (.Call (.Attribute (.Name x p) "append" apos) [e] [] cpos) none pos.line X.env=pure false:=by rfl) :
  PUS X (.Expr (.Call (.Attribute (.Name x p) "append" apos) [e] [] cpos) pos) (aO3 i te):=
 rC (b70 (dQ5 PySem.F.plainAttrs_list PySem.F.slot_list_append PySem.F.type_list_append bO6 hx (b73 he bT8 hs) hbase hfew hline hs hplain) hw) λD σ H ⟨C,ρ,D0,I,h,k⟩=>by
  obtain⟨l,hl,h⟩:=jF h;obtain⟨a,vs,h1,h2,h3,h4⟩:=I.ow i l hl;refine⟨.ref a,h1,.inl ⟨rfl,vs,SqL.of h2⟩,C,ρ,_,I,h,λb ρ1 v H1 q f s r=> ?_⟩
  obtain⟨l',hl',hz,q⟩:=jF q;have e:=f.ow hl';rw[hl]at e;cases e;have I1:=(I.frz f).same s;obtain⟨a',vs',g1,g2,g3,g4⟩:=I1.ow i l hl';rw[h1]at g1;cases g1;refine⟨a,vs',v,rfl,rfl,g2,by rw[<-g4.length];exact hz,k.nx _ _ _ q ?_⟩
  exact I1.write hl' h1 (g4.append<|.cons (r.rep λa z=>I.avF f z) .nil)
def bA8 (i:Nat)(t ti:UE):US:=λD ρ=>t ρ λb ρ1=>oC ρ1 i λ_=>ti ρ1 λj ρ2=>oC ρ2 i λl=>match j.d with
 | .int k=>(match ixN l.length k with
  | some n=>D.nx (ρ2.set i<|some<|.ow<|l.set n b.d)
  | none=>False)
 | _=>False
theorem u8 {x:Str}{p tpos:Pos}{ix:Expr}(i:Nat)(hx:PE X (.Name x p) (aG3 i))(he:PU X e te)(hi:PU X ix ti)
  (ha: ∀v,assign (.Subscript (.Name x p) ix tpos) X.env v=(do
   let ov<-holding [v] (eval (.Name x p) X.env)
   let iv<-holding [v,ov] (eval ix X.env)
   standAt tpos
   holding [v,ov,iv] (setItem ov iv v)
   release [v,ov,iv] []):=by intro _;rfl)
  (hs:swapsWithSole [.Subscript (.Name x p) ix tpos] e pos.line X.env=pure false:=by rfl) (hw:swappedStores [.Subscript (.Name x p) ix tpos] e X.env=pure none:=by rfl)
  (h1:(assignEach [.Subscript (.Name x p) ix tpos] X.env).map (·.2)=[assign (.Subscript (.Name x p) ix tpos) X.env]:=by rfl):PUS X (.Assign [.Subscript (.Name x p) ix tpos] e pos) (bA8 i te ti):=
 rC (d07 he (pg_sub hx hi c40 ha) hs hw h1) λD σ H ⟨C,ρ,D0,I,h,k⟩=>⟨C,ρ,_,I,h,λb ρ1 v H1 q f s r=>by
  obtain⟨l,hl,q⟩:=jF q;have I1:=(I.frz f).same s;obtain⟨a,vs,h1,h2,h3,h4⟩:=I1.ow i l hl;refine⟨.ref a,h1,C,ρ1,_,I1,q,λj ρ2 w H2 q2 f2 s2 r2=> ?_⟩
  obtain⟨l',hl',q2⟩:=jF q2;have e:=f2.ow hl';rw[hl]at e;cases e;have I2:=(I1.frz f2).same s2;obtain⟨a',vs',g1,g2,g3,g4⟩:=I2.ow i l hl';rw[h1]at g1;cases g1;have rj:=r2.rep λa z=>I1.avF f2 z
  generalize j.d=dj at q2 rj;split at q2
  ·rename_i kk
   have:=bK rj;subst this;split at q2
   ·rename_i n hn
    refine⟨a,vs',kk,n,rfl,rfl,g2,by rw[<-g4.length];exact hn,k.nx _ _ _ q2 ?_⟩
    exact I2.write hl' h1 (g4.set n<|(r.rep λa z=>I.avF f z).mono<|.sub s2 λa=>f2.av)
   ·exact q2.elim
  ·exact q2.elim⟩
def gIx (d i:D)(Q:D->Prop):Prop:=match pB d,i with
 | some l,.int k=>(match atI l k with
  | some x=>Q x
  | none=>False)
 | _,_=>False
def uIx (t:UV)(ti:UE):UE:=λρ Q=>t ρ λd ρ1=>ti ρ1 λi ρ2=>gIx d i.d λx=>Q (.pu x) ρ2
theorem bL.atI {l:List D}{vs:List V}{k:Int}{x:D}(r:bL K A H l vs)(h:atI l k=some x): ∃v,L2.atI vs k=some v/\Rep K A H x v:=by
 unfold L2.atI at h⊢;cases e:ixN l.length k with
 | none=>rw[e]at h;cases h
 | some j=>
  rw[e]at h;rw[<-r.length,e];exact r.get h
theorem cF2.mono {A':AS}(s:iB H H')(h: ∀a,A' a->A a): ∀{d:D} {v:V},cF2 K A H d v->cF2 K A' H' d v
 | .non,_,r=>Rep.mono (.sub s h) r
 | .bl _,_,r=>Rep.mono (.sub s h) r
 | .int _,_,r=>Rep.mono (.sub s h) r
 | .str _,_,r=>Rep.mono (.sub s h) r
 | .ty _,_,r=>Rep.mono (.sub s h) r
 | .tup _,_,⟨a,vs,e,c,r⟩=>⟨a,vs,e,c.imp (λc=>c.imp (s _ _) λ⟨o,z⟩=>⟨o,s _ _ z⟩) id,r.mono<|.sub s h⟩
 | .lst _,_,⟨a,vs,e,c,r⟩=>⟨a,vs,e,s _ _ c,r.mono<|.sub s h⟩
 | .rol _,_,⟨a,vs,e,c,r⟩=>⟨a,vs,e,s.seq c,r.mono<|.sub s h⟩
 | .obj _ _ _,_,r=>Rep.mono (.sub s h) r
 | .adr _,_,r=>Rep.mono (.sub s h) r
 | .xob _ _ _ _,_,r=>Rep.mono (.sub s h) r
theorem cF2.seq {d:D}{v:V}{l:List D}(r:cF2 K A H d v)(h:pB d=some l): ∃a vs,v= .ref a/\(SqL K H a vs\/SqT K H a vs)/\bL K A H l vs:=by
 cases d with
 | tup l'=>cases h;obtain⟨a,vs,e,c,r⟩:=r;exact⟨a,vs,e,.inr c,r⟩
 | lst l'=>cases h;obtain⟨a,vs,e,c,r⟩:=r;exact⟨a,vs,e,.inl<|SqL.of c,r⟩
 | rol l'=>cases h;obtain⟨a,vs,e,c,r⟩:=r;exact⟨a,vs,e,.inl c,r⟩
 | _=>cases h
theorem dH7 {d i:D}{Q:D->Prop}(h:gIx d i Q): ∃l k x,pB d=some l/\i= .int k/\atI l k=some x/\Q x:=by
 unfold gIx at h;split at h
 ·rename_i l k e
  split at h
  ·rename_i x ex
   exact⟨l,k,x,e,rfl,ex,h⟩
  ·exact h.elim
 ·exact h.elim
theorem a78 {t:UV}(ha:PUV X a t)(hb:PU X b ti)(hs:bT9 b):PU X (.Subscript a b pos) (uIx t ti):=
 iS (pe_ix ix_seq ha hb hs) λσ H Q ⟨C,ρ,Q0,I,h,k⟩=>⟨C,ρ,_,I,h,λd ρ1 v H1 q f s r=>by
  have I1:=(I.frz f).same s;refine⟨C,ρ1,_,I1,q,λi ρ2 w H2 q2 f2 s2 r2=> ?_⟩
  obtain⟨l,kk,x,e1,e2,e3,q2⟩:=dH7 q2;have ri:=r2.rep λa z=>I1.avF f2 z
  rw[e2]at ri;have:=bK ri;subst this;obtain⟨a,vs,rfl,c,rs⟩:=(r.mono (A':=Av C ρ2 σ) s2 λa=>f2.av).seq e1
  obtain⟨u,e4,r4⟩:=rs.atI e3;have fin:=k (.pu x) ρ2 u H2 q2 (f.trans f2) (s.trans s2) r4;rcases c with c|c
  ·exact .inl ⟨a,vs,kk,u,rfl,rfl,c,e4,fin⟩
  ·exact .inr (.inl ⟨a,vs,kk,u,rfl,rfl,c,e4,fin⟩)⟩
abbrev UO:=Ev->(Option Int->Ev->Prop)->Prop
def lO (K:Frag)(t:UO):TO:=λσ H Q=> ∃C ρ Q0,EOk K C ρ σ H/\t ρ Q0/\ ∀i ρ' H',Q0 i ρ'->Frz ρ ρ'->iB H H'->Q i H'
def PUO (X:Cx)(e:Option Expr)(t:UO):Prop:=PO X e (lO X.K t)
theorem dQ9 {e:Option Expr}{t t':TO}(h:PO X e t)(i: ∀σ H Q,t' σ H Q->t σ H Q):PO X e t':=λpins s σ H Q I q=>h pins s σ H Q I (i σ H Q q)
def i7:UO:=λρ Q=>Q none ρ
def jG (t:UE):UO:=λρ Q=>t ρ λb ρ1=>match b.d with
 | .int i=>Q (some i) ρ1
 | _=>False
theorem iU:PUO X none i7:=dQ9 dG7 λσ H Q ⟨C,ρ,Q0,I,h,k⟩=>k _ _ _ h (.refl _) (.refl _)
theorem fO (h:PU X e te):PUO X (some e) (jG te):=dQ9 (dG8 h) λσ H Q ⟨C,ρ,Q0,I,h,k⟩=>⟨C,ρ,_,I,h,λb ρ1 v H1 q f s r=>by
 have r':=r.rep λa z=>I.avF f z
 generalize b.d=d at q r';split at q
 ·exact⟨_,bK r',k _ _ _ q f s⟩
 ·exact q.elim⟩
noncomputable def cutD (l:List D)(lo hi:Option Int):List D:=(l.drop<|HT.sIx l.length 0 lo).take (HT.sIx l.length l.length hi-HT.sIx l.length 0 lo)
theorem bL.cut {l:List D}{vs:List V}(r:bL K A H l vs)(lo hi:Option Int):bL K A H (cutD l lo hi) (c39 vs lo hi):=by
 unfold cutD c39;rw[r.length];exact(r.drop _).take _
def gSl (d:D)(lo hi:Option Int)(Q:B->Prop):Prop:=match d with
 | .tup l=> ¬(HT.sIx l.length 0 lo=0/\HT.sIx l.length l.length hi=l.length)/\Q (.pu<|.tup<|cutD l lo hi)
 | .lst l=>Q (.ow<|cutD l lo hi)
 | .rol l=>Q (.ow<|cutD l lo hi)
 | _=>False
def uSl (t:UV)(tl th:UO):UE:=λρ Q=>t ρ λd ρ1=>tl ρ1 λlo ρ2=>th ρ2 λhi ρ3=>gSl d lo hi λb=>Q b ρ3
theorem l6 {t:UV}{tl th:UO}{lo hi:Option Expr}{p2:Pos}(he:PUV X e t)(hl:PUO X lo tl)(hu:PUO X hi th):PU X (.Subscript e (.Slice lo hi none p2) pos) (uSl t tl th):=
 iS (c38 (cN8.or d20) he hl hu) λσ H Q ⟨C,ρ,Q0,I,h,k⟩=>⟨C,ρ,_,I,h,λd ρ1 v H1 q f s r=>by
  have I1:=(I.frz f).same s;refine⟨C,ρ1,_,I1,q,λl2 ρ2 H2 q2 f2 s2=> ?_⟩
  have I2:=(I1.frz f2).same s2;refine⟨C,ρ2,_,I2,q2,λh3 ρ3 H3 q3 f3 s3=> ?_⟩
  have I3:=(I2.frz f3).same s3;have s13:=s2.trans s3;have sAll:=s.trans s13;have fAll:=f.trans (f2.trans f3);have r':=r.mono (A':=Av C ρ3 σ) s13 λa z=>f2.av (f3.av z)
  cases d with
  | tup l=>
   obtain⟨hw,q3⟩:=q3;obtain⟨a,vs,rfl,c,rs⟩:=r';exact .inr ⟨a,vs,rfl,c,by rw[<-rs.length];exact hw,λp n=>k _ ρ3 _ _ q3 fAll (sAll.trans<|eZ n _) (iT (λa z=>I3.avSome z) n<|rs.cut l2 h3)⟩
  | lst l=>
   obtain⟨a,vs,rfl,c,rs⟩:=r';exact .inl ⟨a,vs,rfl,SqL.of c,λp n=>k _ ρ3 _ _ q3 fAll (sAll.trans<|eZ n _) (i8 sAll n<|rs.cut l2 h3)⟩
  | rol l=>
   obtain⟨a,vs,rfl,c,rs⟩:=r';exact .inl ⟨a,vs,rfl,c,λp n=>k _ ρ3 _ _ q3 fAll (sAll.trans<|eZ n _) (i8 sAll n<|rs.cut l2 h3)⟩
  | _=>exact(show False from q3).elim⟩
def Sm (i:Int):Prop:=i.natAbs<2^9000
theorem Sm.log {i:Int}(h:Sm i):i.natAbs.log2<9000:=by
 by_cases z:i.natAbs=0
 ·rw[z];decide
 ·exact(Nat.log2_lt z).mpr h
def hX (d e:D)(Q:B->Prop):Prop:=match d,e with
 | .int i,.int j=>Q (.pu<|.int<|i+j)
 | .lst l,.lst m=>l.length+m.length<=sizeLine/\Q (.ow<|l++m)
 | .tup l,.tup m=>l.length+m.length<=sizeLine/\Q (.pu<|.tup<|l++m)
 | _,_=>False
theorem d33:OpR X (binaryOp .Add) (λx y H Q=> ∃a b ys,x= .ref a/\y= .ref b/\SqT X.K H a []/\SqT X.K H b ys/\Q (.ref b) H):=by
 intro pins s σ H x y v u Q I rx ry h;obtain⟨a,b,ys,rfl,rfl,ha,hb,q⟩:=h;cases rx;cases ry;obtain⟨its,r1,p1,_⟩:=I.tuple ha;obtain⟨its2,r2,p2,_⟩:=I.tuple hb;have e:its=[]:=by
  have:=r1.length;exact tF.mp this.symm
 subst e;obtain⟨⟨cls,dd,data,sl⟩,ho,hc,n,hd⟩:=id p1;obtain⟨⟨cls2,dd2,data2,sl2⟩,ho2,hc2,n2,hd2⟩:=id p2;simp only at hc hd hc2 hd2;subst hc hd hc2 hd2;exact concat_meets ⟨_,ho,rfl⟩ ⟨_,ho2,rfl⟩ aN6 seq_tuple_add aK8 aK3 (aJ9 _ _) (tuple_addW0 a b _ its2.toArray n n2 dd dd2 sl sl2 rfl) ⟨ho,ho2,⟨.ref b,H,I,rfl,q⟩⟩
theorem aG4 {i:Int}:u6 K A H H' (.pu<|.int i) (.int i):=by
 show Rep K A H' (.int i) (.int i)
 simp only[Rep]
theorem cV:OpU X (binaryOp .Add) hX:=by
 intro A H d e v w Q0 Q hA r1 r2 g k;unfold hX at g;split at g
 ·rename_i i j
  exact⟨_,op_add,i,j,bK r1,bK r2,k _ _ H g (.refl _) aG4⟩
 ·rename_i l m
  simp only[Rep]at r1 r2;obtain⟨a,vs,rfl,n1,c1,rs1⟩:=r1;obtain⟨b,ws,rfl,n2,c2,rs2⟩:=r2;exact⟨_,op_cat,a,b,vs,ws,rfl,rfl,c1,c2,by rw[<-rs1.length,<-rs2.length];exact g.1,λp n=>k _ _ _ g.2 (eZ n _) (i8 (.refl _) n<|rs1.append rs2)⟩
 ·rename_i l m
  simp only[Rep]at r1 r2;obtain⟨a,vs,rfl,c1,rs1⟩:=r1;obtain⟨b,ws,rfl,c2,rs2⟩:=r2;obtain⟨hz,g⟩:=g
  by_cases hn:l=[]
  ·subst hn;have e1:vs=[]:=rs1.unnil;subst e1;refine⟨_,d33,a,b,ws,rfl,rfl,c1.imp cU id,c2.imp cU id,k _ _ H g (.refl _) ?_⟩;show Rep X.K A H (.tup m) (.ref b);simp only[Rep];exact⟨b,ws,rfl,c2,rs2⟩
  refine⟨_,dG9,a,b,vs,ws,rfl,rfl,c1.imp cU id,c2.imp cU id,λz=>hn ?_,by rw[<-rs1.length,<-rs2.length];exact hz,λz=> ?_,λz p n=> ?_⟩
  ·have:=rs1.length;rw[z]at this;exact tF.mp this
  ·have e2:=rs2.length;rw[z]at e2;have e3:m=[]:=tF.mp e2;subst e3;rw[jV]at g;refine k _ _ H g (.refl _) ?_;show Rep X.K A H (.tup l) (.ref a);simp only[Rep];exact⟨a,vs,rfl,c1,rs1⟩
  ·exact k _ _ _ g (eZ n _) (iT hA n<|rs1.append rs2)
 ·exact g.elim
def gI2 (f:Int->Int->(B->Prop)->Prop)(d e:D)(Q:B->Prop):Prop:=match d,e with
 | .int i,.int j=>f i j Q
 | _,_=>False
theorem sR {f:Int->Int->(B->Prop)->Prop}{d e:D}{Q:B->Prop}(h:gI2 f d e Q): ∃i j,d= .int i/\e= .int j/\f i j Q:=by
 unfold gI2 at h;split at h
 ·exact⟨_,_,rfl,rfl,h⟩
 ·exact h.elim
def gSub:D->D->(B->Prop)->Prop:=gI2 λi j Q=>Q (.pu<|.int<|i-j)
theorem bP:OpU X (binaryOp .Sub) gSub:=by
 intro A H d e v w Q0 Q hA r1 r2 g k;obtain⟨i,j,rfl,rfl,g⟩:=sR g;exact⟨_,op_sub,i,j,bK r1,bK r2,k _ _ H g (.refl _) aG4⟩
theorem cO4 {i:Int}(h:Sm i):Builtin.Int.intBits i<=2^20:=aM (PyProof.Rows.intBits_le h) ac
def hZ (d e:D)(Q:B->Prop):Prop:=match d,e with
 | .int i,.int j=>(cE2 i j\/(Sm i/\Sm j))/\Q (.pu<|.int<|i*j)
 | .lst l,.int k=>(-(2^63)<=k/\k<2^63/\l.length*k.toNat<=sizeLine)/\Q (.ow (replicate k.toNat l).flatten)
 | _,_=>False
theorem dH8:OpR X (binaryOp .Mult) (rI (λi j=>cE2 i j\/(Sm i/\Sm j)) λi j=> .int (i*j)):=opI λ_ _ _ _ _ _ _ hc q=>mul_int q (hc.elim cE2.ok λh=> .of_bits (cO4 h.1) (cO4 h.2))
theorem cN:OpU X (binaryOp .Mult) hZ:=by
 intro A H d e v w Q0 Q hA r1 r2 g k;unfold hZ at g;split at g
 ·rename_i i j
  exact⟨_,dH8,i,j,bK r1,bK r2,g.1,k _ _ H g.2 (.refl _) aG4⟩
 ·rename_i l kk
  have:=bK r2;subst this;simp only[Rep]at r1;obtain⟨a,vs,rfl,n1,c1,rs1⟩:=r1;obtain⟨⟨h1,h2,h3⟩,g⟩:=g;exact⟨_,op_rep,a,kk,vs,rfl,rfl,c1,h1,h2,by rw[<-rs1.length];exact h3,λp n=>k _ _ _ g (eZ n _) (i8 (.refl _) n<|rs1.rep _)⟩
 ·exact g.elim
def aO4:D->D->(B->Prop)->Prop:=gI2 λi j Q=>(j≠0/\Sm j)/\Q (.pu<|.int<|i.fdiv j)
def oJ:D->D->(B->Prop)->Prop:=gI2 λi j Q=>j≠0/\Q (.pu<|.int<|i.fmod j)
theorem dH9:OpR X (binaryOp .FloorDiv) (rI (λ_ j=>j≠0/\Sm j) λi j=> .int (i.fdiv j)):=opI λ_ _ _ _ _ _ _ hc q=>floordiv_int hc.1 q (.inl<|PyProof.noPylong_of_log2 hc.2.log)
theorem rW:OpU X (binaryOp .FloorDiv) aO4:=by
 intro A H d e v w Q0 Q hA r1 r2 g k;obtain⟨i,j,rfl,rfl,g⟩:=sR g;exact⟨_,dH9,i,j,bK r1,bK r2,g.1,k _ _ H g.2 (.refl _) aG4⟩
theorem gZ:OpU X (binaryOp .Mod) oJ:=by
 intro A H d e v w Q0 Q hA r1 r2 g k;obtain⟨i,j,rfl,rfl,g⟩:=sR g;exact⟨_,dF9,i,j,bK r1,bK r2,g.1,k _ _ H g.2 (.refl _) aG4⟩
def dI0:D->D->(B->Prop)->Prop:=gI2 λi j Q=>dF8 i j/\Q (.pu<|.int<|i^j.toNat)
theorem d34:OpU X (binaryOp .Pow) dI0:=by
 intro A H d e v w Q0 Q hA r1 r2 g k;obtain⟨i,j,rfl,rfl,g⟩:=sR g;exact⟨_,op_pow,i,j,bK r1,bK r2,g.1,k _ _ H g.2 (.refl _) aG4⟩
def sS (p:Int->Int->Bool):D->D->(B->Prop)->Prop:=gI2 λi j Q=>Q (.pu<|.bl<|p i j)
theorem bU9 {op:CmpOp}{p:Int->Int->Bool}(ho:OpR X (compareOp op) (rI0 λi j=> .bl (p i j))):OpU X (compareOp op) (sS p):=by
 intro A H d e v w Q0 Q hA r1 r2 g k;obtain⟨i,j,rfl,rfl,g⟩:=sR g;exact⟨_,ho,i,j,bK r1,bK r2,k _ _ H g (.refl _) mC⟩
theorem cO5:OpU X (compareOp .Lt) (sS λi j=>decide (i<j)):=bU9 op_lt
theorem dR0:OpU X (compareOp .LtE) (sS λi j=>decide (i<=j)):=bU9 op_le
theorem bO9:OpU X (compareOp .Gt) (sS λi j=>decide (j<i)):=bU9 op_gt
theorem dR1:OpU X (compareOp .GtE) (sS λi j=>decide (j<=i)):=bU9 op_ge
def jH (neg:Bool)(d e:D)(Q:B->Prop):Prop:=match d,e with
 | .int i,.int j=>Q (.pu<|.bl<|neg ^^ decide (i=j))
 | .bl i,.bl j=>Q (.pu<|.bl<|neg ^^ decide (i=j))
 | .str i,.str j=>Q (.pu<|.bl<|neg ^^ decide (i=j))
 | _,_=>False
theorem vM {b:Bool}{v:V}(h:Rep K A H (.bl b) v):v= .bl b:=by simpa only[Rep]using h
theorem aS1 {b:Str}{v:V}(h:Rep K A H (.str b) v):v= .str b:=by simpa only[Rep]using h
theorem jI:OpU X (compareOp .Eq) (jH false):=by
 intro A H d e v w Q0 Q hA r1 r2 g k;unfold jH at g;split at g
 ·rw[bK r1,bK r2];exact⟨_,d10,rfl,k _ _ H g (.refl _) (by rw[b71,nP,pK];exact mC)⟩
 ·rw[vM r1,vM r2];exact⟨_,d10,rfl,k _ _ H g (.refl _) (by rw[bT7,nP,pK];exact mC)⟩
 ·rw[aS1 r1,aS1 r2];exact⟨_,d10,rfl,k _ _ H g (.refl _) (by rw[b72,nP,pK];exact mC)⟩
 ·exact g.elim
theorem bA9:OpU X (compareOp .NotEq) (jH true):=by
 intro A H d e v w Q0 Q hA r1 r2 g k;unfold jH at g;split at g
 ·rw[bK r1,bK r2];exact⟨_,d11,rfl,k _ _ H g (.refl _) (by rw[b71,pV,pK];exact mC)⟩
 ·rw[vM r1,vM r2];exact⟨_,d11,rfl,k _ _ H g (.refl _) (by rw[bT7,pV,pK];exact mC)⟩
 ·rw[aS1 r1,aS1 r2];exact⟨_,d11,rfl,k _ _ H g (.refl _) (by rw[b72,pV,pK];exact mC)⟩
 ·exact g.elim
end
section
variable {X:Cx}{a b e o:Expr}{es:List Expr}{pos:Pos}{ta tb te ti:UE}{K:Frag}{C:C0}{ρ ρ':Ev}{σ σ':L2.St}{H H':Hp}{A:AS}
def rD (t:UE):UE:=λρ Q=>t ρ λb ρ1=>match b.d with
 | .int i=>Q (.pu<|.int<|-i) ρ1
 | _=>False
theorem kG (h:PU X a ta):PU X (.UnaryOp .USub a pos) (rD ta):=
 iS (pe_un un_neg h) λσ H Q ⟨C,ρ,Q0,I,h,k⟩=>⟨C,ρ,_,I,h,λb ρ1 v H1 q f s r=>by
  have r':=r.rep λa z=>I.avF f z
  generalize b.d=d at q r';split at q
  ·exact⟨_,bK r',k _ _ _ _ q f s aG4⟩
  ·exact q.elim⟩
theorem cF7:IpU X .Add (gI2 λi j Q=>Q (.pu<|.int<|i+j)):=by
 intro A H d e v w Q0 Q hA r1 r2 g k;obtain⟨i,j,rfl,rfl,g⟩:=sR g;exact⟨_,ip_add,i,j,bK r1,bK r2,k _ _ H g (.refl _) aG4⟩
theorem iu_sub:IpU X .Sub (gI2 λi j Q=>Q (.pu<|.int<|i-j)):=by
 intro A H d e v w Q0 Q hA r1 r2 g k;obtain⟨i,j,rfl,rfl,g⟩:=sR g;exact⟨_,d08,i,j,bK r1,bK r2,k _ _ H g (.refl _) aG4⟩
def g1 (f:D->(B->Prop)->Prop)(ds:List D)(Q:B->Prop):Prop:=match ds with
 | [d]=>f d Q
 | _=>False
def g2 (f:D->D->(B->Prop)->Prop)(ds:List D)(Q:B->Prop):Prop:=match ds with
 | [d,e]=>f d e Q
 | _=>False
theorem a79 {f:D->(B->Prop)->Prop}{ds:List D}{Q:B->Prop}{vs:List V}(h:g1 f ds Q)(r:bL K A H ds vs): ∃d v,ds=[d]/\vs=[v]/\Rep K A H d v/\f d Q:=by
 unfold g1 at h;split at h
 ·obtain⟨v,vr,rfl,rv,rr⟩:=r.uncons;have:=rr.unnil;subst this;exact⟨_,v,rfl,rfl,rv,h⟩
 ·exact h.elim
theorem cF8 {f:D->D->(B->Prop)->Prop}{ds:List D}{Q:B->Prop}{vs:List V}(h:g2 f ds Q)(r:bL K A H ds vs): ∃d e v w,ds=[d,e]/\vs=[v,w]/\Rep K A H d v/\Rep K A H e w/\f d e Q:=by
 unfold g2 at h;split at h
 ·obtain⟨v,vr,rfl,rv,rr⟩:=r.uncons;obtain⟨w,wr,rfl,rw',rr'⟩:=rr.uncons;have:=rr'.unnil;subst this;exact⟨_,_,v,w,rfl,rfl,rv,rw',h⟩
 ·exact h.elim
def dI1 (f:Int->(B->Prop)->Prop)(d:D)(Q:B->Prop):Prop:=match d with
 | .int i=>f i Q
 | _=>False
theorem d35 {f:Int->(B->Prop)->Prop}{d:D}{Q:B->Prop}(h:dI1 f d Q): ∃i,d= .int i/\f i Q:=by
 unfold dI1 at h;split at h
 ·exact⟨_,rfl,h⟩
 ·exact h.elim
def cF9:List D->(B->Prop)->Prop:=g1 (dI1 λi Q=>Q (.pu<|.int<|if i<0 then -i else i))
theorem bB0:vL X (.builtin "abs") cF9:=by
 intro A H ds vs Q0 Q hA r g k;obtain⟨d,v,rfl,rfl,rv,g⟩:=a79 g r;obtain⟨i,rfl,g⟩:=d35 g;exact⟨_,d12,i,by rw[bK rv],k _ _ H g (.refl _) aG4⟩
def gMax:List D->(B->Prop)->Prop:=g2 (gI2 λi j Q=>Q (.pu<|.int<|if j>i then j else i))
theorem cu_max (hc:X.calm=true):vL X (.builtin "max") gMax:=by
 intro A H ds vs Q0 Q hA r g k;obtain⟨d,e,v,w,rfl,rfl,rv,rw',g⟩:=cF8 g r;obtain⟨i,j,rfl,rfl,g⟩:=sR g;exact⟨_,cT7 hc,i,j,by rw[bK rv,bK rw'],k _ _ H g (.refl _) aG4⟩
def gMin:List D->(B->Prop)->Prop:=g2 (gI2 λi j Q=>Q (.pu<|.int<|if j<i then j else i))
theorem cu_min (hc:X.calm=true):vL X (.builtin "min") gMin:=by
 intro A H ds vs Q0 Q hA r g k;obtain⟨d,e,v,w,rfl,rfl,rv,rw',g⟩:=cF8 g r;obtain⟨i,j,rfl,rfl,g⟩:=sR g;exact⟨_,cT8 hc,i,j,by rw[bK rv,bK rw'],k _ _ H g (.refl _) aG4⟩
def aY0:List D->(B->Prop)->Prop:=g1 λd Q=>match d with
 | .int i=>Q (.pu<|.int i)
 | .bl k=>Q (.pu<|.int<|if k then 1 else 0)
 | _=>False
theorem cG0:vL X (.type "int") aY0:=by
 intro A H ds vs Q0 Q hA r g k;obtain⟨d,v,rfl,rfl,rv,g⟩:=a79 g r;cases d with
 | int i=>exact⟨_,bO0,.inl ⟨i,by rw[bK rv],k _ _ H g (.refl _) aG4⟩⟩
 | bl c=>exact⟨_,bO0,.inr ⟨c,by rw[vM rv],k _ _ H g (.refl _) aG4⟩⟩
 | _=>exact(show False from g).elim
def cX:List D->(B->Prop)->Prop:=g1 λd Q=>match pB d with
 | some l=>Q (.pu<|.tup l)
 | none=>False
theorem fB:vL X (.type "tuple") cX:=by
 intro A H ds vs Q0 Q hA r g k;obtain⟨d,v,rfl,rfl,rv,g⟩:=a79 g r;cases d with
 | tup l=>
  have rv':=rv;simp only[Rep]at rv;obtain⟨a,vs,rfl,c,rs⟩:=rv;exact⟨_,wH,a,vs,rfl,.inr ⟨c.imp cU id,k _ _ H g (.refl _) rv'⟩⟩
 | lst l=>
  simp only[Rep]at rv;obtain⟨a,vs,rfl,n,c,rs⟩:=rv;exact⟨_,wH,a,vs,rfl,.inl ⟨SqL.of c,λp n=>k _ _ _ g (eZ n _) (iT hA n rs)⟩⟩
 | rol l=>
  simp only[Rep]at rv;obtain⟨a,vs,rfl,c,rs⟩:=rv;exact⟨_,wH,a,vs,rfl,.inl ⟨c.imp cU id,λp n=>k _ _ _ g (eZ n _) (iT hA n rs)⟩⟩
 | _=>exact(show False from g).elim
def aE4:List D->(B->Prop)->Prop:=g1 λd Q=>match pB d with
 | some l=>Q (.ow l)
 | none=>False
theorem b76:vL X (.type "list") aE4:=by
 intro A H ds vs Q0 Q hA r g k;obtain⟨d,v,rfl,rfl,rv,g⟩:=a79 g r;cases e:pB d with
 | none=>simp only[e]at g
 | some l=>
  simp only[e]at g;obtain⟨a,vs,rfl,c,rs⟩:=rv.one.seq e;exact⟨_,bU4,a,vs,rfl,c,λp n=>k _ _ _ g (eZ n _) (i8 (.refl _) n rs)⟩
def kO (t:UV):UE:=λρ Q=>t ρ λd ρ1=>match pB d with
 | some l=>Q (.pu<|.int l.length) ρ1
 | none=>False
theorem fU {t:UV}{p:Pos}(ha:PUV X e t)(hg:Gl X "len")(hm:X.mg "len"=none)(hs:starEach [e] X.env=(false,eval e X.env)::starEach [] X.env:=by rfl)
  (hpl:(backTo pos<|starEach [] X.env).any (·.1)=false:=by rfl):PU X (.Call (.Name "len" p) [e] [] pos) (kO t):=
 iS (c37 bU3 hg hm PySem.boot_len (b73 ha bT8 hs) ac ac hs hpl) λσ H Q ⟨C,ρ,Q0,I,h,k⟩=>⟨C,ρ,_,I,h,λd ρ1 v H1 q f s r=>by
  cases e:pB d with
  | none=>simp only[e]at q
  | some l=>
   simp only[e]at q;obtain⟨a,vs,rfl,c,rs⟩:=r.seq e;exact⟨a,vs,rfl,c,k _ _ _ _ q f s (by rw[rs.length];exact aG4)⟩⟩
theorem aO5 {x:Value}{T:String}{prog:Program}{w:World}{A:Around}{E:Value->Shared->Prop}{s:Shared}{Q:Value->Shared->Prop}
  {P:(Result->Shared->Prop)->Shared->Prop} (hm:Meets (Builtin.«isinstance» ⟨[x,.type T],[]⟩) (λ_ R s=>P R s)) (h:P (λr s'=>match r with| .ok (.ret v)=>Q v s'| .ok _=>False| .error e=>E e s') s) :
  wpAny (model prog w) A (call (.builtin "isinstance") [x,.type T]) Q E s:=
 call_function_any kind_isinstance plain_isinstance entry_isinstance (args_isinstance _ _) (hm _ _ _ _ _ h)
theorem rep_ty {T:String}{v:V}(h:Rep K A H (.ty T) v):v= .ty T:=by simpa only[Rep]using h
def rIsi (K:Frag):List V->Hp->VK->Prop:=λxs H Q=> ∃x T k,xs=[x,.ty T]/\Q (.bl k) H/\
 ((∃i,x= .int i/\((T="int"/\k=true)\/((T="bool"\/T="tuple"\/T="list")/\k=false)))\/(∃c,x= .bl c/\(T="int"\/T="bool")/\k=true)\/
  (∃a ys,x= .ref a/\SqT K H a ys/\((T="tuple"/\k=true)\/((T="int"\/T="list")/\k=false)))\/(∃a ys,x= .ref a/\SqL K H a ys/\((T="list"/\k=true)\/((T="int"\/T="tuple")/\k=false))))
theorem tyT (T:String)(h:T="int"\/T="bool"\/T="tuple"\/T="list"):typeOf (.type T)=pure (.type "type"):=by
 rcases h with rfl|rfl|rfl|rfl<;>first|rfl|decide
theorem u9:oZ X (.builtin "isinstance") (rIsi X.K):=by
 intro pins s σ H xs us Q I r h;obtain⟨x,T,k,rfl,q,h⟩:=h;obtain⟨u,w',rfl,rx,ry⟩:=vals2 r;have e:w'=Value.type T:=ry;subst e;rcases h with⟨i,rfl,h⟩| ⟨c,rfl,h,rfl⟩| ⟨a,ys,rfl,hs,h⟩| ⟨a,ys,rfl,hs,h⟩
 ·obtain⟨t,rfl⟩:=rx;rcases h with⟨rfl,rfl⟩| ⟨h,rfl⟩
  ·exact tI (pZ s i t) (tyT _ ae) PyProof.Rows.sub_int_int ⟨.bl true,H,I,rfl,q⟩
  ·rcases h with rfl|rfl|rfl
   ·exact aO5 (aL4 ac (tyT _ ae) PyProof.Rows.sub_int_bool) ⟨.bl false,H,I.tok _,rfl,q⟩
   ·exact aO5 (aL4 ac (tyT _ ae) PyProof.Rows.sub_int_tuple) ⟨.bl false,H,I.tok _,rfl,q⟩
   ·exact aO5 (aL4 ac (tyT _ ae) PyProof.Rows.sub_int_list) ⟨.bl false,H,I.tok _,rfl,q⟩
 ·cases rx;rcases h with rfl|rfl
  ·exact tI (PySem.typeIs_bool s c) (tyT _ ae) PyProof.Rows.sub_bool_int ⟨.bl true,H,I,rfl,q⟩
  ·exact tI (PySem.typeIs_bool s c) (tyT _ ae) PyProof.Rows.sub_bool_bool ⟨.bl true,H,I,rfl,q⟩
 ·cases rx;obtain⟨its,rv,p,hz⟩:=I.tuple hs;obtain⟨o,ho,hc,_⟩:=id p;rcases h with⟨rfl,rfl⟩| ⟨h,rfl⟩
  ·exact tI p.typeIs (tyT _ ae) PyProof.Rows.sub_tuple_tuple ⟨.bl true,H,I,rfl,q⟩
  ·rcases h with rfl|rfl
   ·exact aO5 (isinstance_false_tuple ac (tyT _ ae) PyProof.Rows.sub_tuple_int) ⟨⟨o,ho,hc⟩,.bl false,H,I.tok _,rfl,q⟩
   ·exact aO5 (isinstance_false_tuple ac (tyT _ ae) PyProof.Rows.sub_tuple_list) ⟨⟨o,ho,hc⟩,.bl false,H,I.tok _,rfl,q⟩
 ·cases rx;obtain⟨its,rv,p,hz⟩:=I.list hs;obtain⟨o,n,ho,hc,_⟩:=id p;rcases h with⟨rfl,rfl⟩| ⟨h,rfl⟩
  ·exact tI p.isList.typeIs (tyT _ ae) PyProof.Rows.sub_list_list ⟨.bl true,H,I,rfl,q⟩
  ·rcases h with rfl|rfl
   ·exact aO5 (isinstance_false_list ac (tyT _ ae) PyProof.Rows.sub_list_int) ⟨⟨o,ho,hc⟩,.bl false,H,I.tok _,rfl,q⟩
   ·exact aO5 (isinstance_false_list ac (tyT _ ae) PyProof.Rows.sub_list_tuple) ⟨⟨o,ho,hc⟩,.bl false,H,I.tok _,rfl,q⟩
def dI2:List D->(B->Prop)->Prop:=g2 λd e Q=>match e with
 | .ty T=>(match d with
  | .int _=>if T="int" then Q (.pu<|.bl true)else if T="bool"\/T="tuple"\/T="list" then Q (.pu<|.bl false)else False
  | .bl _=>if T="int"\/T="bool" then Q (.pu<|.bl true)else False
  | .tup _=>if T="tuple" then Q (.pu<|.bl true)else if T="int"\/T="list" then Q (.pu<|.bl false)else False
  | .lst _=>if T="list" then Q (.pu<|.bl true)else if T="int"\/T="tuple" then Q (.pu<|.bl false)else False
  | _=>False)
 | _=>False
theorem d36:vL X (.builtin "isinstance") dI2:=by
 intro A H ds vs Q0 Q hA r g k;obtain⟨d,e,v,w,rfl,rfl,rv,rw',g⟩:=cF8 g r;have no: ∀{c:Bool},Q0 (.pu<|.bl c)->Q (.bl c) H:=λz=>k _ _ H z (.refl _) mC
 cases e with
 | ty T=>
  rw[rep_ty rw'];cases d with
  | int i=>
   rw[bK rv]
   by_cases h1:T="int"
   ·simp only[h1,bZ]at g;exact⟨_,u9,_,T,true,rfl,no g,.inl ⟨i,rfl,.inl ⟨h1,rfl⟩⟩⟩
   ·by_cases h2:T="bool"\/T="tuple"\/T="list"
    ·simp only[h1,h2,bZ,eG]at g;exact⟨_,u9,_,T,false,rfl,no g,.inl ⟨i,rfl,.inr ⟨h2,rfl⟩⟩⟩
    ·simp only[h1,h2,eG]at g
  | bl c=>
   rw[vM rv]
   by_cases h1:T="int"\/T="bool"
   ·simp only[h1,bZ]at g;exact⟨_,u9,_,T,true,rfl,no g,.inr<|.inl ⟨c,rfl,h1,rfl⟩⟩
   ·simp only[h1,eG]at g
  | tup l=>
   obtain⟨a,vs,rfl,c,rs⟩:=rv.one
   by_cases h1:T="tuple"
   ·simp only[h1,bZ]at g;exact⟨_,u9,_,T,true,rfl,no g,.inr<|.inr<|.inl ⟨a,vs,rfl,c,.inl ⟨h1,rfl⟩⟩⟩
   ·by_cases h2:T="int"\/T="list"
    ·simp only[h1,h2,bZ,eG]at g;exact⟨_,u9,_,T,false,rfl,no g,.inr<|.inr<|.inl ⟨a,vs,rfl,c,.inr ⟨h2,rfl⟩⟩⟩
    ·simp only[h1,h2,eG]at g
  | lst l=>
   obtain⟨a,vs,rfl,c,rs⟩:=rv.one
   by_cases h1:T="list"
   ·simp only[h1,bZ]at g;exact⟨_,u9,_,T,true,rfl,no g,.inr<|.inr<|.inr ⟨a,vs,rfl,SqL.of c,.inl ⟨h1,rfl⟩⟩⟩
   ·by_cases h2:T="int"\/T="tuple"
    ·simp only[h1,h2,bZ,eG]at g;exact⟨_,u9,_,T,false,rfl,no g,.inr<|.inr<|.inr ⟨a,vs,rfl,SqL.of c,.inr ⟨h2,rfl⟩⟩⟩
    ·simp only[h1,h2,eG]at g
  | _=>exact(show False from g).elim
 | _=>exact(show False from g).elim
theorem dR2 {x:Str}{T:String}{p:Pos}(hg:Gl X x)(hm:X.mg x=none)(hv:bootBuiltins x=some (.type T))(hn:x≠"__name__":=by decide)(hd:(x==("__debug__":Str))=false:=by decide):PU X (.Name x p) (uC<|.ty T):=
 bU6 (dF0 (v:= .ty T) hg hm hv rfl hn hd) λA H=>by simp only[Rep]
noncomputable def init (N:List Str)(ds:List D):Ev:=ds.map (λd=>some (.pu d))++replicate (N.length-ds.length) none
theorem a80 {N:List Str}{ds:List D}{i:Nat}{z:B}(h:(init N ds)[i]? =some (some z)): ∃d,z= .pu d/\ds[i]? =some d:=by
 unfold init at h
 by_cases hi:i<ds.length
 ·rw[gH<|by simpa using hi,b7]at h
  cases e:ds[i]? with
  | none=>rw[e]at h;cases h
  | some d=>rw[e]at h;cases h;exact⟨d,rfl,rfl⟩
 ·rw[gU<|by simpa using hi,tE]at h
  split at h<;>cases h
theorem bV0 {N:List Str}{ds:List D}{vs:List V}(hA: ∀a,A a->H a≠none)(r:bL K A H ds vs):EOk K ⟨H,A⟩ (init N ds) (L2.start N vs) H:=by
 have own: ∀a,¬Own (init N ds) (L2.start N vs) a:=λa ⟨i,l,h1,_⟩=>by
  obtain⟨d,e,_⟩:=a80 h1;cases e
 refine⟨?_,λi d h=> ?_,λi l h=> ?_,λi j l l' a h=> ?_,λi l h=> ?_,.refl _,hA⟩
 ·unfold init L2.start;simp[r.length]
 ·obtain⟨d',e,e2⟩:=a80 h;cases e;obtain⟨v,h1,h2⟩:=r.get e2;refine⟨v,?_,h2.mono<|.sub (.refl _) λa z=>z.elim id λz=>absurd z (own a)⟩
  unfold L2.start;have hv:i<vs.length:=(kQ.mp h1).1;rw[gH<|by simpa using hv,b7,h1]
  rfl
 ·obtain⟨d',e,_⟩:=a80 h;cases e
 ·obtain⟨d',e,_⟩:=a80 h;cases e
 ·obtain⟨d',e,_⟩:=a80 h;cases e
theorem bV1 {P:Program}{w:World}{K:Frag}{mg:Str->Option Value}{base:Heap}{x qual:Str}{st:Stmt}{f:Addr}{fd:FuncData}{N ps:List Str}{k:Nat}{φ:Φ}(F:Fun K x qual st f fd)(S:aW N ps (aD st))
  (len: ∀ds Q,φ ds Q->ds.length=ps.length)
  (body: ∀(cdv:Value) (A:Around) (outer:List Env) (s:Shared) (H:Hp) (E:XK),i5 k (A.deeper<|envOfC qual (aD st) s.heap.objs.size f cdv)->
   ∃t,rV (u5 CX0 P w K mg base N qual (aD st) f cdv A outer s H E).nox (dZ st) t/\ ∀ds Q,φ ds Q->t {nx:=λ_=>Q (.pu .non),rt:=Q} (init N ds)) :
  sQ P w K mg base CX0 (k+1) f fd ps (spP K φ):=by
 refine F.ok S (λvs H Q E h=> ?_) (λcdv A outer s H vs Q E hr h=> ?_)
 ·obtain⟨A,ds,Q0,_,r,h,_⟩:=h;rw[<-r.length];exact len ds Q0 h
 ·obtain⟨A',ds,Q0,hA,r,h,q⟩:=h;obtain⟨t,ht,hq⟩:=body cdv A outer s H E hr;refine⟨_,ht,⟨H,A'⟩,init N ds,_,bV0 hA r,hq ds Q0 h,⟨λρ σ H' z I=> ?_,λb v H' z s r=>q b v H' z s r,λ_ _ _ z=>z.elim,λ_ _ _ z=>z.elim⟩⟩
  exact q _ _ H' z I.ext (show Rep _ _ _ _ _ by simp only[Rep])
end
structure Fn (P:Program)(w:World)(K:Frag)(mg:Str->Option Value)(base:Heap)(x:Str)(ps:List Str)(k:Nat)(φ:Φ):Prop where
 ex: ∃f fd,sQ P w K mg base CX0 k f fd ps (spP K φ)/\Binds K fd ps []/\keepIn K (.ref f)=true/\mg x=some (.ref f)
section
variable {X:Cx}{e:Expr}{es:List Expr}{pos:Pos}
theorem aH1 {k k':Nat}{ps:List Str}{φ:Φ}{x:Str}{p:Pos}{t:UA}(F:Fn X.prog X.w X.K X.mg X.base x ps k φ)(hr:i5 k' X.A)(hk:k<=k')(hg:Gl X x)(ha:PUA X (e::es) t)(hdb:(x==("__debug__":Str))=false:=by decide)
  (he:starEach (e::es) X.env=(false,eval e X.env)::starEach es X.env:=by rfl) (hpl:(backTo pos<|starEach es X.env).any (·.1)=false:=by rfl):PU X (.Call (.Name x p) (e::es) [] pos) (aQ φ t):=by
 obtain⟨f,fd,G,b,kp,m⟩:=F.ex;exact dH4 (E:=E0) G (hr.mono hk) hg m kp b (λ_ _ _ _ _ _ _ h=>h.elim) ha hdb he hpl
theorem bB1 {k k':Nat}{ps:List Str}{φ:Φ}{x:Str}{p:Pos}(F:Fn X.prog X.w X.K X.mg X.base x ps k φ)(hr:i5 k' X.A)(hk:k<=k')(hg:Gl X x)(hdb:(x==("__debug__":Str))=false:=by decide):PU X (.Call (.Name x p) [] [] pos) (aQ φ aK):=by
 obtain⟨f,fd,G,b,kp,m⟩:=F.ex;exact d29 (E:=E0) G (hr.mono hk) hg m kp b (λ_ _ _ _ _ _ _ h=>h.elim) hdb
theorem il {n i:Nat}(hn:X.N.length=n)(h:i<n): ∀pins σ H s,Inv X pins σ H s->i<σ.length:=λ_ _ _ _ I=>by rw[I.len,hn];exact h
theorem il2 {n i j:Nat}(hn:X.N.length=n)(h:i<n)(h':j<n): ∀pins σ H s,Inv X pins σ H s->i<σ.length/\j<σ.length:=λ_ _ _ _ I=>by rw[I.len,hn];exact⟨h,h'⟩
end
theorem Fn.mk' {P:Program}{w:World}{K:Frag}{mg:Str->Option Value}{base:Heap}{x qual:Str}{st:Stmt}{f:Addr}{fd:FuncData}{N ps:List Str}{k:Nat}{φ:Φ}(F:Fun K x qual st f fd)(m:mg x=some (.ref f))(b:Binds K fd ps [])(S:aW N ps (aD st))
  (len: ∀ds Q,φ ds Q->ds.length=ps.length) {t:US}
  (der: ∀(cdv:Value) (A:Around) (outer:List Env) (s:Shared) (H:Hp) (E:XK),i5 k (A.deeper<|envOfC qual (aD st) s.heap.objs.size f cdv)->rV (u5 CX0 P w K mg base N qual (aD st) f cdv A outer s H E).nox (dZ st) t)
  (rd: ∀ds Q,φ ds Q->t {nx:=λ_=>Q (.pu .non),rt:=Q} (init N ds)):Fn P w K mg base x ps (k+1) φ:=
 ⟨f,fd,bV1 F S len λcdv A outer s H E hr=>⟨t,der cdv A outer s H E hr,rd⟩,b,F.kp,m⟩
def bP0:Φ:=λds Q=> ∃ns:List Int,ds=[.rol<|ns.map .int]/\ns.length<=63/\Q (.pu<|.bl true)
theorem bP1 {K:Frag}{A:AS}{H:Hp}: ∀ns:List Int,bL K A H (ns.map .int) (ns.map V.int)
 | []=> .nil
 | n::ns=> .cons (by simp only[Rep]) (bP1 ns)
theorem law_sp {K:Frag}{H:Hp}{a:Addr}{ns:List Int}(hl:ns.length<=63)(hS:SqL K H a (ns.map V.int)):spP K bP0 [.ref a] H (λv _=>v= .bl true) (λ_ _ _=>False):=by
 refine⟨λ_=>False,[.rol<|ns.map .int],λb=>b= .pu (.bl true),λ_ z=>z.elim,.cons ?_ .nil,⟨ns,rfl,hl,rfl⟩,λb v H' q s r=> ?_⟩
 ·simp only[Rep];exact⟨a,_,rfl,hS.imp (λz=>⟨λz=>z,z⟩) id,bP1 ns⟩
 ·subst q;have r':Rep K (λ_=>False) H' (.bl true) v:=r
  exact vM r'
theorem walkM {l:PySem.W.OpenLaw}{k:Nat}{x:Str}{q:Program}{loose:List Str}{XP:(Str->Option Value)->Heap->Prop}{YP:World->Heap->Prop}{d:DefRec}{K:Params->Frag}(hn:l.most=some 63)(hdf:d.params.defaults=[])(hr:i5 k callerA)
  (hY: ∀(w:World) (h:Heap),YP w h->(K w.params).In h)
  (F: ∀(w:World) (mg:Str->Option Value) (fa:Addr) (h:Heap),(K w.params).In h->h.Ns mainGlobals mg->mg d.name=some (.ref fa)->
   ∃fd:FuncData,(∀(s:Shared) (u:Value),BindsTo s fd ⟨[u],[]⟩ [(x,u)])/\ ∀base:Heap,(K w.params).In base->base.Ns mainGlobals mg->sQ l.prog w (K w.params) mg base CX0 k fa fd [x] (spP (K w.params) bP0)) :
  PySem.W.WalkO q loose XP YP l.row.toRowW d [] (λf vs=>PySem.call f vs):=
 L2.walk_of (n:=63) (k:=k) (x:=x) (CX:=λ_=>CX0) (sp:=λw=>spP (K w.params) bP0) hn ac hdf hr hY F (λ_ _ a ns hl _ hS=>law_sp hl hS) λ_ _ _ _ _ z=>z
end M
end
section
namespace L2
open PySem PySem.Spec PyProof.Rows
noncomputable def cF (X:Cx)(N:List Str)(scope:Scope)(cl:List (Str×Addr))(C:Addr)(s:Shared)(H:Hp)(fp:List Addr)(pins:List (Addr×Obj)):Cx where
 prog:=X.prog
 w:=X.w
 K:=X.K
 mg:=X.mg
 base:=X.base
 A:=X.A
 N:=N
 s₀:=s
 H₀:=H
 env:=compEnvC scope cl C X.env
 outer:=X.stack
 stack:=X.stack
 ex:=fp
 fn:=λx=>scope.names.lookup x==some .cell
 calm:=X.calm
 pn:=X.pn++pins
 xe:=λ_ _=>False
theorem a03 {env:Env}: ∀(names:List (Str×NameKind)),(∀y∈names,y.2= .free-> ∃c,env.cells.lookup y.1=some c)-> ∀cs:List (Str×Addr),(∀x c,cs.lookup x=some c->env.cells.lookup x=some c)->
  ∃cl,(forIn names cs fun(x:Str×NameKind) r=>(do if(x.2==NameKind.free)=true then do let c<-cellOf env x.1;pure (ForInStep.yield ((x.1,c)::r))else pure (ForInStep.yield r)):Sem (List<|Str×Addr))=pure cl/\
   (∀x c,cl.lookup x=some c->env.cells.lookup x=some c)/\(∀x c,cs.lookup x=some c-> ∃c',cl.lookup x=some c')/\ ∀y∈names,y.2= .free-> ∃c,cl.lookup y.1=some c
 | [],_,cs,hcs=>⟨cs,rfl,hcs,λx c h=>⟨c,h⟩,λy hy=>by simp at hy⟩
 | (n,k)::r,h,cs,hcs=>by
  have hr: ∀y∈r,y.2= .free-> ∃c,env.cells.lookup y.1=some c:=λy hy=>h y (bH _ hy)
  by_cases hk:k= .free
  ·subst hk;obtain⟨c,hc⟩:=h (n,.free) cO rfl;have e1:cellOf env n=pure c:=by unfold cellOf;rw[hc]
   have hcs': ∀x c',List.lookup x ((n,c)::cs)=some c'->env.cells.lookup x=some c':=λx c' q=>by
    rw[d4]at q;split at q
    ·rename_i e
     have:x=n:=by simpa using e
     subst this;cases q;exact hc
    ·exact hcs x c' q
   obtain⟨cl,h1,h2,h3,h4⟩:=a03 r hr ((n,c)::cs) hcs';have hn: ∃c',cl.lookup n=some c':=h3 n c (by rw[d4];simp)
   refine⟨cl,?_,h2,λx c' q=> ?_,λy hy hf=> ?_⟩
   ·rw[zL];show(do let c<-cellOf env n;pure (ForInStep.yield ((n,c)::cs))) >>= _=_;rw[e1];exact h1
   ·by_cases z:x=n
    ·subst z;exact hn
    ·refine h3 x c' ?_
     rw[d4];have:(x==n)=false:=by simpa using z
     rw[this];exact q
   ·rcases aX.mp hy with rfl|hy
    ·exact hn
    ·exact h4 y hy hf
  ·obtain⟨cl,h1,h2,h3,h4⟩:=a03 r hr cs hcs;refine⟨cl,?_,h2,h3,λy hy hf=> ?_⟩
   ·rw[zL];have:(k==NameKind.free)=false:=by simpa using hk
    show(if(k==NameKind.free)=true then _ else _) >>= _=_
    rw[this];exact h1
   ·rcases aX.mp hy with rfl|hy
    ·exact absurd hf hk
    ·exact h4 y hy hf
structure gP (env:Env)(XN N:List Str)(cap:List (Option Nat))(scope:Scope):Prop where
 kind:scope.kind= .function
 owns: ∀y∈scope.names,y.2= .cell->scope.names.lookup y.1=some .cell
 freeK: ∀y∈scope.names,y.2= .free->scope.names.lookup y.1=some .free
 names: ∀y∈scope.names,y.2= .local->scope.names.lookup y.1=some .local
 frees: ∀y∈scope.names,y.2= .free->env.kindOf y.1=some .cell\/env.kindOf y.1=some .free
 caps: ∀(i j:Nat) (x:Str),N[i]? =some x->cap[i]? =some (some j)->XN[j]? =some x/\(x,NameKind.free)∈scope.names/\scope.names.lookup x=some .free
 len:cap.length=N.length
noncomputable def vN (σ:L2.St)(cap:List (Option Nat))(last:Nat)(D:Addr):L2.St:=(cap.map λc=>c.bind λj=>(σ[j]?).join).set last (some<|.ref D)
theorem a81 {env:Env}{x:Str}{k:NameKind}: ∀{names:List (Str×NameKind)},names.lookup x=some k->
  (names.map fun(n,k)=>if(k==NameKind.free&&env.scope.kind== .function&&env.kindOf n==some .cell)then(n,NameKind.cell)else(n,k)).lookup x=
   some (if(k==NameKind.free&&env.scope.kind== .function&&env.kindOf x==some .cell)then NameKind.cell else k)
 | [],h=>by simp at h
 | (n,k')::r,h=>by
  rw[dJ];rw[d4]at h;dsimp only
  by_cases e:(x==n)=true
  ·have e':x=n:=by simpa using e
   subst e';rw[e]at h;cases h;split<;>simp
  ·have e2:(x==n)=false:=by simpa using e
   rw[e2]at h;have ih:=a81 (env:=env) h;split
   ·rw[d4,e2];exact ih
   ·rw[d4,e2];exact ih
theorem oK {env:Env}{x:Str}{k:NameKind}: ∀{names:List (Str×NameKind)},(names.map fun(n,k)=>if(k==NameKind.free&&env.scope.kind== .function&&env.kindOf n==some .cell)then(n,NameKind.cell)else(n,k)).lookup x=some k->
  ∃k',names.lookup x=some k'/\(x,k')∈names/\(k=k'\/k'= .free)
 | [],h=>by simp at h
 | (n,k')::r,h=>by
  rw[dJ]at h;dsimp only at h
  by_cases e:(x==n)=true
  ·have e':x=n:=by simpa using e
   subst e';refine⟨k',by rw[d4,e],cO,?_⟩
   split at h
   ·rename_i c
    right
    simp only[dW,gO]at c;exact c.1.1
   ·rw[d4,e]at h;cases h;exact .inl rfl
  ·have e2:(x==n)=false:=by simpa using e
   have h':(r.map fun(n,k)=>if(k==NameKind.free&&env.scope.kind== .function&&env.kindOf n==some .cell)then(n,NameKind.cell)else(n,k)).lookup x=some k:=by
    split at h
    ·rw[d4,e2]at h;exact h
    ·rw[d4,e2]at h;exact h
   obtain⟨k2,h1,h2,h3⟩:=oK h';exact⟨k2,by rw[d4,e2];exact h1,bH _ h2,h3⟩
theorem aY1 {x:Str}{c:Addr}: ∀(names:List (Str×NameKind)) (h:Heap) (acc:List (Str×Addr)),(cellsFrom h.objs.size names acc).lookup x=some c->
  acc.lookup x=some c\/(h.objs.size<=c/\(x,NameKind.cell)∈names/\(pushCells h names).IsCell c none)
 | [],_,_,e=> .inl e
 | (y,k)::r,h,acc,e=>by
  unfold cellsFrom at e;unfold pushCells
  by_cases hk:(k==NameKind.cell)=true
  ·rw[a7 hk]at e⊢;have hk':k= .cell:=by simpa using hk
   have sz:(h.push {cls:= .type "cell",data:= .cell none}).objs.size=h.objs.size+1:=j1 ..;rw[<-sz]at e;rcases aY1 r _ _ e with q| ⟨q1,q2,q3⟩
   ·rw[d4]at q;split at q
    ·rename_i e1
     have:x=y:=by simpa using e1
     subst this;cases q;exact .inr ⟨aE _,by rw[hk'];exact cO,⟨_,aN9 _ _ _ _<|bU _ rfl,rfl⟩⟩
    ·exact .inl q
   ·exact .inr ⟨ad,bH _ q2,q3⟩
  ·rw[a6 hk]at e⊢;rcases aY1 r h acc e with q| ⟨q1,q2,q3⟩
   ·exact .inl q
   ·exact .inr ⟨q1,bH _ q2,q3⟩
theorem aY2: ∀(names:List (Str×NameKind)) (n:Nat) (acc:List (Str×Addr)),(∀x c,acc.lookup x=some c->c<n)->(∀x y c,acc.lookup x=some c->acc.lookup y=some c->x=y)->
  ∀x y c,(cellsFrom n names acc).lookup x=some c->(cellsFrom n names acc).lookup y=some c->x=y
 | [],_,_,_,hi=>hi
 | (z,k)::r,n,acc,hl,hi=>by
  unfold cellsFrom
  by_cases hk:(k==NameKind.cell)=true
  ·rw[a7 hk];refine aY2 r (n+1) _ (λx c e=> ?_) (λx y c e1 e2=> ?_)
   ·rw[d4]at e;split at e
    ·cases e;exact pS n
    ·exact kW (hl x c e)
   ·rw[d4]at e1 e2;split at e1
    ·rename_i q1
     cases e1;split at e2
     ·rename_i q2
      exact(by simpa using q1:x=z).trans (by simpa using q2:y=z).symm
     ·exact absurd (hl y _ e2) (dI _)
    ·split at e2
     ·cases e2;exact absurd (hl x _ e1) (dI _)
     ·exact hi x y c e1 e2
  ·rw[a6 hk];exact aY2 r n acc hl hi
theorem sZ {x:Str}{c:Addr}: ∀(names:List (Str×NameKind)) (n:Nat) (acc:List (Str×Addr)),((x,NameKind.cell)∈names\/ ∀c,acc.lookup x=some c->n<=c)->(cellsFrom n names acc).lookup x=some c->n<=c
 | [],_,_,h,e=>by
  rcases h with h|h
  ·simp at h
  ·exact h c e
 | (z,k)::r,n,acc,h,e=>by
  unfold cellsFrom at e
  by_cases hk:(k==NameKind.cell)=true
  ·rw[a7 hk]at e;have hk':k= .cell:=by simpa using hk
   rcases h with h|h
   ·rcases aX.mp h with h|h
    ·cases h;have:n<=c:=by
      by_cases q: ∃c',(cellsFrom (n+1) r ((x,n)::acc)).lookup x=some c'/\(x,NameKind.cell)∈r
      ·obtain⟨c',e',m⟩:=q;have:=sZ (c:=c) r (n+1) _ (.inl m) e
       lia
      ·have nm:(x,NameKind.cell) ∉ r:=λm=>q ⟨c,e,m⟩
       have:=cells_keep r (n+1) ((x,n)::acc) nm;rw[this,d4]at e;simp at e;exact le_of_eq e
     exact this
    ·have:=sZ (c:=c) r (n+1) _ (.inl h) e
     lia
   ·by_cases q:(x,NameKind.cell)∈r
    ·have:=sZ (c:=c) r (n+1) _ (.inl q) e
     lia
    ·have:=cells_keep r (n+1) ((z,n)::acc) q;rw[this,d4]at e;split at e
     ·cases e;exact aE _
     ·exact h c e
  ·rw[a6 hk]at e;refine sZ (c:=c) r n acc (h.imp (λm=> ?_) id) e
   rcases aX.mp m with m|m
   ·cases m;exact absurd ac hk
   ·exact m
where
 cells_keep {x:Str}: ∀(names:List (Str×NameKind)) (n:Nat) (acc:List (Str×Addr)),(x,NameKind.cell) ∉ names->(cellsFrom n names acc).lookup x=acc.lookup x
 | [],_,_,_=>rfl
 | (z,k)::r,n,acc,h=>by
  unfold cellsFrom
  by_cases hk:(k==NameKind.cell)=true
  ·rw[a7 hk];have hk':k= .cell:=by simpa using hk
   rw[cells_keep r (n+1) _ λm=>h (bH _ m),d4]
   split
   ·rename_i e
    have:x=z:=by simpa using e
    subst this;exact absurd (by rw[hk'];exact cO) h
   ·rfl
  ·rw[a6 hk];exact cells_keep r n acc λm=>h (bH _ m)
theorem cells_keep {x:Str}(names:List (Str×NameKind))(n:Nat)(acc:List (Str×Addr))(h:(x,NameKind.cell) ∉ names):(cellsFrom n names acc).lookup x=acc.lookup x:=sZ.cells_keep names n acc h
theorem bV2 {M:Model}{A:Around}{E:Value->Shared->Prop}{s:Shared}{scope:Scope}{globals:Addr}{cl:List (Str×Addr)}{qual:Str}{env0:Env}{Q:Env->Shared->Prop}
  (hQ:Q {scope:=scope,locals:=s.heap.objs.size,globals:=globals,cells:=cellsFrom (s.heap.objs.size+1) scope.names cl,qual:=qual,func:=none,code:=env0.code,frame:=env0.frame,builtins:=env0.builtins} {s with heap:=pushCells (s.heap.push {cls:= .type "dict",data:= .dict #[]}) scope.names}) :
  wpAny M A (newFunctionEnv scope globals cl [] qual none .none<|some env0) Q E s:=by
 simp only[newFunctionEnv,Option.isSome_some,bZ];refine a8 (wpAny_alloc ?_);refine a8 (wpAny_layCells _ (λname kind cells=>by cases hkc:kind==NameKind.cell<;>simp[hkc]) _ _ _ _ ?_)
 rw[show({s with heap:=s.heap.push {cls:= .type "dict",data:= .dict #[]}}:Shared).heap.objs.size=s.heap.objs.size+1 from j1 ..]
 rw[forIn_nil];exact a8 (aH<|aH hQ)
section
variable {X:Cx}{pins:List (Addr×Obj)}{σ:L2.St}{H:Hp}{s:Shared}{N:List Str}{cap:List (Option Nat)}{scope:Scope}
theorem c46 {fp:List Addr}{last:Nat}{D:Addr}{cl0 cl:List (Str×Addr)}{h1:Heap}{m0:Str->Option Value}{tk:Nat}(S:gP X.env X.N N cap scope)(I:Inv X pins σ H s)(hf: ∀b∈fp,aX5 X pins H b)(hfs: ∀b∈fp,b<s.heap.objs.size)
  (hcl: ∀x c,cl0.lookup x=some c->X.env.cells.lookup x=some c) (hcl2: ∀y∈scope.names,y.2= .free-> ∃c,cl0.lookup y.1=some c) (hN: ∀x,N[last]? =some x->scope.names.lookup x=none)
  (hns:h1.Ns s.heap.objs.size m0) (hk: ∀b o,s.heap.get? b=some o->h1.get? b=some o)
  (c1: ∀x c,cl.lookup x=some c->cl0.lookup x=some c\/(s.heap.objs.size<c/\h1.IsCell c none)) (c2: ∀x y c,cl.lookup x=some c->cl.lookup y=some c->x=y)
  (c3: ∀x,(x,NameKind.free)∈scope.names->cl.lookup x=cl0.lookup x) (c4: ∀x,scope.names.lookup x=some .cell-> ∃c,cl.lookup x=some c) (c5: ∀x c,scope.names.lookup x=some .cell->cl.lookup x=some c->s.heap.objs.size<=c) :
  Inv (cF X N scope cl s.heap.objs.size s H fp pins) [] (vN σ cap last D) H {s with heap:=h1,toks:=tk}:=by
 have sz:X.base.objs.size<=s.heap.objs.size:=aM I.ok.bsz I.sz;have kindF: ∀x,(cF X N scope cl s.heap.objs.size s H fp pins).env.kindOf x=some .cell\/(cF X N scope cl s.heap.objs.size s H fp pins).env.kindOf x=some .free->(x,NameKind.free)∈scope.names\/scope.names.lookup x=some .cell:=λx h=>by
  have: ∃k,(k= .cell\/k= .free)/\(relabel scope X.env).names.lookup x=some k:=by
   rcases h with h|h
   ·exact⟨_,.inl rfl,h⟩
   ·exact⟨_,.inr rfl,h⟩
  obtain⟨k,hk,h⟩:=this;obtain⟨k',h1,h2,h3⟩:=oK h;rcases h3 with rfl|rfl
  ·rcases hk with rfl|rfl
   ·exact .inr (S.owns _ h2 rfl)
   ·exact .inl h2
  ·exact .inl h2
 have cne: ∀x c,cl.lookup x=some c-> ∀b∈fp,c≠b:=λx c h b hb=>by
  rcases c1 x c h with q| ⟨q,_⟩
  ·exact(hf b hb).2.2.2.2.1 x c (hcl x c q)
  ·exact λz=>by subst z;exact absurd (Nat.lt_trans q<|hfs c hb) (dI _)
 refine⟨⟨I.ok.mod,S.kind,I.ok.glob,I.ok.blt,aE _,c2,λx h=> ?_,λx c h e=> ?_,I.ok.hd,I.ok.frames,.inl rfl,λb hb=> ?_,I.bs,sz,λb o e hb=> ?_,λb hb=> ?_,I.stack,I.stkFree⟩,
  rfl,I.bare,Un.kept hk,⟨m0,hns,λi x v e1 e2 e3=> ?_⟩,λx c h=> ?_,I.hok.fresh<|aE _,λx c h=> ?_,λp hp=> ?_,I.hok.kept hk,?_⟩
 ·rcases kindF x h with q|q
  ·obtain⟨c,e⟩:=hcl2 _ q rfl;exact⟨c,(c3 x q).trans e⟩
  ·exact c4 x q
 ·exact c5 x c (by simpa using(show(scope.names.lookup x==some NameKind.cell)=true from h)) e
 ·exact⟨bD<|hfs b hb,λx c h=>cne x c h b hb⟩
 ·rcases(hf b hb).2.2.2.1 with z|z
  ·exact I.ok.noex b o e z
  ·have:=aT e;exact absurd (aY this<|aM I.ok.bsz z) (dI _)
 ·intro z;rcases aX.mp (I.stkSub b z)with z|z
  ·exact(hf b hb).2.1 z
  ·exact(hf b hb).2.2.1 z
 ·have e1':N[i]? =some x:=e1;unfold vN at e2
  by_cases hl:last=i
  ·subst hl;have z:=hN x e1';rcases e3 with e3|e3|e3
   ·obtain⟨k',h1,_⟩:=oK (show(relabel scope X.env).names.lookup x=_ from e3)
    rw[z]at h1;cases h1
   ·obtain⟨k',h1,_⟩:=oK (show(relabel scope X.env).names.lookup x=_ from e3)
    rw[z]at h1;cases h1
   ·obtain⟨k',h1,_⟩:=oK (show(relabel scope X.env).names.lookup x=_ from e3)
    rw[z]at h1;cases h1
  ·rw[M.get_set_ne hl,b7]at e2;cases e4:cap[i]? with
   | none=>rw[e4]at e2;cases e2
   | some c=>
    rw[e4]at e2;cases c with
    | none=>cases e2
    | some j=>
     have e2':(σ[j]?).join=some v:=by simpa using e2
     have e5:σ[j]? =some (some v):=by
      cases q:σ[j]? with
      | none=>rw[q]at e2';cases e2'
      | some w=>rw[q]at e2';cases w with
       | none=>cases e2'
       | some w'=>cases e2';rfl
     obtain⟨a1,a2,a3⟩:=S.caps i j x e1' e4;have kx:=S.frees _ a2 rfl;obtain⟨m,hn,hl'⟩:=I.loc;have vis:Vis X.env.scope x:=by
      rcases kx with kx|kx
      ·exact .inr (.inl kx)
      ·exact .inr (.inr kx)
     obtain⟨u,r,l⟩:=hl' j x v a1 e5 vis;refine⟨u,r,.inr ⟨?_,?_⟩⟩
     ·have q:=a81 (env:=X.env) a3;show(relabel scope X.env).names.lookup x=_\/(relabel scope X.env).names.lookup x=_;unfold relabel;dsimp only;rw[q];split
      ·exact .inl rfl
      ·exact .inr rfl
     ·rcases l with⟨l,_⟩| ⟨_,c,hc,hcell⟩
      ·rcases kx with kx|kx<;>·rw[kx]at l;cases l
      ·obtain⟨c',hc'⟩:=hcl2 _ a2 rfl;have:=hcl x c' hc';rw[hc]at this;cases this;obtain⟨o,ho,hd⟩:=hcell;exact⟨c,(c3 x a2).trans hc',o,hk _ _ ho,hd⟩
 ·rcases c1 x c h with q| ⟨_,q⟩
  ·obtain⟨v,o,ho,hd⟩:=I.cell x c (hcl x c q);exact⟨v,o,hk _ _ ho,hd⟩
  ·exact⟨_,q⟩
 ·rcases c1 x c h with q| ⟨q,_⟩
  ·exact I.freeC x c (hcl x c q)
  ·exact I.hok.fresh (nS q)
 ·have hp':p∈X.pn++pins:=by
   have:p∈(X.pn++pins)++[]:=hp
   simpa using this
  obtain⟨a1,a2,a3,a4,a5⟩:=I.pin p hp';refine⟨hk _ _ a1,a2,bD<|aT a1,λz=> ?_,a5⟩
  rcases aX.mp (I.stkSub p.1 z)with z|z
  ·exact a3 z
  ·exact a4 z
 ·unfold vN;rw[eE,aG];exact S.len
theorem bP2 {fp:List Addr}{cl:List (Str×Addr)}{C:Addr}{σ':L2.St}{H':Hp}{s':Shared}{h2:Heap}{pins':List (Addr×Obj)}(I:Inv X pins σ H s)(hf: ∀b∈fp,aX5 X pins H b)(hC:s.heap.objs.size<=C)
  (I':Inv (cF X N scope cl C s H fp pins) pins' σ' H' s') (hs:SameBut C s'.heap h2):Inv X pins σ H' {s' with heap:=h2}:=by
 have nC: ∀b o,s.heap.get? b=some o->b≠C:=λb o e z=>by
  subst z;exact absurd (aY (aT e) hC) (dI _)
 have get: ∀b,b≠C->h2.get? b=s'.heap.get? b:=λb hb=>hs.2 b hb
 have U:=I'.base;have u:Un (frs X.stack) fp H H' s.heap h2:=by
  refine⟨λb o e n h1 hx=> ?_,λb o e n h1 hx=> ?_,U.free,λb o e hx=> ?_,U.tups,U.frzs,U.tbls⟩
  ·rw[get b<|nC b o e];exact U.keep b o e n h1 hx
  ·rw[get b<|nC b o e];exact U.slot b o e n h1 hx
  ·rw[get b<|nC b o e];exact U.there b o e hx
 have fC:H' C=none:=I'.free;have hok:HOk X.prog X.w H' h2:=λa o e=>by
  have na:a≠C:=λz=>by subst z;rw[fC]at e;cases e
  refine(I'.hok a o e).stay (λb u hb q=> ?_) (λ_ q=>q) λ_ _ q=>q
  have nb:b≠C:=by
   rcases hb with rfl|hb
   ·exact na
   ·exact λz=>by subst z;rw[fC]at hb;cases hb
  rw[get b nb];exact q
 obtain⟨hh,gg,dd,tt,oo⟩:=s';have eo:oo=s.os:=I'.os;subst eo;have fin:=I.call (h':=h2) (g':=gg) (d':=dd) (t':=tt) (ch:=fp) u hok I'.bare λb hb=>⟨(hf b hb).2.2.2.1,(hf b hb).2.1,(hf b hb).2.2.2.2.1,(hf b hb).2.2.2.2.2⟩
 exact fin
end
theorem a82 {prog:Program}{w:World}{A:Around}{R:Result->Shared->Prop}{s:Shared}{elt target iter:Expr}{ifs:List Expr}{scope:Scope}{pos:Pos}{it acc:Value}{env:Env}(I:Nat->Shared->Prop)
  (turn: ∀n s,I n s->wpAny (model prog w) A (pyNext it) (λr s₁=>match r with
   | none=>R (.ok .next) s₁
   | some v=>wpAny (model prog w) A (letOwnedTupleGo target it v) (λ_ s₂=>wpAny (model prog w) A (assign target env v) (λ_ s₂=>
     wpAny (model prog w) A (forIn ifs true λc r=>if r=true then do let ok<-isTrue c env (eval c env);pure (ForInStep.yield ok)else pure (ForInStep.yield r)) (λok s₃=>
      if ok=true then wpAny (model prog w) A (eval elt env) (λx s₄=>
       wpAny (model prog w) A (call (.builtin "list.append") [acc,x]) (λ_ s₅=> ∃m,m<n/\I m s₅) (notedBy (model prog w) A env λe s'=>R (.error e) s') s₄) (notedBy (model prog w) A env λe s'=>R (.error e) s') s₃
      else ∃m,m<n/\I m s₃) (notedBy (model prog w) A env λe s'=>R (.error e) s') s₂) (notedBy (model prog w) A env λe s'=>R (.error e) s') s₂) (notedBy (model prog w) A env λe s'=>R (.error e) s') s₁) (notedBy (model prog w) A env λe s'=>R (.error e) s') s)
  (n:Nat) (h:I n s):codeAny (model prog w) A (.compLoop (.ListComp elt [⟨target,iter,ifs,0⟩] scope pos) 0 it acc env) R s:=by
 refine codeAny_loop rfl I (λn s hI=> ?_) n h
 show wpAny _ A ((compTurn (.ListComp elt [⟨target,iter,ifs,0⟩] scope pos) 0 it acc env).onRaise (λx=>do noteFrame x env;theTreesLotGoes x)) _ _ s
 refine wpAny_noted ?_
 rw[compTurn_list];refine a8 (nQ<|a8<|bG (turn n s hI) (λr s₁ h₁=> ?_) λ_ _ h'=>h')
 cases r with
 | none=>exact aH h₁
 | some v=>
  refine a8 (bG h₁ (λ_ s₂ h₂=>a8 (bG h₂ (λ_ s₂ h₂=>a8 (bG h₂ (λok s₃ h₃=> ?_) λ_ _ h'=>h')) λ_ _ h'=>h')) λ_ _ h'=>h')
  cases ok with
  | false=>exact aH ⟨rfl,h₃⟩
  | true=>
   exact a8 (a8<|bG h₃ (λx s₄ h₄=>a8 (bG h₄ (λ_ s₅ h₅=>aH (aH ⟨rfl,h₅⟩)) λ_ _ h'=>h')) λ_ _ h'=>h')
def PTs (X:Cx)(ifs:List Expr)(t:TT):Prop:=
 ∀(pins:List (Addr×Obj)) (s:Shared) (σ:L2.St) (H:Hp) (Q:Bool->Hp->Prop),Inv X pins σ H s->t σ H Q->
  wpAny (model X.prog X.w) X.A (forIn ifs true λc r=>if r=true then do let ok<-isTrue c X.env (eval c X.env);pure (ForInStep.yield ok)else pure (ForInStep.yield r)) (TP X pins σ Q) X.xe s
theorem dI3 {X:Cx}:PTs X [] (λ_ H Q=>Q true H):=λpins s σ H Q I h=>wpAny_tests_nil ⟨H,I,h⟩
theorem dI4 {X:Cx}{c:Expr}{t:TT}(h:PT X c t):PTs X [c] t:=λpins s σ H Q I q=>wpAny_tests_one (h pins s σ H Q I q)
def cO6 (cap:List (Option Nat))(last:Nat)(wi:TI)(g:TG)(tt:TT)(te:TE):TE:=λσ H Q=>wi σ H λJ H1=> ∀D,H1 D=none-> ∃W:Nat->Nat->L2.St->Hp->Prop,(∃m,W 0 m (vN σ cap last D)<|upd H1 D<|.lst [])/\ ∀i m σ' H',W i m σ' H'->
 (J.stop i H'/\Q (.ref D) H')\/(J.go i H'/\ ∃Nx:L2.St->Hp->Prop,(∀σ2 H2,Nx σ2 H2-> ∃m',m'<m/\W (i+1) m' σ2 H2)/\ ∀x H2,J.yld i H' x H2->g x σ' H2 λσ3 H3=>tt σ3 H3 λc H4=>
  if c=true then te σ3 H4 λy H5=> ∃ys,H5 D=some (.lst ys)/\ys.length<sizeLine/\Nx σ3 (upd H5 D<|.lst<|ys++[y])else Nx σ3 H4)
theorem bP3 {X:Cx}{RR:Value->Addr->Result->Shared->Prop}{elt iter tg:Expr}{ifs:List Expr}{scope:Scope}{pos:Pos}{N:List Str}{cap:List (Option Nat)}{last:Nat}{wi:TI}{g:TG}{tt:TT}{te:TE}(hc:X.calm=true)(hi:PI X tg iter wi)(S:gP X.env X.N N cap scope)
  (hN: ∀x,N[last]? =some x->scope.names.lookup x=none)
  (hg: ∀cl C s H fp pins,PG (cF X N scope cl C s H fp pins) tg g) (ht: ∀cl C s H fp pins,PTs (cF X N scope cl C s H fp pins) ifs tt) (he: ∀cl C s H fp pins,PE (cF X N scope cl C s H fp pins) elt te)
  {pins:List (Addr×Obj)} {s:Shared} {σ:L2.St} {H:Hp} {Q:VK} {cl:List (Str×Addr)} (I:Inv X pins σ H s) (h:cO6 cap last wi g tt te σ H Q) (hcl: ∀x c,cl.lookup x=some c->X.env.cells.lookup x=some c) (hcl2: ∀y∈scope.names,y.2= .free-> ∃c,cl.lookup y.1=some c)
  (fin: ∀(D:Addr) (fp:List Addr) (H3:Hp) (s3:Shared) (σ':L2.St) (H':Hp) (s':Shared),Inv X pins σ H3 s3->(∀b∈fp,aX5 X pins H3 b)->Inv (cF X N scope (cellsFrom (s3.heap.objs.size+1) scope.names cl) s3.heap.objs.size s3 H3 fp pins) [] σ' H' s'->Q (.ref D) H'->RR (.ref D) s3.heap.objs.size (.ok .next) s') :
  wpAny (model X.prog X.w) X.A (eval iter X.env) (λx s₁=>wpAny (model X.prog X.w) X.A (pyIter x) (λit s₂=>wpAny (model X.prog X.w) X.A (newList []) (λacc s₃=>
   wpAny (model X.prog X.w) X.A (newFunctionEnv scope X.env.globals cl [] X.env.qual none .none<|some X.env) (λcenv s₄=>
    codeAny (model X.prog X.w) X.A (.compStart (.ListComp elt [⟨tg,iter,ifs,0⟩] scope pos) 0 it acc {cenv with scope:=relabel scope X.env}) (RR acc cenv.locals) s₄) X.xe s₃) X.xe s₂) X.xe s₁) X.xe s:=by
 refine thn (hi pins s σ H _ I h) λxv s1 h1=>thn h1 λit s2 h2=> ?_
 obtain⟨ita,fp,tn,J,H2,rfl,I2,T,st2,f2,q⟩:=h2;refine iZ ?_ (by show 0<=sizeLine;decide)
 have fD:H2 s2.heap.objs.size=none:=I2.hok.fresh (aE _);obtain⟨W,⟨m0,w0⟩,turn⟩:=q s2.heap.objs.size fD;have I3:Inv X pins σ (upd H2 s2.heap.objs.size<|.lst []) {s2 with heap:=s2.heap.push {cls:= .type "list",data:= .seq ([]:List Value).toArray}}:=I2.lnew (t':=s2.toks) .nil (dN _);have fpne: ∀b∈fp,b≠s2.heap.objs.size:=λb hb=>by
  obtain⟨o,ho,_⟩:=T.obj 0 _ st2 b hb;exact bD (aT ho)
 have f3: ∀b∈fp,aX5 X pins (upd H2 s2.heap.objs.size<|.lst []) b:=λb hb=>⟨by rw[cH<|fpne b hb];exact(f2 b hb).1,(f2 b hb).2⟩
 have k23: ∀b o,s2.heap.get? b=some o->(s2.heap.push {cls:= .type "list",data:= .seq ([]:List Value).toArray}).get? b=some o:=λb o e=>aS _ e
 have st3:tn 0 (s2.heap.push {cls:= .type "list",data:= .seq ([]:List Value).toArray}):=T.keep 0 _ _ st2 λb hb o e=>k23 b o e
 have fps: ∀b∈fp,b< (s2.heap.push {cls:= .type "list",data:= .seq ([]:List Value).toArray}).objs.size:=λb hb=>by
  obtain⟨o,ho,_⟩:=T.obj 0 _ st3 b hb;exact aT ho
 generalize hS3:({s2 with heap:=s2.heap.push {cls:= .type "list",data:= .seq ([]:List Value).toArray}}:Shared)=s3 at I3;have hh3:s3.heap=s2.heap.push {cls:= .type "list",data:= .seq ([]:List Value).toArray}:=by rw[<-hS3]
 rw[<-hh3]at st3 fps;refine bV2 ?_;have sz3:(s3.heap.push {cls:= .type "dict",data:= .dict #[]}).objs.size=s3.heap.objs.size+1:=j1 ..;have hns₁:(pushCells (s3.heap.push {cls:= .type "dict",data:= .dict #[]}) scope.names).Ns s3.heap.objs.size (λ_=>none):=(Heap.Ns.new s3.heap<|.type "dict").keeps (aN9 _ _)
 have k34: ∀b o,s3.heap.get? b=some o->(pushCells (s3.heap.push {cls:= .type "dict",data:= .dict #[]}) scope.names).get? b=some o:=λb o e=>aN9 _ _ _ _ (aS _ e)
 have I4:=c46 (tk:=s3.toks) (last:=last) (D:=s2.heap.objs.size) (cl:=cellsFrom (s3.heap.objs.size+1) scope.names cl) S I3 f3 fps hcl hcl2 hN hns₁ k34
  (λx c e=>by
   rw[<-sz3]at e;rcases aY1 _ _ _ e with q| ⟨q1,_,q3⟩
   ·exact .inl q
   ·exact .inr ⟨ad,q3⟩)
  (aY2 _ _ _ (λx c e=>by
   obtain⟨v,q⟩:=I3.cell x c (hcl x c e);exact kW q.lt) λx y c e1 e2=>I3.ok.inj x y c (hcl x c e1) (hcl y c e2))
  (λx m=>cells_keep _ _ _ λm'=>by
   have h1:=S.owns _ m' rfl;have h2:=S.freeK _ m rfl;rw[h1]at h2;cases h2)
  (λx e=>Option.isSome_iff_exists.mp (aK7 _ _ _<|.inl e))
  (λx c e1 e2=>by
   have:=sZ scope.names (s3.heap.objs.size+1) cl (.inl<|pN e1) e2
   lia)
 have st4:tn 0 (pushCells (s3.heap.push {cls:= .type "dict",data:= .dict #[]}) scope.names):=T.keep 0 _ _ st3 λb hb o e=>k34 b o e
 generalize hcl':cellsFrom (s3.heap.objs.size+1) scope.names cl=cl' at I4;have loop:codeAny (model X.prog X.w) X.A (.compLoop (.ListComp elt [⟨tg,iter,ifs,0⟩] scope pos) 0 (.ref ita) (.ref s2.heap.objs.size)<|compEnvC scope cl' s3.heap.objs.size X.env)
   (RR (.ref s2.heap.objs.size) s3.heap.objs.size) {s3 with heap:=pushCells (s3.heap.push {cls:= .type "dict",data:= .dict #[]}) scope.names,toks:=s3.toks}:=by
  have stat: ∀{H':Hp},(∀b∈fp,H' b=none)-> ∀b∈fp,aX5 (cF X N scope cl' s3.heap.objs.size s3 (upd H2 s2.heap.objs.size<|.lst []) fp pins) [] H' b:=λ{H'} hn b hb=>by
   refine⟨hn b hb,bD<|fps b hb,λz=> ?_,.inl hb,λx c e=>(I4.ok.exf b hb).2 x c e,λp hp=> ?_⟩
   ·rcases aX.mp (I3.stkSub b z)with z|z
    ·exact(f3 b hb).2.1 z
    ·exact(f3 b hb).2.2.1 z
   ·have:p∈(X.pn++pins)++[]:=hp;exact(f3 b hb).2.2.2.2.2 p (by simpa using this)
  have hcb:(cF X N scope cl' s3.heap.objs.size s3 (upd H2 s2.heap.objs.size<|.lst []) fp pins).calm=true:=hc;refine a82 (λn s'=> ∃i σ' H',Inv (cF X N scope cl' s3.heap.objs.size s3 (upd H2 s2.heap.objs.size<|.lst []) fp pins) [] σ' H' s'/\tn i s'.heap/\(∀b∈fp,H' b=none)/\W i n σ' H') ?_ m0 ⟨0,_,_,I4,st4,λb hb=>(f3 b hb).1,w0⟩
  rintro n s5 ⟨i,σ5,H5,I5,st5,fr5,w5⟩;rcases turn i n σ5 H5 w5 with⟨stop,qn⟩| ⟨go,Nx,hNx,step⟩
  ·refine bG (T.done (cF X N scope cl' s3.heap.objs.size s3 (upd H2 s2.heap.objs.size<|.lst []) fp pins) rfl rfl rfl hcb i [] s5 σ5 H5 (λ_ _=>False) I5 (stat fr5) st5 stop) (λr s6 hr=> ?_) (λ_ _ z=>z.elim)
   obtain⟨rfl,I6⟩:=hr;exact fin _ fp _ s3 σ5 H5 s6 I3 f3 (hcl'▸I6) qn
  ·refine bG (T.item (cF X N scope cl' s3.heap.objs.size s3 (upd H2 s2.heap.objs.size<|.lst []) fp pins) rfl rfl rfl hcb i [] s5 σ5 H5 (λ_ _=>False) I5 (stat fr5) st5 go) (λr s6 hr=> ?_) (λ_ _ z=>z.elim)
   obtain⟨u,rfl,h6⟩:=hr;refine bG h6 (λ_ s7 h7=> ?_) (λ_ _ z=>z.elim)
   obtain⟨x,H7,I7,r7,y7,st7,fr7⟩:=h7;have I7':=I7.pinned (stat fr7) (T.obj _ _ st7);refine bG (hg _ _ _ _ _ _ _ s7 σ5 H7 x u _ I7' r7<|step x H7 y7) (λ_ s8 h8=> ?_) (λ_ _ z=>False.elim z)
   obtain⟨σ8,H8,I8,q8⟩:=h8;have again: ∀{σ9:L2.St} {H9:Hp} {s9:Shared},Inv (cF X N scope cl' s3.heap.objs.size s3 (upd H2 s2.heap.objs.size<|.lst []) fp pins) ([]++b98 fp s7.heap) σ9 H9 s9->Nx σ9 H9-> ∃m,m<n/\ ∃i σ' H',Inv (cF X N scope cl' s3.heap.objs.size s3 (upd H2 s2.heap.objs.size<|.lst []) fp pins) [] σ' H' s9/\tn i s9.heap/\(∀b∈fp,H' b=none)/\W i m σ' H':=λ{σ9 H9 s9} I9 n9=>by
    obtain⟨m',hm,w9⟩:=hNx σ9 H9 n9;refine⟨m',hm,i+1,σ9,H9,I9.unpinned,T.keep _ _ _ st7 λb hb o e=>(I9.pin (b,o)<|fJ _<|fJ _<|a01 hb e).1,λb hb=> ?_,w9⟩
    obtain⟨o,e,d⟩:=T.obj _ _ st7 b hb;exact(I9.pin (b,o)<|fJ _<|fJ _<|a01 hb e).2.1
   refine bG (ht _ _ _ _ _ _ _ s8 σ8 H8 _ I8 q8) (λc s9 h9=> ?_) (λ_ _ z=>False.elim z)
   obtain⟨H9,I9,q9⟩:=h9;cases c with
   | false=>exact again I9 q9
   | true=>
    rw[a7 rfl]at q9⊢;refine bG (he _ _ _ _ _ _ _ s9 σ8 H9 _ I9 q9) (λv s10 h10=> ?_) (λ_ _ z=>False.elim z)
    obtain⟨y,H10,I10,r10,ys,e10,z10,q10⟩:=h10;refine bG (bO6 (X:=(cF X N scope cl' s3.heap.objs.size s3 (upd H2 s2.heap.objs.size<|.lst []) fp pins)) _ s10 σ8 H10 (.ref s2.heap.objs.size) [y] (.ref s2.heap.objs.size) [v] (λv H=>v= .non/\Nx σ8 H) I10 rfl (.cons r10 .nil) ⟨_,ys,y,rfl,rfl,e10,z10,rfl,q10⟩) (λ_ s11 h11=> ?_) (λ_ _ z=>False.elim z)
    obtain⟨_,H11,I11,_,_,q11⟩:=h11;exact again I11 q11
 exact codeAny_compStart_list loop (T.self _ 0 _ _ _ st4 loop)
theorem aH2 {X:Cx}{N:List Str}{cap:List (Option Nat)}{scope:Scope}{pins:List (Addr×Obj)}{s:Shared}{σ:L2.St}{H:Hp}(S:gP X.env X.N N cap scope)(I:Inv X pins σ H s) :
  ∃cl,closureFor scope X.env=pure cl/\(∀x c,cl.lookup x=some c->X.env.cells.lookup x=some c)/\ ∀y∈scope.names,y.2= .free-> ∃c,cl.lookup y.1=some c:=by
 obtain⟨cl,h1,h2,_,h4⟩:=a03 (env:=X.env) scope.names (λy hy hf=>I.ok.has y.1 (S.frees y hy hf)) [] (λx c q=>by simp at q)
 refine⟨cl,?_,h2,h4⟩
 have e:closureFor scope X.env=(forIn scope.names [] fun(x:Str×NameKind) r=>(do if(x.2==NameKind.free)=true then do let c<-cellOf X.env x.1;pure (ForInStep.yield ((x.1,c)::r))else pure (ForInStep.yield r)):Sem (List<|Str×Addr)) >>= λr=>pure r:=by
  rfl
 rw[e,h1];rfl
theorem dI5 {X:Cx}{elt iter tg:Expr}{ifs:List Expr}{scope:Scope}{pos:Pos}{N:List Str}{cap:List (Option Nat)}{last:Nat}{wi:TI}{g:TG}{tt:TT}{te:TE}(hc:X.calm=true)(hi:PI X tg iter wi)(S:gP X.env X.N N cap scope)
  (hN: ∀x,N[last]? =some x->scope.names.lookup x=none)
  (hg: ∀cl C s H fp pins,PG (cF X N scope cl C s H fp pins) tg g) (ht: ∀cl C s H fp pins,PTs (cF X N scope cl C s H fp pins) ifs tt) (he: ∀cl C s H fp pins,PE (cF X N scope cl C s H fp pins) elt te)
  (hs: ∀x,foldedSetIterable iter X.env x=pure x:=by intro _;rfl):PE X (.ListComp elt [⟨tg,iter,ifs,0⟩] scope pos) (cO6 cap last wi g tt te):=by
 intro pins s σ H Q I h;rw[eval_ListComp];obtain⟨cl,hcl0,hcl,hcl2⟩:=aH2 S I;refine wpAny_comprehension_free (use:=none) rfl hs hcl0 S.kind S.names ?_;refine bP3 (RR:=λacc C=>compPost (model X.prog X.w) X.A X.xe none (EP X pins σ Q) acc C) hc hi S hN hg ht he I h hcl hcl2 λD fp H3 s3 σ' H' s' I3 f3 I' q=> ?_
 obtain⟨m6,hn6,_⟩:=I'.loc;exact⟨m6,hn6,λh' hs'=>⟨.ref D,H',bP2 I3 f3 (aE _) I' hs',rfl,q⟩⟩
theorem cG1 {X:Cx}{elt iter tg:Expr}{ifs:List Expr}{scope:Scope}{pos spos py:Pos}{y:Str}{i:Nat}{N:List Str}{cap:List (Option Nat)}{last:Nat}{wi:TI}{g:TG}{tt:TT}{te:TE}(hc:X.calm=true)(hi:PI X tg iter wi)(S:gP X.env X.N N cap scope)
  (hN: ∀x,N[last]? =some x->scope.names.lookup x=none)
  (hg: ∀cl C s H fp pins,PG (cF X N scope cl C s H fp pins) tg g) (ht: ∀cl C s H fp pins,PTs (cF X N scope cl C s H fp pins) ifs tt) (he: ∀cl C s H fp pins,PE (cF X N scope cl C s H fp pins) elt te)
  (hy:PG X (.Name y py) (aR6 i)) (hsw:swapsWith (.ListComp elt [⟨tg,iter,ifs,0⟩] scope pos) (some<|.Name y py) spos.line X.env=pure true:=by rfl)
  (hs: ∀x,foldedSetIterable iter X.env x=pure x:=by intro _;rfl):PS X (.Assign [.Name y py] (.ListComp elt [⟨tg,iter,ifs,0⟩] scope pos) spos) (dF5 (cO6 cap last wi g tt te)<|aR6 i):=by
 intro pins s σ H D I h;rw[exec_Assign_Name_used _ _ _ _ hsw];refine a8 (nQ<|a8 ?_);obtain⟨cl,hcl0,hcl,hcl2⟩:=aH2 S I;show wpAny _ X.A (do let _<-comprehension (.ListComp elt [⟨tg,iter,ifs,0⟩] scope pos) scope X.env _ (newList []) false (eval iter X.env) (some<|assign (.Name y py) X.env)) _ _ s
 refine a8 (bG (wpAny_comprehension_free (use:=some (assign (.Name y py) X.env)) (Q:=λ_ s'=>SP X pins D .next s') rfl hs hcl0 S.kind S.names ?_) (λ_ s' hq=>aH (aH hq)) λ_ _ e=>e)
 refine bP3 (RR:=λacc C=>compPost (model X.prog X.w) X.A X.xe (some<|assign (.Name y py) X.env) (λ_ s'=>SP X pins D .next s') acc C) hc hi S hN hg ht he I h hcl hcl2 λD' fp H3 s3 σ' H' s' I3 f3 I' q=> ?_
 obtain⟨m6,hn6,_⟩:=I'.loc;obtain⟨o6,es6,ep6,ho6,rest6⟩:=id hn6;have J:Inv X pins σ H' s':=bP2 (h2:=s'.heap) I3 f3 (aE _) I' (.refl ..);have fC:H' s3.heap.objs.size=none:=I'.free;have neL:s3.heap.objs.size≠X.env.locals:=pY I3.lt;have neF:s3.heap.objs.size ∉ X.fs:=I3.nofs (aE _);have neC: ∀x c,X.env.cells.lookup x=some c->c≠s3.heap.objs.size:=λx c e z=>by
  obtain⟨v,qq⟩:=I3.cell x c e;exact absurd (aY qq.lt (by rw[z];exact aE _)) (dI _)
 have neP: ∀p∈X.pn++pins,p.1≠s3.heap.objs.size:=λp hp z=>by
  have:=aT (I3.pin p hp).1;rw[z]at this;exact dI _ this
 have nd: ∀v,o6.data≠ .cell v:=λv z=>by
  have:o6.data= .dict es6 ep6:=rest6.1;rw[this]at z;cases z
 have J':Inv X (pins++[(s3.heap.objs.size,o6)]) σ H' s':=J.pins_of λp hp=>(bM.mp hp).elim (λz=>J.pin p (fJ _ z)) λz=>by
  have e:p=(s3.heap.objs.size,o6):=by simpa using z
  subst e;exact⟨ho6,fC,neL,neF,nd⟩
 show wpAny _ X.A (assign (.Name y py) X.env<|.ref D') _ _ _
 refine thn (hy _ s' σ H' (.ref D') (.ref D') D.nx J' rfl q) λ_ s7 ⟨σ7,H7,I7,q7⟩=> ?_
 obtain⟨e7,n7,_⟩:=I7.pin (s3.heap.objs.size,o6) (fJ _<|fJ _ ae)
 refine⟨m6,⟨o6,es6,ep6,e7,rest6⟩,λh' hs'=> ?_⟩
 have I8:=I7.unpinned;exact⟨σ7,H7,I8.turned (t':=s7.toks) (λb o hb e=>(hs'.2 b hb).trans e) n7 neL (.inr<|aM I3.sz<|aE _) neC neP,q7⟩
end L2
namespace M
open PySem PySem.Spec PyProof.Rows L2
noncomputable def dI6:B->B
 | .pu d=> .pu d
 | .ow l=> .bo l
 | .bo l=> .bo l
noncomputable def rE (ρ:Ev)(cap:List (Option Nat))(last:Nat):Ev:=(cap.map λc=>c.bind λj=>((ρ[j]?).join).map dI6).set last (some<|.ow [])
noncomputable def dI7 (ρ:Ev)(j:Nat):Ev:=match ρ[j]? with
 | some (some<|.ow l)=>ρ.set j (some<|.pu<|.lst l)
 | _=>ρ
noncomputable def a04:Ev->List Nat->Ev
 | ρ,[]=>ρ
 | ρ,j::js=>a04 (dI7 ρ j) js
theorem d37 (ρ:Ev)(j:Nat):Frz ρ (dI7 ρ j):=by
 unfold dI7;split
 ·rename_i l e
  exact .set e
 ·exact .refl _
theorem c47: ∀(js:List Nat) (ρ:Ev),Frz ρ (a04 ρ js)
 | [],ρ=> .refl _
 | j::js,ρ=>(d37 ρ j).trans (c47 js _)
def dS (js:List Nat)(cap:List (Option Nat))(last:Nat)(ui:UI)(g:UG)(tt:UT)(te:UE):UE:=λρ Q=>ui ρ λn it ρ1=> ∃Pv:Nat->Ev->Prop,Pv 0 (rE (a04 ρ1 js) cap last)/\
 (∀i ρ',i<n->Pv i ρ'->g (.pu<|it i) ρ' λρ2=>tt ρ2 λc ρ3=>if c=true then te ρ3 λb ρ4=>oC ρ4 last λl=>l.length<sizeLine/\Pv (i+1) (ρ4.set last<|some<|.ow<|l++[b.d])else Pv (i+1) ρ3)/\
 ∀ρ',Pv n ρ'->oC ρ' last λl=>Q (.ow l) (a04 ρ1 js)
section
variable {X:Cx}{K:Frag}{C:C0}{ρ ρ':Ev}{σ σ':L2.St}{H H':Hp}
theorem cap_ok {cap:List (Option Nat)}{last:Nat}{Dn:Addr}(I:EOk K C ρ σ H)(hl:last<cap.length)(n:H Dn=none) :
  EOk K ⟨H,Av C ρ σ⟩ (rE ρ cap last) (vN σ cap last Dn) (upd H Dn<|.lst []):=by
 have pu: ∀(i:Nat) (z:B),last≠i->(rE ρ cap last)[i]? =some (some z)-> ∃(j:Nat) (z':B),cap[i]? =some (some j)/\z=dI6 z'/\ρ[j]? =some (some z'):=λi z ne h=>by
  unfold rE at h;rw[get_set_ne ne,b7]at h;cases e4:cap[i]? with
  | none=>rw[e4]at h;cases h
  | some c=>
   rw[e4]at h;cases c with
   | none=>cases h
   | some j=>
    have h':((ρ[j]?).join).map dI6=some z:=by simpa using h
    cases q:ρ[j]? with
    | none=>rw[q]at h';cases h'
    | some w=>
     rw[q]at h';cases w with
     | none=>cases h'
     | some w'=>cases h';exact⟨j,w',rfl,rfl,q⟩
 have sgm: ∀(i j:Nat) (v:V),last≠i->cap[i]? =some (some j)->σ[j]? =some (some v)->(vN σ cap last Dn)[i]? =some (some v):=λi j v e e1 h1=>by
  unfold vN;rw[get_set_ne e,b7,e1];show some ((σ[j]?).join)=_;rw[h1];rfl
 have atl:(rE ρ cap last)[last]? =some (some<|.ow []):=by
  unfold rE;exact iI (by rw[aG];exact hl)
 have sal:(vN σ cap last Dn)[last]? =some (some<|.ref Dn):=by
  unfold vN;exact iI (by rw[aG];exact hl)
 have noOw: ∀(i:Nat) (l:List D),last≠i->(rE ρ cap last)[i]? ≠some (some<|.ow l):=λi l e h=>by
  obtain⟨j,z',_,z,_⟩:=pu i _ e h;cases z'<;>cases z
 have own: ∀a,Own (rE ρ cap last) (vN σ cap last Dn) a->a=Dn:=λa ⟨i,l,h1,h2⟩=>by
  by_cases e:last=i
  ·subst e;rw[sal]at h2;cases h2;rfl
  ·exact absurd h1 (noOw i l e)
 have P:mT (Av C ρ σ) H (Av ⟨H,Av C ρ σ⟩ (rE ρ cap last)<|vN σ cap last Dn) (upd H Dn<|.lst []):=λb o nb e=>by
  have ne:b≠Dn:=λz=>by subst z;rw[n]at e;cases e
  refine⟨?_,by rw[cH ne];exact e⟩
  rintro(z|z)
  ·exact nb z
  ·exact ne (own b z)
 refine⟨by unfold rE vN;rw[eE,eE,aG,aG],λi d h=> ?_,λi l h=> ?_,λi j l l' a h1 h2 h3 h4=> ?_,λi l h=> ?_,eZ n _,λa z=>I.avSome z⟩
 ·by_cases e:last=i
  ·subst e;rw[atl]at h;cases h
  ·obtain⟨j,z',e1,z,e2⟩:=pu i _ e h;cases z' with
   | pu d'=>
    cases z;obtain⟨v,h1,h2⟩:=I.pu j d e2;exact⟨v,sgm i j v e e1 h1,h2.mono P⟩
   | ow l=>cases z
   | bo l=>cases z
 ·by_cases e:last=i
  ·subst e;rw[atl]at h;cases h;exact⟨Dn,[],sal,iR,n,.nil⟩
  ·exact absurd h (noOw i l e)
 ·have e1:last=i:=yV λe=>absurd h1 (noOw i l e)
  have e2:last=j:=yV λe=>absurd h2 (noOw j l' e)
  exact e1.symm.trans e2
 ·by_cases e:last=i
  ·subst e;rw[atl]at h;cases h
  ·obtain⟨j,z',e1,z,e2⟩:=pu i _ e h;cases z' with
   | pu d'=>cases z
   | ow l'=>
    cases z;obtain⟨a,vs,h1,h2,h3,h4⟩:=I.ow j l e2;exact⟨a,vs,sgm i j _ e e1 h1,.inr ⟨j,l,e2,h1⟩,h2,h4.mono P⟩
   | bo l'=>
    cases z;obtain⟨a,vs,h1,h2,h3,h4⟩:=I.bo j l e2;exact⟨a,vs,sgm i j _ e e1 h1,.inl h2,I.ext _ _ h3,h4.mono P⟩
theorem dR3 {js:List Nat}{cap:List (Option Nat)}{last:Nat}{ui:UI}{g:UG}{T:List Nat}{tt:UT}{te:UE}(hl:last<cap.length)(hT:last ∉ T)(σ:L2.St)(H:Hp)(Q:VK)(h:lE K (dS js cap last ui g tt te) σ H Q) :
  cO6 cap last (lI K ui) (lG K T g) (lT K tt) (lE K te) σ H Q:=by
 obtain⟨C,ρ,Q0,I,h,k⟩:=h;refine⟨C,ρ,_,I,h,λn it ρ1 J H1 q f s ok Dn nD=> ?_⟩
 obtain⟨Pv,p0,turn,fin⟩:=q;have fz:=c47 js ρ1;have I1:EOk K C (a04 ρ1 js) σ H1:=((I.frz f).same s).frz fz;generalize a04 ρ1 js=ρ2 at fz I1 p0 fin;have P12: ∀{A':AS} {H':Hp},mT (Av C ρ2 σ) H1 A' H'->mT (Av C ρ1 σ) H1 A' H':=λp b o nb e=>p b o (λz=>nb (fz.av z)) e
 have I2:=cap_ok I1 hl nD;have own0: ∀{ρ':Ev} {σ':L2.St} {H':Hp},EOk K ⟨H1,Av C ρ2 σ⟩ ρ' σ' H'->mT (Av C ρ2 σ) H1 (Av ⟨H1,Av C ρ2 σ⟩ ρ' σ') H':=λ{ρ' σ' H'} J' b o nb e=>by
  refine⟨?_,J'.ext b o e⟩
  rintro(z| ⟨i,l,h1,h2⟩)
  ·exact nb z
  ·obtain⟨a,vs,h3,h4,h5,_⟩:=J'.ow i l h1;rw[h2]at h3;cases h3;have e':(⟨H1,Av C ρ2 σ⟩:C0).H0 b=some o:=e;rw[h5]at e';cases e'
 have sal:(vN σ cap last Dn)[last]? =some (some<|.ref Dn):=by
  unfold vN;exact iI (by rw[aG];exact hl)
 refine⟨λi m σ' H'=>m=n-i/\i<=n/\σ'[last]? =some (some<|.ref Dn)/\ ∃ρ',EOk K ⟨H1,Av C ρ2 σ⟩ ρ' σ' H'/\Pv i ρ',⟨n,rfl,dN _,sal,_,I2,p0⟩,?_⟩
 rintro i m σ' H' ⟨rfl,hi,hlast,ρ',J',p'⟩;have P:=P12 (own0 J')
 by_cases hlt:i<n
 ·refine .inr ⟨ok.go _ _ i P hlt,λσ2 H2=>σ2[last]? =some (some<|.ref Dn)/\ ∃ρ3,EOk K ⟨H1,Av C ρ2 σ⟩ ρ3 σ2 H2/\Pv (i+1) ρ3,λσ2 H2 z=>⟨n-(i+1),aa,rfl,hlt,z⟩,λx H2 y=> ?_⟩
  obtain⟨s2,r2⟩:=ok.yld _ _ i x H2 P (λa z=>J'.avSome z) hlt y
  refine⟨_,ρ',.pu<|it i,H',_,J',s2,r2,turn i ρ' hlt p',λρ3 σ3 H3 q3 J3 same3=> ?_⟩
  have l3:σ3[last]? =some (some<|.ref Dn):=(same3 last hT).trans hlast;refine⟨_,ρ3,_,J3,q3,λc ρ4 H4 q4 f4 s4=> ?_⟩
  have J4:=(J3.frz f4).same s4;cases c with
  | false=>
   dsimp only at q4⊢;rw[a6 bC]at q4⊢;exact⟨l3,ρ4,J4,q4⟩
  | true=>
   dsimp only at q4⊢;rw[a7 rfl]at q4⊢;refine⟨_,ρ4,_,J4,q4,λb ρ5 v H5 q5 f5 s5 r5=> ?_⟩
   have J5:=(J4.frz f5).same s5;obtain⟨l,hl5,hz,q5⟩:=jF q5;obtain⟨a,vs,g1,g2,g3,g4⟩:=J5.ow last l hl5;rw[l3]at g1;cases g1;refine⟨vs,g2,by rw[<-g4.length];exact hz,l3,_,J5.write hl5 l3<|g4.append<|.cons (r5.rep λa z=>J4.avF f5 z) .nil,q5⟩
 ·have e:i=n:=aa
  subst e;obtain⟨l,hl5,q5⟩:=jF (fin ρ' p');obtain⟨a,vs,g1,g2,g3,g4⟩:=J'.ow last l hl5;rw[hlast]at g1;cases g1;refine .inl ⟨ok.stop _ _ P,k _ _ _ _ q5 (f.trans fz) (s.trans J'.ext) ⟨Dn,vs,rfl,s.free nD,g2,?_⟩⟩;refine g4.mono λb o nb e=>⟨?_,e⟩
  rintro(z|z)
  ·exact nb (.inl z)
  ·subst z;exact nb (.inr ⟨last,l,hl5,hlast⟩)
theorem fS: ∀{X:Cx},PTs X [] (lT X.K λρ Q=>Q true ρ):=λ{X} pins s σ H Q I ⟨C,ρ,Q0,J,h,k⟩=>dI3 pins s σ H Q I (k _ ρ H h (.refl _)<|.refl _)
theorem bV3 {c:Expr}{t:UT}(h:PUT X c t):PTs X [c] (lT X.K t):=dI4 h
theorem dI8 {elt iter tg:Expr}{ifs:List Expr}{scope:Scope}{pos:Pos}{N:List Str}{js:List Nat}{cap:List (Option Nat)}{last:Nat}{ui:UI}{g:UG}{T:List Nat}{tt:UT}{te:UE}(hc:X.calm=true)(hi:PUI X tg iter ui)(S:gP X.env X.N N cap scope)
  (hN: ∀x,N[last]? =some x->scope.names.lookup x=none) (hl:last<cap.length) (hT:last ∉ T)
  (hg: ∀cl C s H fp pins,PUG (cF X N scope cl C s H fp pins) tg T g) (ht: ∀cl C s H fp pins,PTs (cF X N scope cl C s H fp pins) ifs<|lT X.K tt) (he: ∀cl C s H fp pins,PU (cF X N scope cl C s H fp pins) elt te)
  (hs: ∀x,foldedSetIterable iter X.env x=pure x:=by intro _;rfl):PU X (.ListComp elt [⟨tg,iter,ifs,0⟩] scope pos) (dS js cap last ui g tt te):=
 iS (dI5 (g:=lG X.K T g) (tt:=lT X.K tt) (te:=lE X.K te) hc hi S hN hg ht he hs) (dR3 hl hT)
theorem cG2 {elt iter tg:Expr}{ifs:List Expr}{scope:Scope}{pos spos py:Pos}{y:Str}{N:List Str}{js:List Nat}{cap:List (Option Nat)}{last:Nat}{ui:UI}{g:UG}{T:List Nat}{tt:UT}{te:UE}(i:Nat)(hc:X.calm=true)(hi:PUI X tg iter ui)(S:gP X.env X.N N cap scope)
  (hN: ∀x,N[last]? =some x->scope.names.lookup x=none) (hl:last<cap.length) (hT:last ∉ T)
  (hg: ∀cl C s H fp pins,PUG (cF X N scope cl C s H fp pins) tg T g) (ht: ∀cl C s H fp pins,PTs (cF X N scope cl C s H fp pins) ifs<|lT X.K tt) (he: ∀cl C s H fp pins,PU (cF X N scope cl C s H fp pins) elt te)
  (hy:PG X (.Name y py) (aR6 i)) (hi': ∀pins σ H s,Inv X pins σ H s->i<σ.length) (hsw:swapsWith (.ListComp elt [⟨tg,iter,ifs,0⟩] scope pos) (some<|.Name y py) spos.line X.env=pure true:=by rfl)
  (hs: ∀x,foldedSetIterable iter X.env x=pure x:=by intro _;rfl):PUS X (.Assign [.Name y py] (.ListComp elt [⟨tg,iter,ifs,0⟩] scope pos) spos) (bT i<|dS js cap last ui g tt te):=by
 intro pins s σ H D I q;refine cG1 (g:=lG X.K T g) (tt:=lT X.K tt) (te:=lE X.K te) hc hi S hN hg ht he hy hsw hs pins s σ H D I ?_;obtain⟨C,ρ,D0,J,h,k⟩:=q;exact dR3 hl hT σ H _ ⟨C,ρ,_,J,h,λb ρ1 v H1 q f s1 r=>k.nx _ _ _ q ((J.frz f).store s1 r<|hi' pins σ H s I)⟩
end
end M
end
section
namespace L2
open PySem PySem.Spec PyProof.Rows
section
variable {X:Cx}
theorem cO7 {bs:List Bool}: ∀{its:List Value},Vals (bs.map V.bl) its->LSm.BoolsAre its bs:=by
 induction bs with
 | nil=>intro its r;cases r;exact .nil
 | cons b bs ih=>
  intro its r;cases r with
  | cons r1 r2=>
   cases r1;exact .cons b (ih r2)
theorem cG3 (hc:X.calm=true):oZ X (.builtin "all") (λxs H Q=> ∃(p:Addr) (bs:List Bool),xs=[.ref p]/\SqL X.K H p (bs.map V.bl)/\Q (.bl<|bs.all id) H):=by
 intro pins s σ H xs us Q I r h;obtain⟨p,bs,rfl,hq,q⟩:=h;obtain⟨u,rfl,rx⟩:=vals1 r;cases rx;obtain⟨its,rv,pl,hz⟩:=I.list hq;have ba:=cO7 rv;refine call_all_walk (zF pl.isList ?_);have hne:p≠s.heap.objs.size:=by
  obtain⟨o,n,e,_⟩:=pl;exact bD (aT e)
 refine⟨s.heap.objs.size,_,_,_,_,_,λi=>(bs[i]?).getD true,rfl,Walks.list (A:=X.A.in1) (I.ok.hd hc) s.heap.objs.size p (λz=>hne z) its.toArray,⟨⟨_,bU _ rfl,rfl,rfl⟩,pl.isList.push _⟩,?_,λh' tk hk=> ?_⟩
 ·intro i v s' Q' E' hP hQ;obtain⟨b,hb,rfl⟩:=ba.get i v (by simpa using hP)
  refine kU ?_
  have e:(λi=>(bs[i]?).getD true) i=b:=by simp[hb]
  dsimp only at hQ;rw[hb]at hQ;exact hQ
 ·have e:=LSm.range_all bs;have hl:=ba.length;have e2:its.toArray.size=bs.length:=by rw[b6,hl]
  rw[e2,e];exact⟨.bl<|bs.all id,H,I.kept λb o e=>hk b o (by simpa using bD (aT e)) (aS _ e),rfl,q⟩
theorem cG4 (hc:X.calm=true):oZ X (.builtin "sum") (λxs H Q=> ∃(p:Addr) (ns:List Int),xs=[.ref p]/\SqL X.K H p (ns.map V.int)/\Q (.int ns.sum) H):=by
 intro pins s σ H xs us Q I r h;obtain⟨p,ns,rfl,hq,q⟩:=h;obtain⟨u,rfl,rx⟩:=vals1 r;cases rx;obtain⟨its,rv,pl,hz⟩:=I.list hq;have hi:IntsAre its ns:=by simpa using intsAre_of rv
 obtain⟨xs,hx⟩:=hi.allInts.items;have hl':s.heap.IsList p (intItems xs):=hx▸pl.isList;refine sum_intListG (I.ok.hd hc) hl' λh' tk t' hk=> ?_
 have e1:ns=xs.toList.map (·.1):=by
  rw[<-nums_intItems,<-hx];exact(show numsOf its.toArray.toList=ns from hi.numsOf).symm
 have e2:preSum (numAt xs) xs.size=ns.sum:=by
  rw[preSum_eq,aL0 ae,e1]
 rw[e2];exact⟨.int ns.sum,H,I.kept hk,⟨_,rfl⟩,q⟩
noncomputable def y8 (esc:List (Str×NameKind))(XN N:List Str)(cap:List (Option Nat))(scope:Scope)(last:Nat):Bool:=
 (scope.kind== .function)&&scope.names.all (λy=>y.2 != .cell||scope.names.lookup y.1==some .cell)&&scope.names.all (λy=>y.2 != .free||scope.names.lookup y.1==some .free)&&scope.names.all (λy=>y.2 != .local||scope.names.lookup y.1==some .local)&&
 scope.names.all (λy=>y.2 != .free||esc.lookup y.1==some .cell||esc.lookup y.1==some .free)&&
 (N.zip cap).all (λz=>match z.2 with|none=>true|some j=>XN[j]? ==some z.1&&scope.names.contains (z.1,.free)&&scope.names.lookup z.1==some .free)&&
 (cap.length==N.length)&&(match N[last]? with|some x=>(scope.names.lookup x).isNone|none=>true)
theorem gP.of {env:Env}{esc:List (Str×NameKind)}{XN N:List Str}{cap:List (Option Nat)}{scope:Scope}{last:Nat}(he:env.scope.names=esc)(h:y8 esc XN N cap scope last=true) :
  gP env XN N cap scope/\ ∀x,N[last]? =some x->scope.names.lookup x=none:=by
 unfold y8 at h;simp only[dW,eS,gO]at h;obtain⟨⟨⟨⟨⟨⟨⟨h1,h2⟩,h2'⟩,h3⟩,h4⟩,h5⟩,h6⟩,h7⟩:=h;have hk: ∀x,env.kindOf x=esc.lookup x:=λx=>by unfold Env.kindOf;rw[he]
 refine⟨⟨h1,λy hy hl=>by have:=h2 y hy;rw[hl]at this;simpa using this,λy hy hl=>by have:=h2' y hy;rw[hl]at this;simpa using this,λy hy hl=> ?_,λy hy hf=> ?_,λi j x e1 e2=> ?_,h6⟩,λx e=> ?_⟩
 ·have:=h3 y hy;rw[hl]at this
  simpa using this
 ·have:=h4 y hy;rw[hf]at this;rw[hk]
  simpa using this
 ·have hm:(x,some j)∈N.zip cap:=by
   refine zB (i:=i) ?_
   rw[List.getElem?_zip_eq_some];exact⟨e1,e2⟩
  have:=h5 _ hm;simp only[dW,gO]at this;obtain⟨⟨a,b⟩,c⟩:=this;exact⟨a,by simpa using b,c⟩
 ·rw[e]at h7
  simpa using h7
end
end L2
namespace M
open PySem PySem.Spec PyProof.Rows L2
section
variable {X:Cx}{K:Frag}{A:AS}{H:Hp}
noncomputable def wJ:List D->Option (List Bool)
 | []=>some []
 | .bl b::r=>(wJ r).map (b::·)
 | _=>none
noncomputable def b31:List D->Option (List Int)
 | []=>some []
 | .int b::r=>(b31 r).map (b::·)
 | _=>none
theorem a05 (bs:List Bool):wJ (bs.map .bl)=some bs:=by
 induction bs with
 | nil=>rfl
 | cons b bs ih=>rw[dJ];show(wJ<|bs.map .bl).map _=_;rw[ih];rfl
theorem bP4 (bs:List Int):b31 (bs.map .int)=some bs:=by
 induction bs with
 | nil=>rfl
 | cons b bs ih=>rw[dJ];show(b31<|bs.map .int).map _=_;rw[ih];rfl
theorem aO6: ∀{l:List D} {bs:List Bool} {vs:List V},wJ l=some bs->bL K A H l vs->vs=bs.map V.bl
 | [],bs,vs,h,r=>by cases h;exact r.unnil
 | d::r,bs,vs,h,q=>by
  obtain⟨v,vr,rfl,rv,rr⟩:=q.uncons;cases d with
  | bl b=>
   have h':(wJ r).map (b::·)=some bs:=h;cases e:wJ r with
   | none=>rw[e]at h';cases h'
   | some bs'=>
    rw[e]at h';cases h';rw[vM rv,aO6 e rr];rfl
  | _=>cases h
theorem bP5: ∀{l:List D} {bs:List Int} {vs:List V},b31 l=some bs->bL K A H l vs->vs=bs.map V.int
 | [],bs,vs,h,r=>by cases h;exact r.unnil
 | d::r,bs,vs,h,q=>by
  obtain⟨v,vr,rfl,rv,rr⟩:=q.uncons;cases d with
  | int b=>
   have h':(b31 r).map (b::·)=some bs:=h;cases e:b31 r with
   | none=>rw[e]at h';cases h'
   | some bs'=>
    rw[e]at h';cases h';rw[bK rv,bP5 e rr];rfl
  | _=>cases h
def d38:List D->(B->Prop)->Prop:=g1 λd Q=>match d with
 | .lst l=>(match wJ l with
  | some bs=>Q (.pu<|.bl<|bs.all id)
  | none=>False)
 | _=>False
theorem cG5 (hc:X.calm=true):vL X (.builtin "all") d38:=by
 intro A H ds vs Q0 Q hA r g k;obtain⟨d,v,rfl,rfl,rv,g⟩:=a79 g r;cases d with
 | lst l=>
  dsimp only at g;cases e:wJ l with
  | none=>rw[e]at g;exact g.elim
  | some bs=>
   rw[e]at g;simp only[Rep]at rv;obtain⟨a,vs,rfl,n,c,rs⟩:=rv;rw[aO6 e rs]at c;exact⟨_,cG3 hc,a,bs,rfl,SqL.of c,k _ _ H g (.refl _) mC⟩
 | _=>exact(show False from g).elim
def dI9:List D->(B->Prop)->Prop:=g1 λd Q=>match d with
 | .lst l=>(match b31 l with
  | some ns=>Q (.pu<|.int ns.sum)
  | none=>False)
 | _=>False
theorem d39 (hc:X.calm=true):vL X (.builtin "sum") dI9:=by
 intro A H ds vs Q0 Q hA r g k;obtain⟨d,v,rfl,rfl,rv,g⟩:=a79 g r;cases d with
 | lst l=>
  dsimp only at g;cases e:b31 l with
  | none=>rw[e]at g;exact g.elim
  | some bs=>
   rw[e]at g;simp only[Rep]at rv;obtain⟨a,vs,rfl,n,c,rs⟩:=rv;rw[bP5 e rs]at c;exact⟨_,cG4 hc,a,bs,rfl,SqL.of c,k _ _ H g (.refl _) aG4⟩
 | _=>exact(show False from g).elim
theorem cO8 {x:Str}{i:Int}{t:Tok}{p:Pos}(hg:Gl X x)(hm:X.mg x=some (.int i t))(hd:(x==("__debug__":Str))=false:=by decide):PU X (.Name x p) (uC<|.int i):=
 bU6 (cN1 (v:= .int i) hg hm ⟨t,rfl⟩ hd) λA H=>by simp only[Rep]
theorem cG6:bootBuiltins "all"=some (.builtin "all"):=af
theorem d40:bootBuiltins "sum"=some (.builtin "sum"):=af
theorem y9 {elt iter tg:Expr}{ifs:List Expr}{scope:Scope}{pos:Pos}{esc:List (Str×NameKind)}{N:List Str}{js:List Nat}{cap:List (Option Nat)}{last:Nat}{ui:UI}{g:UG}{T:List Nat}{tt:UT}{te:UE}{XN:List Str}(he0:X.env.scope.names=esc)(hx0:X.N=XN)(lk:y8 esc XN N cap scope last=true)(hl:last<cap.length)(hT:last ∉ T)(hc:X.calm=true)(hi:PUI X tg iter ui)
  (hg: ∀cl C s H fp pins,PUG (cF X N scope cl C s H fp pins) tg T g) (ht: ∀cl C s H fp pins,PTs (cF X N scope cl C s H fp pins) ifs<|lT X.K tt) (he: ∀cl C s H fp pins,PU (cF X N scope cl C s H fp pins) elt te)
  (hs: ∀x,foldedSetIterable iter X.env x=pure x:=by intro _;rfl):PU X (.ListComp elt [⟨tg,iter,ifs,0⟩] scope pos) (dS js cap last ui g tt te):=
 dI8 hc hi (gP.of he0<|hx0▸lk).1 (gP.of he0<|hx0▸lk).2 hl hT hg ht he hs
theorem b32 {elt iter tg:Expr}{ifs:List Expr}{scope:Scope}{pos spos py:Pos}{y:Str}{esc:List (Str×NameKind)}{N:List Str}{js:List Nat}{cap:List (Option Nat)}{last:Nat}{ui:UI}{g:UG}{T:List Nat}{tt:UT}{te:UE}(i:Nat){XN:List Str}(he0:X.env.scope.names=esc)(hx0:X.N=XN)(lk:y8 esc XN N cap scope last=true)(hl:last<cap.length)(hT:last ∉ T)(hc:X.calm=true)(hi:PUI X tg iter ui)
  (hg: ∀cl C s H fp pins,PUG (cF X N scope cl C s H fp pins) tg T g) (ht: ∀cl C s H fp pins,PTs (cF X N scope cl C s H fp pins) ifs<|lT X.K tt) (he: ∀cl C s H fp pins,PU (cF X N scope cl C s H fp pins) elt te)
  (hy:PG X (.Name y py) (aR6 i)) (hi': ∀pins σ H s,Inv X pins σ H s->i<σ.length) (hsw:swapsWith (.ListComp elt [⟨tg,iter,ifs,0⟩] scope pos) (some<|.Name y py) spos.line X.env=pure true:=by rfl)
  (hs: ∀x,foldedSetIterable iter X.env x=pure x:=by intro _;rfl):PUS X (.Assign [.Name y py] (.ListComp elt [⟨tg,iter,ifs,0⟩] scope pos) spos) (bT i<|dS js cap last ui g tt te):=
 cG2 i hc hi (gP.of he0<|hx0▸lk).1 (gP.of he0<|hx0▸lk).2 hl hT hg ht he hy hi' hsw hs
def aS2 (te:UE):US:=λD ρ=>te ρ λ_ ρ1=>D.nx ρ1
theorem bV4 {e:Expr}{pos:Pos}{te:UE}(he:PU X e te)(hs:swapsWith e none pos.line X.env=pure false:=by rfl):PUS X (.Expr e pos) (aS2 te):=
 rC (b70 he hs) λD σ H ⟨C,ρ,D0,I,h,k⟩=>⟨C,ρ,_,I,h,λb ρ1 v H1 q f s r=>k.nx _ _ _ q ((I.frz f).same s)⟩
theorem jJ: ∀ds ρ Q,mU ds ρ Q->ds.length=0:=λds ρ Q h=>by rw[h.1];rfl
theorem cE {i n:Nat}{u:UGs}(h: ∀ds ρ Q,u ds ρ Q->ds.length=n): ∀ds ρ Q,d8 i u ds ρ Q->ds.length=n+1:=λds ρ Q q=>by
 cases ds with
 | nil=>exact(show False from q).elim
 | cons d r=>rw[eO,h r _ Q q.2]
end
theorem Fn.void {P:Program}{w:World}{K:Frag}{mg:Str->Option Value}{base:Heap}{x qual:Str}{st:Stmt}{f:Addr}{fd:FuncData}{ps:List Str}{φ:Φ}(F:Fun K x qual st f fd)(m:mg x=some (.ref f))(b:Binds K fd ps [])(h: ∀ds Q,¬φ ds Q):Fn P w K mg base x ps 1 φ:=
 ⟨f,fd,⟨λvs H Q E ⟨_,ds,Q0,_,_,z,_⟩=>absurd z (h ds Q0),λA outer s H args us vs Q E _ _ _ _ ⟨_,ds,Q0,_,_,z,_⟩=>absurd z (h ds Q0)⟩,b,F.kp,m⟩
end M
end
section
namespace HT
open PySem PyProof.Rows
end HT
namespace L2
open PySem PySem.Spec PyProof.Rows
end L2
namespace M
open PySem PySem.Spec PyProof.Rows L2
section
variable {X:Cx}{K:Frag}{A:AS}{H:Hp}{e e3:Expr}{t3:UE}{pos p2:Pos}
def gIn (neg:Bool)(d e:D)(Q:B->Prop):Prop:= ∃(i:Int) (js:List Int),d= .int i/\(e= .tup (js.map D.int)\/e= .lst (js.map D.int)\/e= .rol (js.map D.int))/\Q (.pu<|.bl<|neg ^^ decide (i∈js))
theorem bL.unints: ∀{js:List Int} {vs:List V},bL K A H (js.map D.int) vs->vs=js.map V.int
 | [],_,h=>by simp only[jX,bL]at h;exact h
 | j::js,vs,h=>by
  simp only[dJ,bL]at h;obtain⟨v,vr,rfl,r,rs⟩:=h;rw[bK r,bL.unints rs];rfl
theorem d41 (i:Int)(js:List Int):inV (.int i) (js.map V.int)=decide (i∈js):=by
 unfold inV
 induction js with
 | nil=>rfl
 | cons j js ih=>
  rw[dJ,any_cons,ih];show((j==i)||decide (i∈js))=decide (i∈j::js)
  by_cases h:j=i
  ·subst h;simp
  ·have h': ¬i=j:=λz=>h z.symm
   simp[h,h']
theorem aY3 (js:List Int):(js.map V.int).all aR7=true:=by
 induction js with
 | nil=>rfl
 | cons j js ih=>rw[dJ,all_cons,ih];rfl
theorem ou_inG {neg:Bool}{op:Value->Value->Sem Value}(ho:OpR X op (rIn X.K neg)):OpU X op (gIn neg):=by
 intro A H d e v w Q0 Q hA r1 r2 g k;obtain⟨i,js,rfl,he,g⟩:=g;have e1:=bK r1;subst e1;have fin:Q (.bl<|if neg=true then !inV (.int i) (js.map V.int)else inV (.int i) (js.map V.int)) H:=by
  rw[d41];refine k _ _ H g (.refl _) ?_;cases neg
  ·rw[a6 ac,nP];exact mC
  ·rw[a7 rfl,pV];exact mC
 rcases he with rfl|rfl|rfl
 ·simp only[Rep]at r2;obtain⟨a,vs,rfl,c,rs⟩:=r2;have:=rs.unints;subst this;exact⟨_,ho,a,_,rfl,.inr<|c.imp cU id,rfl,aY3 js,fin⟩
 ·simp only[Rep]at r2;obtain⟨a,vs,rfl,n,c,rs⟩:=r2;have:=rs.unints;subst this;exact⟨_,ho,a,_,rfl,.inl<|SqL.of c,rfl,aY3 js,fin⟩
 ·simp only[Rep]at r2;obtain⟨a,vs,rfl,c,rs⟩:=r2;have:=rs.unints;subst this;exact⟨_,ho,a,_,rfl,.inl<|c.imp cU id,rfl,aY3 js,fin⟩
theorem d42:OpU X (compareOp .NotIn) (gIn true):=ou_inG bU2
end
end M
end
section
namespace L2
open PySem PySem.Spec PyProof.Rows
noncomputable def Itd (lo:Int)(n:Nat):It:={go:=λi _=>i<n,yld:=λi H x H'=>H'=H/\x=V.int (lo-(i:Int)),stop:=λi _=>n<=i}
theorem bP6 {P:Program}{w:World}{K:Frag}{tg:Expr}(it:Addr)(lo:Int)(n:Nat):c32 P w K tg (Itd lo n) [it] it (λi h=>IsRangeIter h it (lo+(i:Nat)*(-1)) ((n:Int)-(i:Nat)) (-1)) where
 mem:=ae
 obj:=λi h st b hb=>by
  have e:b=it:=by simpa using hb
  subst e;exact⟨_,st,λv z=>by
   have z':Data.fields _=Data.cell v:=z;cases z'⟩
 keep:=λi h h' st k=>k it ae _ st
 item:=by
  intro X hP hw hK hc i pins s σ H E I hf st hg;subst hP hw hK;obtain⟨f0,f1,f2,f3,f4,f5⟩:=hf it ae
  have W:=Walks.range (prog:=X.prog) (w:=X.w) (I.ok.hd hc) it lo (-1) n;refine W.item i s _ _ hg st λv h' tk hv st' kk=> ?_
  obtain⟨t,rfl⟩:=hv;have I1:Inv X pins σ H {s with heap:=h',toks:=tk}:=I.turned (λb o hb e=>kk b o (by simpa using hb) e) f0 f1 f3 f4 f5
  refine⟨_,rfl,c33 (s:={s with heap:=h',toks:=tk}) (n:="range_iterator") st' rfl rfl ac ⟨.int<|lo-i,H,I1,⟨t,?_⟩,⟨rfl,rfl⟩,st',λb hb=>(hf b hb).1⟩⟩
  rw[show lo+((i:Nat):Int)*(-1)=lo-(i:Int)by lia]
 done:=by
  intro X hP hw hK hc i pins s σ H E I hf st hg;subst hP hw hK;obtain⟨f0,f1,f2,f3,f4,f5⟩:=hf it ae
  exact wpAny_pyNext_range_end (I.ok.hd hc) st (by have:n<=i:=hg;lia) λh' eb=>⟨rfl,I.turned (t':=s.toks) (λb o hb e=>eb b o hb e) f0 f1 f3 f4 f5⟩
 self:=λ_ _ _ _ _ st h=>aK6 st h
section
variable {X:Cx}{tg:Expr}
theorem bP7 (a b:Int):Builtin.Range.rangeSize a b (-1)=(((a-b).toNat:Nat):Int):=by
 unfold Builtin.Range.rangeSize;rw[a6 ac]
 split<;>simp<;>lia
theorem small_down {a b:Int}(h1: -(2^31)<=a)(h2:a<2^31)(h3: -(2^31)<=b)(h4:b<2^31):Builtin.Range.small a b (-1)=true:=by
 unfold Builtin.Range.small;rw[bP7];simp[Builtin.Range.rangeFitsLong];omega
theorem cG7 {pins:List (Addr×Obj)}{σ:St}{H:Hp}{s:Shared}{R:It->Hp->Prop}{E:Value->Shared->Prop}{lo hi:Int}{t u v:Tok}{tk:Nat}(I:Inv X pins σ H s)(h1: -(2^31)<=lo)(h2:lo<2^31)(h3: -(2^31)<=hi)(h4:hi<2^31)
  (q:R (Itd lo (lo-hi).toNat) H):wpAny (model X.prog X.w) X.A (pyIter<|.ref s.heap.objs.size) (PIE X pins σ tg R) E {s with heap:=s.heap.push {cls:= .type "range",data:= .fields #[.int lo t,.int hi u,.int (-1) v]},toks:=tk}:=by
 refine wpAny_pyIter_range (IsRange.new ..) (small_down h1 h2 h3 h4) ?_
 have I1:Inv X pins σ H {s with heap:=s.heap.push {cls:= .type "range",data:= .fields #[.int lo t,.int hi u,.int (-1) v]},toks:=tk}:=I.kept λb o e=>aS _ e
 refine⟨(s.heap.push {cls:= .type "range",data:= .fields #[.int lo t,.int hi u,.int (-1) v]}).objs.size,[(s.heap.push {cls:= .type "range",data:= .fields #[.int lo t,.int hi u,.int (-1) v]}).objs.size],_,_,H,rfl,
  I1.kept (t':=tk) λb o e=>aS _ e,bP6 _ lo (lo-hi).toNat,?_,λb hb=> ?_,q⟩
 ·have e1:lo+((0:Nat):Int)*(-1)=lo:=ae
  have e2:(((lo-hi).toNat:Nat):Int)-((0:Nat):Int)=Builtin.Range.rangeSize lo hi (-1):=by rw[bP7];simp
  show IsRangeIter _ _ (lo+((0:Nat):Int)*(-1)) ((((lo-hi).toNat:Nat):Int)-((0:Nat):Int)) (-1)
  rw[e1,e2];exact bU _ rfl
 ·have e:b=(s.heap.push {cls:= .type "range",data:= .fields #[.int lo t,.int hi u,.int (-1) v]}).objs.size:=by simpa using hb
  subst e;exact I1.fpOk (aE _) (I1.hok.fresh<|aE _)
def iRngD (ta:TA):TI:=λσ H R=>ta σ H λvs H1=> ∃i j:Int,vs=[.int i,.int j,.int<|-1]/\(-(2^31)<=i/\i<2^31/\ -(2^31)<=j/\j<2^31)/\R (Itd i (i-j).toNat) H1
theorem cU6 {a b c:Expr}{ta:TA}{p pos:Pos}(hg:Gl X "range")(hm:X.mg "range"=none)(ha:PA X [a,b,c] ta)(hs:starEach [a,b,c] X.env=[(false,eval a X.env),(false,eval b X.env),(false,eval c X.env)]:=by rfl)(hs2:starEach [b,c] X.env=[(false,eval b X.env),(false,eval c X.env)]:=by rfl) :
  PI X tg (.Call (.Name "range" p) [a,b,c] [] pos) (iRngD ta):=by
 intro pins s σ H R I h;refine Call_ (u4 I hg hm boot_range<|jS (thn (ha pos pins s σ H _ I h) λus s1 ⟨vs,H1,I1,r1,q1⟩=> ?_) (by rw[hs,hs2]) (by rw[hs2];rfl))
 obtain⟨i,j,e,⟨q1,q2,q3,q4⟩,q⟩:=q1;subst e;cases r1 with
 | cons r rr=>
  cases rr with
  | cons r' rr=>
   cases rr with
   | cons r'' rr=>
    cases rr;obtain⟨t,rfl⟩:=r;obtain⟨t',rfl⟩:=r';obtain⟨t'',rfl⟩:=r'';exact call_range_3 ac (cG7 I1 q1 q2 q3 q4 q) (.inl (by
     unfold Builtin.divisionGoesByPylong;simp;intro hz;have:Nat.log2 1=0:=ac
     lia))
end
end L2
namespace M
open PySem PySem.Spec PyProof.Rows L2
section
variable {X:Cx}{K:Frag}{H:Hp}{pos:Pos}
theorem bP8 {A:AS}{lo:Int}{n:Nat}:c45 K A H (Itd lo n) n (λi=> .int (lo-i)):=
 ⟨λ_ _ _ _ h=>h,λ_ _ i x H'' _ _ _ ⟨e,y⟩=>by subst e;subst y;exact⟨.refl _,by simp only[Rep]⟩,λ_ _ _=>aE n⟩
def c48 (ta:UA):UI:=λρ Q=>ta ρ λds ρ1=>match ds with
 | [.int i,.int j,.int m]=>m= -1/\(-(2^31)<=i/\i<2^31/\ -(2^31)<=j/\j<2^31)/\Q (i-j).toNat (λk=> .int (i-k)) ρ1
 | _=>False
theorem bP9 {tg a b c:Expr}{ta:UA}{p:Pos}(hg:Gl X "range")(hm:X.mg "range"=none)(ha:PUA X [a,b,c] ta)(hs:starEach [a,b,c] X.env=[(false,eval a X.env),(false,eval b X.env),(false,eval c X.env)]:=by rfl)(hs2:starEach [b,c] X.env=[(false,eval b X.env),(false,eval c X.env)]:=by rfl) :
  PUI X tg (.Call (.Name "range" p) [a,b,c] [] pos) (c48 ta):=
 b30 (cU6 hg hm ha hs hs2) λσ H R ⟨C,ρ,Q0,I,h,k⟩=>⟨C,ρ,_,I,h,λds ρ1 vs H1 q f s r=>by
  split at q
  ·rename_i i j m
   obtain⟨v,vr,rfl,rv,rr⟩:=r.uncons;obtain⟨w,wr,rfl,rw',rr'⟩:=rr.uncons;obtain⟨z,zr,rfl,rz,rr''⟩:=rr'.uncons;have:=rr''.unnil;subst this;have:=bK rv;subst this;have:=bK rw';subst this;have:=bK rz;subst this;obtain⟨hm,hb,q⟩:=q;subst hm;exact⟨i,j,rfl,hb,k _ _ ρ1 _ H1 q f s bP8⟩
  ·exact q.elim⟩
end
end M
end
section
namespace L2
open PySem PySem.Spec PyProof.Rows
section
variable {X:Cx}{pins:List (Addr×Obj)}{σ:St}{H:Hp}{s:Shared}{h':Heap}
theorem Inv.turnedNew {t':Nat}{ch:List Addr}{a:Addr}{o:HO}(I:Inv X pins σ H s)(k: ∀b u,b ∉ ch->s.heap.get? b=some u->h'.get? b=some u)(hf: ∀b∈ch,aX5 X pins H b)
  (hp:s.heap.objs.size<=a) (new:rB X.prog X.w (upd H a o) h' a o):Inv X pins σ (upd H a o) {s with heap:=h',toks:=t'}:=by
 have hn:H a=none:=I.hok.fresh hp;have nch: ∀b u,H b=some u->b ∉ ch:=λb u e z=>by have:=(hf b z).1;rw[e]at this;cases this
 refine I.step (g':=s.gens) (d':=s.drawn) (ch:=ch) (λb hb=>⟨(hf b hb).2.2.2.1,(hf b hb).2.1,(hf b hb).2.2.2.2.1,(hf b hb).2.2.2.2.2⟩) (λb u _ _ hc e _=>k b u hc e) (λb u _ _ hc e _=>⟨u.slots,k b u hc e⟩)
  (λb u _ e n=>by rw[cH<|bD<|aY (aT e) hp];exact n) (λb u hc e=>⟨u,k b u hc e⟩)
  (λb xs e=>by rw[cH<|d7 e hn];exact e) (λb ob u e=>by rw[cH<|d7 e hn];exact e) (λb ps e=>⟨#[],by rw[cH<|d7 e hn,e];simp⟩) (λm hm=> ?_) (λb u e=> ?_) I.bare
 ·obtain⟨ob,es,ep,ho,r⟩:=hm;exact⟨ob,es,ep,k _ ob (λz=>(hf _ z).2.1 rfl) ho,r⟩
 ·by_cases hb:b=a
  ·subst hb;rw[iR]at e;cases e;exact new
  ·rw[cH hb]at e;refine(I.hok b u e).stay (λc v hc q=>k c v ?_ q) (λc q=>by rw[cH<|d7 q hn];exact q) λc xs q=>by rw[cH<|d7 q hn];exact q
   rcases hc with z|z
   ·rw[z];exact nch b u e
   ·exact nch c _ z
theorem Inv.turnedL {t':Nat}{ch:List Addr}(I:Inv X pins σ H s)(k: ∀b u,b ∉ ch->s.heap.get? b=some u->h'.get? b=some u)(hf: ∀b∈ch,aX5 X pins H b):Inv X pins σ H {s with heap:=h',toks:=t'}:=by
 have nch: ∀b u,H b=some u->b ∉ ch:=λb u e z=>by have:=(hf b z).1;rw[e]at this;cases this
 refine I.step (g':=s.gens) (d':=s.drawn) (ch:=ch) (λb hb=>⟨(hf b hb).2.2.2.1,(hf b hb).2.1,(hf b hb).2.2.2.2.1,(hf b hb).2.2.2.2.2⟩) (λb u _ _ hc e _=>k b u hc e) (λb u _ _ hc e _=>⟨u.slots,k b u hc e⟩)
  (λb u _ e n=>n) (λb u hc e=>⟨u,k b u hc e⟩) (λb xs e=>e) (λb ob u e=>e) (λb ps e=>⟨#[],by rw[e];simp⟩) (λm hm=> ?_) (λb u e=> ?_) I.bare
 ·obtain⟨ob,es,ep,ho,r⟩:=hm;exact⟨ob,es,ep,k _ ob (λz=>(hf _ z).2.1 rfl) ho,r⟩
 ·refine(I.hok b u e).stay (λc v hc q=>k c v ?_ q) (λc q=>q) λc xs q=>q
  rcases hc with z|z
  ·rw[z];exact nch b u e
  ·exact nch c _ z
end
def vI (T:Bool)(h:Heap)(a:Addr)(xs:Array Value):Prop:=match T with
 | false=>h.IsList a xs
 | true=>h.IsTuple a xs
def vJ (T:Bool)(h:Heap)(it a:Addr)(i:Nat):Prop:=match T with
 | false=>h.IsListIter it a i
 | true=>h.IsTupleIter it a i
noncomputable def a83 (T:Bool)(a:Addr):Obj:=match T with
 | false=>{cls:= .type "list_iterator",data:= .fields #[.ref a,.int 0 0]}
 | true=>{cls:= .type "tuple_iterator",data:= .fields #[.ref a,.int 0 0]}
def SqV (K:Frag)(T:Bool)(H:Hp)(a:Addr)(xs:List V):Prop:=match T with
 | false=>SqL K H a xs
 | true=>SqT K H a xs
theorem vI.at {T:Bool}{h h':Heap}{a:Addr}{xs:Array Value}(x:vI T h a xs)(e: ∀o,h.get? a=some o->h'.get? a=some o):vI T h' a xs:=by
 cases T<;>(obtain⟨o,ho,r⟩:=x;exact⟨o,e o ho,r⟩)
theorem vJ.at {T:Bool}{h h':Heap}{it a:Addr}{i:Nat}(x:vJ T h it a i)(e: ∀o,h.get? it=some o->h'.get? it=some o):vJ T h' it a i:=by
 cases T<;>(obtain⟨o,ho,r⟩:=x;exact⟨o,e o ho,r⟩)
theorem vI.lt {T:Bool}{h:Heap}{a:Addr}{xs:Array Value}(x:vI T h a xs):a<h.objs.size:=by
 cases T<;>(obtain⟨o,ho,r⟩:=x;exact aT ho)
theorem vJ.rec' {T:Bool}{h:Heap}{it a:Addr}{i:Nat}(x:vJ T h it a i): ∃o,h.get? it=some o/\ ∀v,o.data≠ .cell v:=by
 cases T<;>(obtain⟨o,ho,hc,hd⟩:=x;exact⟨o,ho,λv z=>by rw[hd]at z;cases z⟩)
theorem vJ.new {T:Bool}(h:Heap)(a:Addr):vJ T (h.push<|a83 T a) h.objs.size a 0:=by
 cases T<;>exact⟨_,bU _ rfl,rfl,rfl⟩
section
variable {X:Cx}{pins:List (Addr×Obj)}{σ:St}{H:Hp}{s:Shared}
theorem Inv.sq {T:Bool}{a:Addr}{xs:List V}(I:Inv X pins σ H s)(h:SqV X.K T H a xs): ∃its:List Value,Vals xs its/\vI T s.heap a its.toArray/\xs.length<=sizeLine:=by
 cases T with
 | false=>obtain⟨its,rv,p,hz⟩:=I.list h;exact⟨its,rv,p.isList,hz⟩
 | true=>obtain⟨its,rv,p,hz⟩:=I.tuple h;exact⟨its,rv,p,hz⟩
theorem Inv.sq_inj {T:Bool}{a:Addr}{xs ys:List V}(I:Inv X pins σ H s)(h:SqV X.K T H a xs)(h':SqV X.K T H a ys):xs=ys:=by
 cases T with
 | false=>exact I.list_inj h h'
 | true=>exact I.tuple_inj h h'
end
section
variable {prog:Program}{w:World}{A:Around}{E:Value->Shared->Prop}{s:Shared}
theorem aE5 {T:Bool}{a:Addr}{xs:Array Value}{Q:Value->Shared->Prop}(hl:vI T s.heap a xs)(hQ:Q (.ref s.heap.objs.size) {s with heap:=s.heap.push (a83 T a)}) :
  wpAny (model prog w) A (pyIter<|.ref a) Q E s:=by
 cases T with
 | false=>exact zF hl hQ
 | true=>exact wpAny_pyIter_tuple hl hQ
theorem d43 {it t:Addr}{i:Nat}{items:Array Value}{x:Value}{Q:Value->Shared->Prop}(hit:s.heap.IsTupleIter it t i)(ht:s.heap.IsTuple t items)(hx:items[i]? =some x)
  (hQ: ∀h',h'.IsTupleIter it t (i+1)->SameBut it s.heap h'->Q x {s with heap:=h'}):wpAny (model prog w) A (Builtin.SmallTypes.nextOf<|.ref it) Q E s:=by
 obtain⟨oi,hoi,hci,hdi⟩:=id hit;obtain⟨ot,hot,_,nt,hdt⟩:=ht;unfold Builtin.SmallTypes.nextOf;refine a8 (kR (name:=Str.ofString "__next__") hit.typeIs yS<|j0 yS hit.typeIs PySem.F.entry_tuple_iterator_next ?_<|PySem.F.args_tuple_iterator_next_1 _);show wpAny _ _ (field (.ref it) 0 >>= _) _ _ s;refine a8 (d6 hoi hdi (x:= .ref t) rfl ?_)
 show wpAny _ _ (if(Value.ref t==Value.none)=true then _ else _) _ _ s;rw[a6<|show ¬((Value.ref t==Value.none)=true)from bC]
 show wpAny _ _ (field (.ref it) 1 >>= _) _ _ s;refine a8 (d6 hoi hdi (x:= .int i 0) rfl ?_)
 show wpAny _ _ (seqItems? (.ref t) >>= _) _ _ s;refine a8 (kZ hot hdt ?_)
 simp only[cP,hx];refine a8 (tQ hoi hdi ae<|aH ⟨x,rfl,aH<|hQ _ ⟨_,pJ _ hoi<|aL2<|pP hdi _,(Obj.cls_mapFields ..).trans hci,?_⟩<|tJ ..⟩)
 rw[pP hdi];simp[rawInt]
theorem cU7 {it t:Addr}{i:Nat}{items:Array Value}{Q:Value->Shared->Prop}(hh:A.handled=none)(hit:s.heap.IsTupleIter it t i)(ht:s.heap.IsTuple t items)(hx:items[i]? =none)
  (hE: ∀h' e,ExtBut it s.heap h'->(∃o,h'.get? e=some o/\o.cls= .type "StopIteration")->E (.ref e) {s with heap:=h'}):wpAny (model prog w) A (Builtin.SmallTypes.nextOf<|.ref it) Q E s:=by
 obtain⟨oi,hoi,hci,hdi⟩:=id hit;obtain⟨ot,hot,_,nt,hdt⟩:=ht;unfold Builtin.SmallTypes.nextOf;refine a8 (kR (name:=Str.ofString "__next__") hit.typeIs yS<|j0 yS hit.typeIs PySem.F.entry_tuple_iterator_next ?_<|PySem.F.args_tuple_iterator_next_1 _);show wpAny _ _ (field (.ref it) 0 >>= _) _ _ s;refine a8 (d6 hoi hdi (x:= .ref t) rfl ?_)
 show wpAny _ _ (if(Value.ref t==Value.none)=true then _ else _) _ _ s;rw[a6<|show ¬((Value.ref t==Value.none)=true)from bC]
 show wpAny _ _ (field (.ref it) 1 >>= _) _ _ s;refine a8 (d6 hoi hdi (x:= .int i 0) rfl ?_)
 show wpAny _ _ (seqItems? (.ref t) >>= _) _ _ s;refine a8 (kZ hot hdt ?_)
 simp only[cP,hx];refine a8 (nU<|a8<|tQ hoi hdi ae ?_)
 show wpAny _ _ (newExc (.type "StopIteration") [] >>= _) _ _ _;refine a8 ?_;simp only[newExc,newTuple];refine a8 (iZ ?_<|by size_fits)
 refine a8 (m:=firstArgMember _ _) (k7 (a:=Value.none) (by first|rfl| (simp only[firstArgMember];rfl)) ?_);refine iZ ?_ (by size_fits)
 simp only[raiseNew];refine a8 (wpAny_handled ?_);first|rw[show A.in1.handled=none from hh]|rw[hh]
 exact a8 (aH<|wpAny_throw<|hE _ _ (((tJ ..).extBut.push _).push _) ⟨_,bU _ rfl,rfl⟩)
theorem b77 {T:Bool}{it a:Addr}{i:Nat}{xs:Array Value}{x:Value}{Q:Value->Shared->Prop}(hit:vJ T s.heap it a i)(hl:vI T s.heap a xs)(hx:xs[i]? =some x)
  (hQ: ∀h',vJ T h' it a (i+1)->SameBut it s.heap h'->Q x {s with heap:=h'}):wpAny (model prog w) A (Builtin.SmallTypes.nextOf<|.ref it) Q E s:=by
 cases T with
 | false=>exact wpAny_nextOf_list_item hit hl hx hQ
 | true=>exact d43 hit hl hx hQ
theorem bB2 {T:Bool}{it a:Addr}{i:Nat}{xs:Array Value}{Q:Value->Shared->Prop}(hh:A.handled=none)(hit:vJ T s.heap it a i)(hl:vI T s.heap a xs)(hx:xs[i]? =none)
  (hE: ∀h' e,ExtBut it s.heap h'->(∃o,h'.get? e=some o/\o.cls= .type "StopIteration")->E (.ref e) {s with heap:=h'}):wpAny (model prog w) A (Builtin.SmallTypes.nextOf<|.ref it) Q E s:=by
 cases T with
 | false=>exact wpAny_nextOf_list_end hh hit hl hx hE
 | true=>exact cU7 hh hit hl hx hE
end
structure ZSt (T1 T2:Bool)(z TI TO i1 i2 l1 l2:Addr)(f0:Value)(i:Nat)(h:Heap):Prop where
 hz:IsZip h z TI TO f0
 hI:IsPair h TI (.ref i1) (.ref i2)
 hO: ∃a b,IsPair h TO a b
 h1:vJ T1 h i1 l1 i
 h2:vJ T2 h i2 l2 i
structure ZAp (z TI TO i1 i2:Addr):Prop where
 a:TI≠z
 b:TO≠z
 c:i1≠z
 d:i2≠z
 e:TI≠TO
 f:TI≠i1
 g:TI≠i2
 h:TO≠i1
 i:TO≠i2
 j:i1≠i2
section
variable {prog:Program}{w:World}{A:Around}{E:Value->Shared->Prop}{s:Shared}{T1 T2:Bool}{z TI TO i1 i2 l1 l2:Addr}{k:Nat}{xs ys:Array Value}
theorem d44 {x y:Value}{Q:Value->Shared->Prop}(D:ZAp z TI TO i1 i2)(n1:l1 ∉ [z,TI,TO,i1,i2])(n2:l2 ∉ [z,TI,TO,i1,i2])(st:ZSt T1 T2 z TI TO i1 i2 l1 l2 .none k s.heap)
  (hl1:vI T1 s.heap l1 xs) (hl2:vI T2 s.heap l2 ys) (hx:xs[k]? =some x) (hy:ys[k]? =some y)
  (hQ: ∀h',ZSt T1 T2 z TI TO i1 i2 l1 l2 (rawInt s.heap.objs.size) (k+1) h'->IsPair h' s.heap.objs.size x y->(∀c o,c ∉ [z,TI,TO,i1,i2]->s.heap.get? c=some o->h'.get? c=some o)->Q (.ref s.heap.objs.size) {s with heap:=h'}) :
  wpAny (model prog w) A (Builtin.«zip.__next__» ⟨[.ref z],[]⟩) (λfin s'=> ∃v,fin= .done (.ret v)/\Q v s') E s:=by
 obtain⟨hz,hI,⟨a0,b0,hO⟩,h1,h2⟩:=st;simp only[aX,eT,eU,not_or]at n1 n2;show wpAny _ _ (field (.ref z) 2 >>= _) _ _ _;refine a8 (d6 hz rfl (x:= .bool false) rfl ?_);show wpAny _ _ (field (.ref z) 3 >>= _) _ _ _;refine a8 (d6 hz rfl (x:= .ref TI) rfl ?_);refine a8 (kZ hI rfl ?_);show wpAny _ _ (Builtin.SmallTypes.ownedTupleIsFree (.ref z) >>= _) _ _ _
 refine a8 ?_;unfold Builtin.SmallTypes.ownedTupleIsFree;refine a8 (d6 hz rfl (x:= .none) rfl (aH ?_))
 simp only[bZ];refine a8 (nU ?_);refine a8 (d6 hz rfl (x:= .ref TO) rfl ?_);refine a8 (pQ hz ae λg1 z1 m1=> ?_);replace z1:IsZip g1 z TI TO .ellipsis:=z1
 refine a8 ?_;simp only[List.zipIdx_cons,List.zipIdx_nil,zL,forIn_nil]
 refine a8 (a8<|zP ?_);show wpAny _ _ (Builtin.SmallTypes.nextOf (.ref i1) >>= _) _ _ _
 refine a8 (b77 (s:={s with heap:=g1}) (h1.at λo e=>m1.extBut _ _ D.c e) (hl1.at λo e=>m1.extBut _ _ n1.1 e) hx λg2 p2 m2=>aH ?_)
 have o2:IsPair g2 TO a0 b0:=m2.extBut _ _ D.h (m1.extBut _ _ D.b hO);refine a8 (kZ o2 rfl ?_);refine a8 (aL5 o2 λg3 o3 m3=> ?_);replace o3:IsPair g3 TO x b0:=o3
 refine a8 (wpAny_letGo<|aH ?_)
 refine a8 (a8<|zP ?_);show wpAny _ _ (Builtin.SmallTypes.nextOf (.ref i2) >>= _) _ _ _
 refine a8 (b77 (s:={s with heap:=g3}) (h2.at λo e=>m3.extBut _ _ D.i.symm (m2.extBut _ _ D.j.symm<|m1.extBut _ _ D.d e)) (hl2.at λo e=>m3.extBut _ _ n2.2.2.1 (m2.extBut _ _ n2.2.2.2.1<|m1.extBut _ _ n2.1 e)) hy λg4 p4 m4=>aH ?_)
 have o4:IsPair g4 TO x b0:=m4.extBut _ _ D.i o3;refine a8 (kZ o4 rfl ?_);refine a8 (aL5 o4 λg5 o5 m5=> ?_);replace o5:IsPair g5 TO x y:=o5
 refine a8 (wpAny_letGo<|aH<|aH ?_)
 refine a8 (kZ o5 rfl ?_);refine a8 (wpAny_newTuple ?_)
 have sz:g5.objs.size=s.heap.objs.size:=by rw[m5.1,m4.1,m3.1,m2.1,m1.1]
 have z5:IsZip g5 z TI TO .ellipsis:=m5.extBut _ _ D.b.symm (m4.extBut _ _ D.d.symm<|m3.extBut _ _ D.b.symm<|m2.extBut _ _ D.c.symm z1);have keep5: ∀c o,c≠z->c≠TO->c≠i1->c≠i2->s.heap.get? c=some o->g5.get? c=some o:=λc o c1 c2 c3 c4 e=>m5.extBut _ _ c2 (m4.extBut _ _ c4<|m3.extBut _ _ c2<|m2.extBut _ _ c3<|m1.extBut _ _ c1 e)
 have q1:vJ T1 g5 i1 l1 (k+1):=p2.at λo e=>m5.extBut _ _ D.h.symm (m4.extBut _ _ D.j<|m3.extBut _ _ D.h.symm e)
 have q2:vJ T2 g5 i2 l2 (k+1):=p4.at λo e=>m5.extBut _ _ D.i.symm e
 have zl:z<g5.objs.size:=aT z5;show wpAny _ _ (Builtin.SmallTypes.ownedTupleHandOut (.ref z) (.ref g5.objs.size) >>= _) _ _ _;refine a8 ?_;unfold Builtin.SmallTypes.ownedTupleHandOut;have z6:IsZip (g5.push {cls:= .type "tuple",data:= .seq #[x,y]}) z TI TO .ellipsis:=aS _ z5;refine a8 (pQ z6 ae λg7 z7 m7=> ?_);replace z7:IsZip g7 z TI TO (rawInt g5.objs.size):=z7
 refine pQ z7 ae λg8 z8 m8=> ?_;replace z8:IsZip g8 z TI TO (rawInt g5.objs.size):=z8
 have up: ∀c o,c≠z->g5.get? c=some o->g8.get? c=some o:=λc o c1 e=>m8.extBut _ _ c1 (m7.extBut _ _ c1<|aS _ e)
 have t8:IsPair g8 g5.objs.size x y:=m8.extBut _ _ (pY zl) (m7.extBut _ _ (pY zl)<|bU _ rfl);rw[sz]at z8 t8;refine aH ⟨_,rfl,?_⟩;show Q (.ref g5.objs.size) _;rw[sz];refine hQ g8 ⟨z8,up _ _ D.a<|keep5 _ _ D.a D.e D.f D.g hI,⟨x,y,up _ _ D.b o5⟩,q1.at λo e=>up _ _ D.c e,q2.at λo e=>up _ _ D.d e⟩ t8 λc o nc e=> ?_
 simp only[aX,eT,eU,not_or]at nc;exact up c o nc.1 (keep5 c o nc.1 nc.2.2.1 nc.2.2.2.1 nc.2.2.2.2 e)
theorem cU8 {Q:Fin->Shared->Prop}(hh:A.handled=none)(D:ZAp z TI TO i1 i2)(n1:l1 ∉ [z,TI,TO,i1,i2])(n2:l2 ∉ [z,TI,TO,i1,i2])(st:ZSt T1 T2 z TI TO i1 i2 l1 l2 .none k s.heap)
  (hl1:vI T1 s.heap l1 xs) (hl2:vI T2 s.heap l2 ys) (hend:xs[k]? =none\/ys[k]? =none)
  (hE: ∀h' e,(∀c o,c ∉ [z,TI,TO,i1,i2]->s.heap.get? c=some o->h'.get? c=some o)->(∃o,h'.get? e=some o/\o.cls= .type "StopIteration")->E (.ref e) {s with heap:=h'}) :
  wpAny (model prog w) A (Builtin.«zip.__next__» ⟨[.ref z],[]⟩) Q E s:=by
 obtain⟨hz,hI,⟨a0,b0,hO⟩,h1,h2⟩:=st;simp only[aX,eT,eU,not_or]at n1 n2;have nin: ∀c,c ∉ [z,TI,TO,i1,i2]->c≠z/\c≠TI/\c≠TO/\c≠i1/\c≠i2:=λc h=>by simpa only[aX,eT,eU,not_or]using h
 show wpAny _ _ (field (.ref z) 2 >>= _) _ _ _;refine a8 (d6 hz rfl (x:= .bool false) rfl ?_)
 show wpAny _ _ (field (.ref z) 3 >>= _) _ _ _;refine a8 (d6 hz rfl (x:= .ref TI) rfl ?_)
 refine a8 (kZ hI rfl ?_);show wpAny _ _ (Builtin.SmallTypes.ownedTupleIsFree (.ref z) >>= _) _ _ _
 refine a8 ?_;unfold Builtin.SmallTypes.ownedTupleIsFree;refine a8 (d6 hz rfl (x:= .none) rfl (aH ?_))
 simp only[bZ];refine a8 (nU ?_);refine a8 (d6 hz rfl (x:= .ref TO) rfl ?_);refine a8 (pQ hz ae λg1 z1 m1=> ?_);replace z1:IsZip g1 z TI TO .ellipsis:=z1
 refine a8 ?_;simp only[List.zipIdx_cons,List.zipIdx_nil,zL,forIn_nil]
 refine a8 (a8<|zP ?_);show wpAny _ _ (Builtin.SmallTypes.nextOf (.ref i1) >>= _) _ _ _
 cases hx:xs[k]? with
 | none=>
  refine a8 (bB2 (s:={s with heap:=g1}) hh (h1.at λo e=>m1.extBut _ _ D.c e) (hl1.at λo e=>m1.extBut _ _ n1.1 e) hx λg2 e m2 he=> ?_)
  obtain⟨oe,hoe,hce⟩:=he;have z2:IsZip g2 z TI TO .ellipsis:=m2 _ _ D.c.symm z1;have ez:e≠z:=λq=>by subst q;rw[z2]at hoe;cases hoe;simp at hce
  refine pQ z2 ae λg3 _ m3=>hE g3 e (λc o nc q=> ?_) ⟨oe,m3.extBut _ _ ez hoe,hce⟩
  obtain⟨c1,c2,c3,c4,c5⟩:=nin c nc;exact m3.extBut _ _ c1 (m2 _ _ c4<|m1.extBut _ _ c1 q)
 | some x=>
  have hy:ys[k]? =none:=by rcases hend with q|q;(rw[hx]at q;cases q);exact q
  refine a8 (b77 (s:={s with heap:=g1}) (h1.at λo e=>m1.extBut _ _ D.c e) (hl1.at λo e=>m1.extBut _ _ n1.1 e) hx λg2 p2 m2=>aH ?_)
  have o2:IsPair g2 TO a0 b0:=m2.extBut _ _ D.h (m1.extBut _ _ D.b hO);refine a8 (kZ o2 rfl ?_);refine a8 (aL5 o2 λg3 o3 m3=> ?_)
  refine a8 (wpAny_letGo<|aH ?_);refine a8 (a8<|zP ?_);show wpAny _ _ (Builtin.SmallTypes.nextOf (.ref i2) >>= _) _ _ _
  refine a8 (bB2 (s:={s with heap:=g3}) hh (h2.at λo e=>m3.extBut _ _ D.i.symm (m2.extBut _ _ D.j.symm<|m1.extBut _ _ D.d e)) (hl2.at λo e=>m3.extBut _ _ n2.2.2.1 (m2.extBut _ _ n2.2.2.2.1<|m1.extBut _ _ n2.1 e)) hy λg4 e m4 he=> ?_)
  obtain⟨oe,hoe,hce⟩:=he;have z4:IsZip g4 z TI TO .ellipsis:=m4 _ _ D.d.symm (m3.extBut _ _ D.b.symm<|m2.extBut _ _ D.c.symm z1);have ez:e≠z:=λq=>by subst q;rw[z4]at hoe;cases hoe;simp at hce
  refine pQ z4 ae λg5 _ m5=>hE g5 e (λc o nc q=> ?_) ⟨oe,m5.extBut _ _ ez hoe,hce⟩
  obtain⟨c1,c2,c3,c4,c5⟩:=nin c nc;exact m5.extBut _ _ c1 (m4 _ _ c5<|m3.extBut _ _ c3<|m2.extBut _ _ c4<|m1.extBut _ _ c1 q)
end
noncomputable def Itz (K:Frag)(T1 T2:Bool)(l1 l2:Addr):It where
 go:=λi H=> ∃xs ys x y,SqV K T1 H l1 xs/\SqV K T2 H l2 ys/\xs[i]? =some x/\ys[i]? =some y
 yld:=λi H v H'=> ∃T x y,v= .ref T/\H T=none/\H'=upd H T (.tup [x,y])/\(∀xs,SqV K T1 H l1 xs->xs[i]? =some x)/\ ∀ys,SqV K T2 H l2 ys->ys[i]? =some y
 stop:=λi H=> ∃xs ys,SqV K T1 H l1 xs/\SqV K T2 H l2 ys/\(xs.length<=i\/ys.length<=i)
theorem ZSt.objs {T1 T2:Bool}{z TI TO i1 i2 l1 l2:Addr}{f0:Value}{i:Nat}{h:Heap}(st:ZSt T1 T2 z TI TO i1 i2 l1 l2 f0 i h): ∀b∈[z,TI,TO,i1,i2],∃o,h.get? b=some o/\ ∀v,o.data≠ .cell v:=λb hb=>by
 obtain⟨hz,hI,⟨a,c,hO⟩,h1,h2⟩:=st;simp only[aX,eT,eU]at hb;rcases hb with rfl|rfl|rfl|rfl|rfl
 ·exact⟨_,hz,λv q=>by cases q⟩
 ·exact⟨_,hI,λv q=>by cases q⟩
 ·exact⟨_,hO,λv q=>by cases q⟩
 ·exact h1.rec'
 ·exact h2.rec'
theorem c49:2<=sizeLine:=ac
theorem d45 {P:Program}{w:World}{K:Frag}{elts:List Expr}{kt:Nat}{tp:Pos}{T1 T2:Bool}{z TI TO i1 i2 l1 l2:Addr}(D:ZAp z TI TO i1 i2)(n1:l1 ∉ [z,TI,TO,i1,i2])(n2:l2 ∉ [z,TI,TO,i1,i2]) :
  c32 P w K (.Tuple elts kt tp) (Itz K T1 T2 l1 l2) [z,TI,TO,i1,i2] z (ZSt T1 T2 z TI TO i1 i2 l1 l2 .none) where
 mem:=ae
 obj:=λi h st b hb=>st.objs b hb
 keep:=λi h h' st k=>by
  obtain⟨hz,hI,⟨a,c,hO⟩,h1,h2⟩:=st;exact⟨k z ae _ hz,k TI ae _ hI,⟨a,c,k TO ae _ hO⟩,h1.at λo e=>k i1 ae o e,h2.at λo e=>k i2 ae o e⟩
 item:=by
  intro X hP hw hK hc i pins s σ H E I hf st hg;subst hP hw hK;obtain⟨xs,ys,x,y,q1,q2,e1,e2⟩:=hg;obtain⟨is1,r1,p1,_⟩:=I.sq q1;obtain⟨is2,r2,p2,_⟩:=I.sq q2;obtain⟨u1,hu1,ru1⟩:=r1.get e1;obtain⟨u2,hu2,ru2⟩:=r2.get e2;have hT:s.TypeIs (.ref z) "zip":=⟨_,st.hz,rfl⟩;unfold pyNext
  refine a8 (tT<|kR (name:=Str.ofString "__next__") hT yZ<|j0 yZ hT PySem.F.entry_zip_next (d44 D n1 n2 st p1 p2 (by simpa using hu1) (by simpa using hu2) λh' st' ht k=>aH ?_)<|PySem.F.args_zip_next_1 _)
  refine⟨_,rfl,wpAny_letOwnedTupleGo_zip st'.hz λh2 hz2 m=> ?_⟩
  have kk: ∀b u,b ∉ [z,TI,TO,i1,i2]->s.heap.get? b=some u->h2.get? b=some u:=λb u nb e=>m.extBut _ _ (λq=>nb (by simp[q])) (k b u nb e)
  have hne:s.heap.objs.size≠z:=pY (aT st.hz);have ht2:IsPair h2 s.heap.objs.size u1 u2:=m.extBut _ _ hne ht;obtain⟨a',c',hO'⟩:=st'.hO;refine⟨.ref s.heap.objs.size,upd H s.heap.objs.size<|.tup [x,y],I.turnedNew (t':=s.toks) kk hf (aE _) ⟨c49,[u1,u2],.cons ru1<|.cons ru2 .nil,⟨_,ht2,rfl,_,rfl⟩⟩,rfl,
   ⟨_,x,y,rfl,I.hok.fresh<|aE _,rfl,λxs' q=>by rw[I.sq_inj q q1];exact e1,λys' q=>by rw[I.sq_inj q q2];exact e2⟩,⟨hz2,m.extBut _ _ D.a st'.hI,⟨a',c',m.extBut _ _ D.b hO'⟩,st'.h1.at λo e=>m.extBut _ _ D.c e,st'.h2.at λo e=>m.extBut _ _ D.d e⟩,λb hb=> ?_⟩
  obtain⟨o,ho,_⟩:=st.objs b hb;rw[cH<|bD<|aT ho];exact(hf b hb).1
 done:=by
  intro X hP hw hK hc i pins s σ H E I hf st hg;subst hP hw hK;obtain⟨xs,ys,q1,q2,hs⟩:=hg;obtain⟨is1,r1,p1,_⟩:=I.sq q1;obtain⟨is2,r2,p2,_⟩:=I.sq q2;have l1':=r1.length;have l2':=r2.length;have hT:s.TypeIs (.ref z) "zip":=⟨_,st.hz,rfl⟩;unfold pyNext
  refine a8 (tT<|kR (name:=Str.ofString "__next__") hT yZ<|j0 yZ hT PySem.F.entry_zip_next (cU8 (I.ok.hd hc) D n1 n2 st p1 p2 (by simp;omega) λh' e k he=> ?_)<|PySem.F.args_zip_next_1 _)
  obtain⟨o,ho,hc'⟩:=he;exact a8 (wpAny_isInstance (T:="StopIteration") (b:=true) ⟨o,ho,hc'⟩ isSubtype_stop<|aH ⟨rfl,I.turnedL (t':=s.toks) k hf⟩)
 self:=λ_ _ _ _ _ st h=>wpAny_pyIter_zip st.hz h
noncomputable abbrev zg1 (T1:Bool)(h:Heap)(l1:Addr):Heap:=h.push (a83 T1 l1)
noncomputable abbrev zg2 (T1 T2:Bool)(h:Heap)(l1 l2:Addr):Heap:=(zg1 T1 h l1).push (a83 T2 l2)
noncomputable abbrev zg3 (T1 T2:Bool)(h:Heap)(l1 l2:Addr):Heap:=(zg2 T1 T2 h l1 l2).push {cls:= .type "tuple",data:= .seq #[.ref h.objs.size,.ref (zg1 T1 h l1).objs.size]}
noncomputable abbrev zg4 (T1 T2:Bool)(h:Heap)(l1 l2:Addr):Heap:=(zg3 T1 T2 h l1 l2).push {cls:= .type "tuple",data:= .seq #[.none,.none]}
noncomputable abbrev zg5 (T1 T2:Bool)(h:Heap)(l1 l2:Addr):Heap:=(zg4 T1 T2 h l1 l2).push {cls:= .type "zip",data:= .fields #[.none,.bool false,.bool false,.ref (zg2 T1 T2 h l1 l2).objs.size,.ref (zg3 T1 T2 h l1 l2).objs.size]}
theorem dJ0 (T1 T2:Bool)(l1 l2:Addr)(xs ys:Array Value):Meets (Builtin.«zip.__new__» ⟨[.type "zip",.ref l1,.ref l2],[]⟩) (λ_ R s=>vI T1 s.heap l1 xs/\vI T2 s.heap l2 ys/\
  R (.ok<|.ret<|.ref (zg4 T1 T2 s.heap l1 l2).objs.size) {s with heap:=zg5 T1 T2 s.heap l1 l2}):= .of_wp λprog w A R s h=>by
 obtain⟨hp,g,d,tk,os⟩:=s;obtain⟨hl1,hl2,h⟩:=h;have hsub:=sub_zip;have e1:vI T1 (Shared.heap ⟨hp,g,d,tk,os⟩) l1 xs:=hl1;have e2:vI T2 (Shared.heap ⟨hp.push<|a83 T1 l1,g,d,tk,os⟩) l2 ys:=hl2.at λo e=>aS _ e
 wp_walk using aE5 e1,aE5 e2
 exact⟨_,rfl,h⟩
section
variable {prog:Program}{w:World}{A:Around}{E:Value->Shared->Prop}{s:Shared}
theorem d46 {T1 T2:Bool}{l1 l2:Addr}{xs ys:Array Value}{Q:Value->Shared->Prop}(hl1:vI T1 s.heap l1 xs)(hl2:vI T2 s.heap l2 ys)
  (h: ∀h' z TI TO i1 i2,ZAp z TI TO i1 i2->(∀b∈[z,TI,TO,i1,i2],s.heap.objs.size<=b)->ZSt T1 T2 z TI TO i1 i2 l1 l2 .none 0 h'->(∀c o,s.heap.get? c=some o->h'.get? c=some o)->Q (.ref z) {s with heap:=h'}) :
  wpAny (model prog w) A (call (.type "zip") [.ref l1,.ref l2]) Q E s:=by
 refine callType_new PySem.F.called_zip ac (PySem.F.typeCall_zip_2 _ _) (PySem.F.newCall_zip_2 _ _) (λobj=>PySem.F.args_object_init_3 obj _ _) PySem.F.entry_zip_new (dJ0 T1 T2 l1 l2 xs ys) ⟨hl1,hl2,?_⟩
 have z1:(zg1 T1 s.heap l1).objs.size=s.heap.objs.size+1:=j1 ..;have z2:(zg2 T1 T2 s.heap l1 l2).objs.size=s.heap.objs.size+2:=by rw[j1,z1]
 have z3:(zg3 T1 T2 s.heap l1 l2).objs.size=s.heap.objs.size+3:=by rw[j1,z2]
 have z4:(zg4 T1 T2 s.heap l1 l2).objs.size=s.heap.objs.size+4:=by rw[j1,z3]
 have g5:(zg5 T1 T2 s.heap l1 l2).get? (zg4 T1 T2 s.heap l1 l2).objs.size=some _:=bU _ rfl;have g4:(zg5 T1 T2 s.heap l1 l2).get? (zg3 T1 T2 s.heap l1 l2).objs.size=some _:=aS _ (bU _ rfl);have g3:(zg5 T1 T2 s.heap l1 l2).get? (zg2 T1 T2 s.heap l1 l2).objs.size=some _:=aS _ (aS _<|bU _ rfl)
 have s2:vJ T2 (zg5 T1 T2 s.heap l1 l2) (zg1 T1 s.heap l1).objs.size l2 0:=(vJ.new (zg1 T1 s.heap l1) l2).at λo e=>aS _ (aS _<|aS _ e)
 have s1:vJ T1 (zg5 T1 T2 s.heap l1 l2) s.heap.objs.size l1 0:=(vJ.new s.heap l1).at λo e=>aS _ (aS _<|aS _<|aS _ e)
 have ap:ZAp (zg4 T1 T2 s.heap l1 l2).objs.size (zg2 T1 T2 s.heap l1 l2).objs.size (zg3 T1 T2 s.heap l1 l2).objs.size s.heap.objs.size (zg1 T1 s.heap l1).objs.size:=by
  rw[z1,z2,z3,z4];have k: ∀n a b:Nat,a≠b->n+a≠n+b:=λn a b h=>aa
  exact⟨k _ 2 4 ac,k _ 3 4 ac,k _ 0 4 ac,k _ 1 4 ac,k _ 2 3 ac,k _ 2 0 ac,k _ 2 1 ac,k _ 3 0 ac,k _ 3 1 ac,k _ 0 1 ac⟩
 refine⟨⟨_,g5,rfl⟩,h _ _ _ _ _ _ ap (λb hb=> ?_) ⟨g5,g3,⟨_,_,g4⟩,s1,s2⟩ λc o e=>aS _ (aS _<|aS _<|aS _<|aS _ e)⟩
 rw[z1,z2,z3,z4]at hb;simp only[aX,eT,eU]at hb;rcases hb with rfl|rfl|rfl|rfl|rfl<;>omega
end
section
variable {X:Cx}
def iZip (K:Frag)(ta:TA):TI:=λσ H R=>ta σ H λvs H1=> ∃l1 l2 T1 T2 xs ys,vs=[.ref l1,.ref l2]/\SqV K T1 H1 l1 xs/\SqV K T2 H1 l2 ys/\R (Itz K T1 T2 l1 l2) H1
theorem pi_zip {a b:Expr}{elts:List Expr}{kt:Nat}{tp:Pos}{ta:TA}{p pos:Pos}(hg:Gl X "zip")(hm:X.mg "zip"=none)(ha:PA X [a,b] ta)(hs:starEach [a,b] X.env=[(false,eval a X.env),(false,eval b X.env)]:=by rfl)(hs2:starEach [b] X.env=[(false,eval b X.env)]:=by rfl) :
  PI X (.Tuple elts kt tp) (.Call (.Name "zip" p) [a,b] [] pos) (iZip X.K ta):=by
 intro pins s σ H R I h;refine Call_ (u4 I hg hm PyProof.Rows.boot_zip<|jS (thn (ha pos pins s σ H _ I h) λus s1 ⟨vs,H1,I1,r1,q1⟩=> ?_) (by rw[hs,hs2]) (by rw[hs2];rfl))
 obtain⟨l1,l2,T1,T2,xs,ys,e,q1,q2,q⟩:=q1;subst e;obtain⟨u,v,rfl,r,r'⟩:=Vals.two r1;cases r;cases r';obtain⟨is1,_,p1,_⟩:=I1.sq q1;obtain⟨is2,_,p2,_⟩:=I1.sq q2;refine d46 p1 p2 λh' z TI TO i1 i2 ap fr st k=>wpAny_pyIter_zip st.hz ?_
 have nl: ∀l,l<s1.heap.objs.size->l ∉ [z,TI,TO,i1,i2]:=λl hl hb=>absurd (aY hl<|fr l hb) (dI _)
 exact⟨z,[z,TI,TO,i1,i2],_,_,H1,rfl,I1.kept (t':=s1.toks) k,d45 ap (nl l1 p1.lt)<|nl l2 p2.lt,st,λb hb=>I1.fpOk (fr b hb) (I1.hok.fresh<|fr b hb),q⟩
end
theorem c50 {prog:Program}{w:World}{A:Around}{T:Bool}(hh:A.handled=none)(it a:Addr)(hne:a≠it)(xs:Array Value):Draws prog w A it [it,a] xs.size (λi v=>xs[i]? =some v) (λi h=>vJ T h it a i/\vI T h a xs) where
 live:=λ_ _ st=>let ⟨o,ho,_⟩:=st.1.rec';⟨o,ho⟩
 frame:=λ_ _ _ st k=>⟨st.1.at λo e=>k it ae o e,st.2.at λo e=>k a ae o e⟩
 item:=λi s Q E hi st hQ=>b77 st.1 st.2 (x:=xs[i]) (by simp[hi]) λh' hit' m=>hQ _ h' s.toks (by simp[hi]) ⟨hit',st.2.at λo e=>m.extBut _ _ hne e⟩ m
 done:=λs Q E st hE=>bB2 hh st.1 st.2 ae hE
noncomputable def Ite (K:Frag)(T:Bool)(l:Addr):It where
 go:=λi H=> ∃xs x,SqV K T H l xs/\xs[i]? =some x
 yld:=λi H v H'=> ∃Tn x,v= .ref Tn/\H Tn=none/\H'=upd H Tn (.tup [.int (i:Int),x])/\ ∀xs,SqV K T H l xs->xs[i]? =some x
 stop:=λi H=> ∃xs,SqV K T H l xs/\xs.length=i
def ESt (T:Bool)(e it l:Addr)(i:Nat)(h:Heap):Prop:=(∃old,IsEnum h e it i old)/\vJ T h it l i
theorem ESt.objs {T:Bool}{e it l:Addr}{i:Nat}{h:Heap}(st:ESt T e it l i h): ∀b∈[e,it],∃o,h.get? b=some o/\ ∀v,o.data≠ .cell v:=λb hb=>by
 obtain⟨⟨old,he⟩,h1⟩:=st;simp only[aX,eT,eU]at hb;rcases hb with rfl|rfl
 ·exact⟨_,he,λv q=>by cases q⟩
 ·exact h1.rec'
theorem cU9 {P:Program}{w:World}{K:Frag}{elts:List Expr}{kt:Nat}{tp:Pos}{T:Bool}{e it l:Addr}(hei:e≠it)(nl:l ∉ [e,it]):c32 P w K (.Tuple elts kt tp) (Ite K T l) [e,it] e (ESt T e it l) where
 mem:=ae
 obj:=λi h st b hb=>st.objs b hb
 keep:=λi h h' st k=>by
  obtain⟨⟨old,he⟩,h1⟩:=st;exact⟨⟨old,k e ae _ he⟩,h1.at λo q=>k it ae o q⟩
 item:=by
  intro X hP hw hK hc i pins s σ H E I hf st hg;subst hP hw hK;obtain⟨xs,x,q1,e1⟩:=hg;obtain⟨is1,r1,p1,_⟩:=I.sq q1;obtain⟨u1,hu1,ru1⟩:=r1.get e1;simp only[aX,eT,eU,not_or]at nl;obtain⟨⟨old,he⟩,h1⟩:=id st;have hi:i<is1.toArray.size:=by rw[b6];exact(kQ.mp hu1).1
  have D:=c50 (prog:=X.prog) (w:=X.w) (A:=X.A.in1) (T:=T) (I.ok.hd hc) it l nl.2 is1.toArray;refine wpAny_pyNext_enum_itemD D he ⟨h1,p1⟩ hi hei (by simp[hei,Ne.symm nl.1]) λv h' tk hv ho hs' ht hsz k=>⟨_,rfl,wpAny_letOwnedTupleGo_enum ho λh2 he2 m=> ?_⟩
  have ev:v=u1:=by
   have:is1.toArray[i]? =some u1:=by simpa using hu1
   rw[this]at hv;cases hv;rfl
  subst ev;have hne:s.heap.objs.size≠e:=pY (aT he);have kk: ∀b u,b ∉ [e,it]->s.heap.get? b=some u->h2.get? b=some u:=λb u nb q=>by
   simp only[aX,eT,eU,not_or]at nb;exact m.extBut _ _ nb.1 (k b u nb.1 nb.2 q)
  have ht2:h2.get? s.heap.objs.size=some {cls:= .type "tuple",data:= .seq #[.int i tk,v]}:=m.extBut _ _ hne ht;refine⟨.ref s.heap.objs.size,upd H s.heap.objs.size<|.tup [.int (i:Int),x],I.turnedNew (t':=tk+1) kk hf (aE _) ⟨c49,[.int i tk,v],.cons ⟨tk,rfl⟩<|.cons ru1 .nil,⟨_,ht2,rfl,_,rfl⟩⟩,rfl,
   ⟨_,x,rfl,I.hok.fresh<|aE _,rfl,λxs' q=>by rw[I.sq_inj q q1];exact e1⟩,⟨⟨_,by simpa using he2⟩,hs'.1.at λo q=>m.extBut _ _ (Ne.symm hei) q⟩,λb hb=> ?_⟩
  obtain⟨o,ho',_⟩:=st.objs b hb;rw[cH<|bD<|aT ho'];exact(hf b hb).1
 done:=by
  intro X hP hw hK hc i pins s σ H E I hf st hg;subst hP hw hK;obtain⟨xs,q1,hl⟩:=hg;obtain⟨is1,r1,p1,_⟩:=I.sq q1;have l1':=r1.length;simp only[aX,eT,eU,not_or]at nl;obtain⟨⟨old,he⟩,h1⟩:=id st;have D:=c50 (prog:=X.prog) (w:=X.w) (A:=X.A.in1) (T:=T) (I.ok.hd hc) it l nl.2 is1.toArray
  refine wpAny_pyNext_enum_endD D he ⟨by rw[b6,<-l1',hl];exact h1,p1⟩ λh' ex=>⟨rfl,I.turnedL (t':=s.toks) (λb u nb q=>ex b u (λz=>nb (by simp[z])) q) hf⟩
 self:=λ_ _ _ _ _ st h=>by
  obtain⟨⟨old,he⟩,_⟩:=st;exact wpAny_pyIter_enum he h
theorem cV0 (l:Addr)(xs:Array Value):Meets (Builtin.«enumerate.__new__» ⟨[.type "enumerate",.ref l],[]⟩) (λ_ R s=>s.heap.IsTuple l xs/\
  R (.ok<|.ret<|.ref (s.heap.push<|a83 true l).objs.size) {s with heap:=(s.heap.push<|a83 true l).push {cls:= .type "enumerate",data:= .fields #[.none,.bool false,.ref s.heap.objs.size,rawInt 0,.none,.none]}}):= .of_wp λprog w A R s h=>by
 obtain⟨hp,g,d,tk,os⟩:=s;obtain⟨hl,h⟩:=h;obtain⟨⟨c,dct,dt,sl⟩,hg,hc,n,hd⟩:=id hl
 replace hc:c= .type "tuple":=hc
 replace hd:dt= .seq xs n:=hd
 subst hc hd;have hsub:=sub_enumerate;have e1:vI true (Shared.heap ⟨hp,g,d,tk,os⟩) l xs:=hl
 wp_walk using aK0 hg
 refine wpAny_stack_any λst=>aH ?_
 split
 ·rename_i c _ _ _ _ _
  cases (c==Value.type "enumerate")<;>(wp_walk using aK0 hg,aE5 e1;exact⟨_,rfl,h⟩)
 ·wp_walk using aK0 hg,aE5 e1
  exact⟨_,rfl,h⟩
section
variable {prog:Program}{w:World}{A:Around}{E:Value->Shared->Prop}{s:Shared}
theorem cV1 {T:Bool}{l:Addr}{xs:Array Value}{Q:Value->Shared->Prop}(hl:vI T s.heap l xs)
  (h: ∀h' e it,e≠it->s.heap.objs.size<=e->s.heap.objs.size<=it->ESt T e it l 0 h'->(∀c o,s.heap.get? c=some o->h'.get? c=some o)->Q (.ref e) {s with heap:=h'}) :
  wpAny (model prog w) A (call (.type "enumerate") [.ref l]) Q E s:=by
 cases T with
 | false=>exact call_enumerate_list hl λh' he hit hsz k=>h h' _ _ aa aa aa ⟨⟨_,he⟩,hit⟩ k
 | true=>
  refine callType_new PySem.F.called_enumerate ac (PySem.F.typeCall_enumerate_1 _) (PySem.F.newCall_enumerate_1 _) (λobj=>PySem.F.args_object_init_2 obj _) PySem.F.entry_enumerate_new (cV0 l xs) ⟨hl,?_⟩
  have z1:(s.heap.push<|a83 true l).objs.size=s.heap.objs.size+1:=j1 ..;have he:IsEnum ((s.heap.push<|a83 true l).push {cls:= .type "enumerate",data:= .fields #[.none,.bool false,.ref s.heap.objs.size,rawInt 0,.none,.none]}) (s.heap.push<|a83 true l).objs.size s.heap.objs.size 0 .none:=bU _ rfl
  have hi:vJ true ((s.heap.push<|a83 true l).push {cls:= .type "enumerate",data:= .fields #[.none,.bool false,.ref s.heap.objs.size,rawInt 0,.none,.none]}) s.heap.objs.size l 0:=(vJ.new (T:=true) s.heap l).at λo e=>aS _ e
  exact⟨⟨_,he,rfl⟩,h _ _ _ (by rw[z1];omega) (by rw[z1];omega) (aE _) ⟨⟨_,he⟩,hi⟩ λc o e=>aS _ (aS _ e)⟩
end
section
variable {X:Cx}
def iEnum (K:Frag)(ta:TA):TI:=λσ H R=>ta σ H λvs H1=> ∃l T xs,vs=[.ref l]/\SqV K T H1 l xs/\R (Ite K T l) H1
theorem dJ1 {a:Expr}{elts:List Expr}{kt:Nat}{tp:Pos}{ta:TA}{p pos:Pos}(hg:Gl X "enumerate")(hm:X.mg "enumerate"=none)(ha:PA X [a] ta)(hs:starEach [a] X.env=[(false,eval a X.env)]:=by rfl) :
  PI X (.Tuple elts kt tp) (.Call (.Name "enumerate" p) [a] [] pos) (iEnum X.K ta):=by
 intro pins s σ H R I h;refine Call_ (u4 I hg hm PyProof.Rows.boot_enumerate<|jS (thn (ha pos pins s σ H _ I h) λus s1 ⟨vs,H1,I1,r1,q1⟩=> ?_) hs rfl)
 obtain⟨l,T,xs,e,q1,q⟩:=q1;subst e;obtain⟨u,rfl,r⟩:=vals1 r1;cases r;obtain⟨is1,_,p1,_⟩:=I1.sq q1;refine cV1 p1 λh' e it ne f1 f2 st k=> ?_
 obtain⟨⟨old,he⟩,_⟩:=id st;refine wpAny_pyIter_enum he ?_;have lt:=p1.lt;have fr: ∀b∈[e,it],s1.heap.objs.size<=b:=λb hb=>by
  simp only[aX,eT,eU]at hb;rcases hb with rfl|rfl
  ·exact f1
  ·exact f2
 exact⟨e,[e,it],_,_,H1,rfl,I1.kept (t':=s1.toks) k,cU9 ne λhb=>absurd (aY lt<|fr l hb) (dI _),st,λb hb=>I1.fpOk (fr b hb) (I1.hok.fresh<|fr b hb),q⟩
end
end L2
end
section
namespace L2
open PySem PySem.Spec PyProof.Rows
theorem b51:isSubtype (.type "range_iterator") (.type "reversed")=pure false:=by rw[pU];kernel_rfl
theorem aY4 {n:Int}(h1: -(2^31)<=n)(h2:n<2^31):Builtin.Range.rangeFitsLong n=true:=by
 simp[Builtin.Range.rangeFitsLong]
 lia
noncomputable def aS3 (n:Int):Obj:={cls:= .type "range_iterator",data:= .fields #[rawInt<|(n.toNat:Int)-1,rawInt (n.toNat:Int),rawInt<|-1]}
theorem bK1 (r:Addr)(a b c:Int)(t u v:Tok)(hc0: ¬(!(Builtin.Range.rangeFitsLong a&&Builtin.Range.rangeFitsLong b&&Builtin.Range.rangeFitsLong c&&Builtin.Range.rangeFitsLong (-c)&&Builtin.Range.rangeFitsLong (a-c)&&Builtin.Range.rangeFitsLong (Builtin.Range.rangeSize a b c)))=true) :
  Meets (Builtin.«range.__reversed__» ⟨[.ref r],[]⟩) (λ_ R s=>s.heap.get? r=some {cls:= .type "range",dict:=none,data:= .fields #[.int a t,.int b u,.int c v],slots:= #[]}/\
  R (.ok<|.ret<|Value.ref s.heap.objs.size) {s with heap:=s.heap.push {cls:=Value.type (if(Builtin.Range.rangeFitsLong a&&Builtin.Range.rangeFitsLong b&&Builtin.Range.rangeFitsLong c&&Builtin.Range.rangeFitsLong (-c)&&Builtin.Range.rangeFitsLong (a-c)&&Builtin.Range.rangeFitsLong (Builtin.Range.rangeSize a b c))=true then "range_iterator" else "longrange_iterator"),data:=Data.fields #[rawInt<|a+(Builtin.Range.rangeSize a b c-1)*c,rawInt<|Builtin.Range.rangeSize a b c,rawInt<|-c]},toks:=s.toks}):= .of_wp λprog w A R s h=>by
 obtain⟨hp,g,d,tk,os⟩:=s;obtain⟨hl,h⟩:=h
 wp_walk
 exact⟨_,rfl,h⟩
theorem b52 (r:Addr)(n:Int)(t u v:Tok)(h1: -(2^31)<=n)(h2:n<2^31):Meets (Builtin.«range.__reversed__» ⟨[.ref r],[]⟩) (λ_ R s=>IsRange s.heap r 0 n 1 t u v/\
  R (.ok<|.ret<|.ref s.heap.objs.size) {s with heap:=s.heap.push (aS3 n)}):=by
 have e0:Builtin.Range.rangeSize 0 n 1=(n.toNat:Int):=by rw[rangeSize_one];split<;>lia
 have sm:(Builtin.Range.rangeFitsLong 0&&Builtin.Range.rangeFitsLong n&&Builtin.Range.rangeFitsLong 1&&Builtin.Range.rangeFitsLong (-1)&&Builtin.Range.rangeFitsLong (0-1)&&Builtin.Range.rangeFitsLong (Builtin.Range.rangeSize 0 n 1))=true:=by
  rw[e0,aY4 h1 h2,aY4 (n:=0) ac ac,aY4 (n:=1) ac ac,aY4 (n:= -1) ac ac,aY4 (n:=0-1) ac ac,aY4 (n:=(n.toNat:Int)) ad ad]
  rfl
 have G:=bK1 r 0 n 1 t u v (by rw[sm];decide)
 intro prog w A R s h;refine G prog w A R s ⟨h.1,?_⟩;rw[sm,a7 rfl,e0];have e1:(0:Int)+((n.toNat:Int)-1)*1=(n.toNat:Int)-1:=ad
 rw[e1];exact h.2
section
variable {prog:Program}{w:World}{A:Around}{E:Value->Shared->Prop}{s:Shared}
theorem c51 {r:Addr}{n:Int}{t u v:Tok}{Q₁:Value->Shared->Prop}(hr:IsRange s.heap r 0 n 1 t u v)(h1: -(2^31)<=n)(h2:n<2^31)
  (h:Q₁ (.ref s.heap.objs.size) {s with heap:=s.heap.push (aS3 n)}) :
  codeAny (model prog w) A (.call (.builtin "reversed.__new__") ⟨[.type "reversed",.ref r],[]⟩) (wants Q₁ E) s:=by
 have hT:s.TypeIs (.ref r) "range":=⟨_,hr,rfl⟩;refine codeAny_of_tree ?_;show wpAny _ A.in1 (do checkBuiltinCall "reversed.__new__" ⟨[.type "reversed",.ref r],[]⟩;again (.builtin "reversed.__new__" ⟨[.type "reversed",.ref r],[]⟩)) _ _ s;refine a8 (k7 (PySem.F.newCall_reversed_1 _)<|aH ⟨plainId_quiet PySem.F.plain_reversed_new _,codeAny_builtin PySem.F.entry_reversed_new ?_⟩)
 rw[Around.under_plainId PySem.F.plain_reversed_new _];unfold Builtin.«reversed.__new__»;refine a8 (k7 (newClass_reversed _) ?_);try dsimp only
 refine a8 (k7 (a:=()) (by first|rfl|kernel_rfl) ?_);refine a8 (k7 (a:=()) (by first|rfl|kernel_rfl) ?_);try dsimp only
 refine a8 (wpAny_specialOf hT PySem.F.slot_range_reversed.lookup ?_);try dsimp only
 refine a8 (k7 (PySem.F.slot_range_reversed.bind _) ?_);try dsimp only
 first
 | rw[a6<|show ¬((Value.builtin "range.__reversed__"==Value.none)=true)from bC]
 | (show wpAny _ _ (if(Value.builtin "range.__reversed__"==Value.none)=true then _ else _) _ _ _;rw[a6<|show ¬((Value.builtin "range.__reversed__"==Value.none)=true)from bC])
 refine a8 (nU ?_)
 refine a8 (m:=runValue (.call (.builtin "range.__reversed__") ⟨[.ref r],[]⟩)) (show wpAny _ _ (call (.builtin "range.__reversed__") [.ref r]) _ _ _ from k8 PySem.F.slot_range_reversed hT PySem.F.entry_range_reversed (PySem.F.args_range_reversed_1 _) (b52 r n t u v h1 h2) ⟨hr,?_⟩)
 first
 | exact aH h
 | exact a8 (aH<|aH h)
theorem dJ2 {r:Addr}{n:Int}{t u v:Tok}{Q:Value->Shared->Prop}(hr:IsRange s.heap r 0 n 1 t u v)(h1: -(2^31)<=n)(h2:n<2^31)(h:Q (.ref s.heap.objs.size) {s with heap:=s.heap.push (aS3 n)}) :
  wpAny (model prog w) A (call (.type "reversed") [.ref r]) Q E s:=by
 refine callType_other (U:="range_iterator") (Q₁:=λobj s₁=>obj= .ref s.heap.objs.size/\s₁={s with heap:=s.heap.push (aS3 n)}) af PySem.F.create_reversed ⟨_,_,PySem.F.mro_reversed⟩ PySem.F.made_reversed b51 (PySem.F.typeCall_reversed_1 _) (c51 hr h1 h2 ⟨rfl,rfl⟩) ?_
 rintro obj s₁ ⟨rfl,rfl⟩;exact⟨⟨_,bU _ rfl,rfl⟩,h⟩
end
section
variable {X:Cx}{tg:Expr}
def iRevR (ta:TA):TI:=λσ H R=>ta σ H λvs H1=> ∃j:Int,vs=[.int j]/\ -(2^31)<=j/\j<2^31/\R (Itd ((j.toNat:Int)-1) j.toNat) H1
theorem c52 {a:Expr}{ta:TA}{p p2 pos pos2:Pos}(hg:Gl X "reversed")(hm:X.mg "reversed"=none)(hg2:Gl X "range")(hm2:X.mg "range"=none)(ha:PA X [a] ta)(hs:starEach [a] X.env=[(false,eval a X.env)]:=by rfl)
  (hs2:starEach [.Call (.Name "range" p2) [a] [] pos2] X.env=[(false,eval (.Call (.Name "range" p2) [a] [] pos2) X.env)]:=by rfl) :
  PI X tg (.Call (.Name "reversed" p) [.Call (.Name "range" p2) [a] [] pos2] [] pos) (iRevR ta):=by
 intro pins s σ H R I h;refine Call_ (u4 I hg hm PyProof.Rows.boot_reversed<|jS ?_ hs2 rfl);rw[hs2];show wpAny _ _ (spliced ((false,eval (.Call (.Name "range" p2) [a] [] pos2) X.env)::[])) _ _ s;refine Calls.spliced_cons (Call_<|u4 I hg2 hm2 boot_range<|jS (thn (ha pos2 pins s σ H _ I h) λus s1 ⟨vs,H1,I1,r1,q1⟩=> ?_) hs rfl)
 obtain⟨j,e,q1,q2,q⟩:=q1;subst e;obtain⟨u,rfl,t,rfl⟩:=vals1 r1;refine call_range_1 (Calls.spliced_nil ?_);have I2:Inv X pins σ H1 {s1 with heap:=s1.heap.push {cls:= .type "range",data:= .fields #[.int 0 s1.toks,.int j t,.int 1<|s1.toks+1]},toks:=s1.toks+1+1}:=I1.kept λb o e=>aS _ e
 refine dJ2 (IsRange.new ..) q1 q2 ?_
 have hi:IsRangeIter (((s1.heap.push {cls:= .type "range",data:= .fields #[.int 0 s1.toks,.int j t,.int 1<|s1.toks+1]})).push<|aS3 j) (s1.heap.push {cls:= .type "range",data:= .fields #[.int 0 s1.toks,.int j t,.int 1<|s1.toks+1]}).objs.size ((j.toNat:Int)-1) (j.toNat:Int) (-1):=bU _ rfl;refine aK6 hi ?_
 refine⟨_,[(s1.heap.push {cls:= .type "range",data:= .fields #[.int 0 s1.toks,.int j t,.int 1<|s1.toks+1]}).objs.size],_,_,H1,rfl,I2.kept (t':=s1.toks+1+1) λb o e=>aS _ e,bP6 _ ((j.toNat:Int)-1) j.toNat,?_,λb hb=> ?_,q⟩
 ·show IsRangeIter _ _ (((j.toNat:Int)-1)+((0:Nat):Int)*(-1)) ((j.toNat:Int)-((0:Nat):Int)) (-1)
  have e1:((j.toNat:Int)-1)+((0:Nat):Int)*(-1)=(j.toNat:Int)-1:=ae
  have e2:(j.toNat:Int)-((0:Nat):Int)=(j.toNat:Int):=ae
  rw[e1,e2];exact hi
 ·have e:b=(s1.heap.push {cls:= .type "range",data:= .fields #[.int 0 s1.toks,.int j t,.int 1<|s1.toks+1]}).objs.size:=by simpa using hb
  subst e;exact I2.fpOk (aE _) (I2.hok.fresh<|aE _)
theorem d47:PGet X (rIxL X.K):=by
 intro pins s σ H o i ov iv Q I ro ri h;obtain⟨p,xs,k,z,rfl,rfl,hq,he,q⟩:=h;cases ro;obtain⟨t,rfl⟩:=ri;obtain⟨its,r,pl,hz⟩:=I.list hq;obtain⟨j,h1,h2,h3,h4,h5⟩:=b74 he;obtain⟨w,ew,rw'⟩:=r.get h2;have hl:=r.length;have hn:=aX6;have fin:EP X pins σ Q w s:=⟨z,H,I,rw',q⟩
 by_cases h0:0<=k
 ·have hj:k.toNat=j:=by
   rw[zX h0 h5]at h1;exact iF h1
  exact wpAny_getItem_list pl.isList h0 ad (by rw[hj];simpa using ew) fin
 ·have hj:(k+(its.toArray.size:Int)).toNat=j:=by
   rw[zR ad h4]at h1
   rw[b6,<-hl];exact iF h1
  exact wpAny_getItem_list_neg pl.isList ad (by rw[b6]<;>lia) ad (by rw[hj];simpa using ew) fin
end
end L2
namespace HT
open PySem PyProof.Rows
section
variable {prog:Program}{w:World}{A:Around}{E:Value->Shared->Prop}{s:Shared}
theorem getItem_tuple_whole {t sl:Addr}{items:Array Value}{vl vu:Value}{lo hi:Option Int}{Q:Value->Shared->Prop}(ht:IsTup s.heap t items)(hs:s.heap.IsSliceOf sl vl vu .none)(pl:IsPart vl lo)(pu:IsPart vu hi)
  (hw:sIx items.size 0 lo=0/\sIx items.size items.size hi=items.size) (h:Q (.ref t) s):wpAny (model prog w) A (getItem (.ref t)<|.ref sl) Q E s:=by
 obtain⟨os,hos,hcs,hds⟩:=id hs;have hTs:s.TypeIs (.ref sl) "slice":=⟨os,hos,hcs⟩;unfold getItem;try with_reducible refine j3 ?_
 first|refine a8 (aH ?_)|skip
 refine a8 (wpAny_sequenceKey ht.typeIs ac ?_)
 refine a8 (kR (name:=Str.ofString "__getitem__") ht.typeIs yT<|j0 yT ht.typeIs entry_tuple_getitem ?_<|args_tuple_getitem _ _)
 show wpAny _ _ (Builtin.Tuple.tupleItemsOf (.ref t) >>= _) _ _ s
 refine a8 (tupleItemsOf_ ht ?_)
 refine a8 (zQ hTs ?_)
 rw[a7 ac]
 refine a8 (xY hs pl pu ?_)
 have hyes:(((sIx items.size 0 lo:Nat):Int)==0&&(1:Int)==1&&(sIx items.size items.size hi-sIx items.size 0 lo)==items.size)=true:=by
  rw[hw.1,hw.2];simp
 show wpAny _ _ (if(((sIx items.size 0 lo:Nat):Int)==0&&(1:Int)==1&&(sIx items.size items.size hi-sIx items.size 0 lo)==items.size)=true then _ else _) _ _ s
 rw[a7 hyes];show wpAny _ _ (Builtin.Tuple.tupleIsExact (.ref t) >>= _) _ _ s;unfold Builtin.Tuple.tupleIsExact;refine a8 (a8<|zQ ht.typeIs<|aH ?_);show wpAny _ _ (if(Value.type "tuple"==Value.type "tuple")=true then _ else _) _ _ s;rw[a7 ac]
 refine a8 (nU ?_)
 first
  | exact aH ⟨_,rfl,aH h⟩
  | exact a8 (aH<|aH ⟨_,rfl,aH h⟩)
  | exact a8 (aH ⟨_,rfl,aH h⟩)
end
end HT
namespace L2
open PySem PySem.Spec PyProof.Rows
section
variable {X:Cx}
def rSlW (K:Frag):V->Option Int->Option Int->Hp->VK->Prop:=λx lo hi H Q=> ∃a xs,x= .ref a/\SqT K H a xs/\(HT.sIx xs.length 0 lo=0/\HT.sIx xs.length xs.length hi=xs.length)/\Q (.ref a) H
theorem d48:SlR X (rSlW X.K):=by
 intro pins s σ H x v vl vu lo hi sl Q I rx hs pl pu h;obtain⟨a,xs,rfl,hx,hw,q⟩:=h;cases rx;obtain⟨its,r,ht,hz⟩:=I.tuple hx;have hlen:its.toArray.size=xs.length:=by rw[b6];exact r.length.symm
 exact⟨"tuple",_,PyProof.Rows.slot_tuple_getitem.lookup,ht.typeIs,HT.getItem_tuple_whole ht hs pl pu (by rw[hlen];exact hw) ⟨.ref a,H,I,rfl,q⟩⟩
end
end L2
namespace M
open PySem PySem.Spec PyProof.Rows L2
section
variable {X:Cx}{K:Frag}{A:AS}{H:Hp}{e a b:Expr}{te ti:UE}{pos p2:Pos}{C:C0}{ρ ρ':Ev}{σ:L2.St}
def gSlT (d:D)(lo hi:Option Int)(Q:B->Prop):Prop:=match d with
 | .tup l=>Q (.pu<|.tup<|cutD l lo hi)
 | .lst l=>Q (.ow<|cutD l lo hi)
 | .rol l=>Q (.ow<|cutD l lo hi)
 | _=>False
def c53 (t:UE)(tl th:UO):UE:=λρ Q=>t ρ λb0 ρ1=>tl ρ1 λlo ρ2=>th ρ2 λhi ρ3=>gSlT b0.d lo hi λb=>Q b ρ3
theorem cV2 (l:List D)(lo hi:Option Int)(h:HT.sIx l.length 0 lo=0/\HT.sIx l.length l.length hi=l.length):cutD l lo hi=l:=by
 unfold cutD;rw[h.1,h.2];simp
theorem t7 {tl th:UO}{lo hi:Option Expr}(he:PU X e te)(hl:PUO X lo tl)(hu:PUO X hi th):PU X (.Subscript e (.Slice lo hi none p2) pos) (c53 te tl th):=
 iS (c38 ((cN8.or d20).or d48) he hl hu) λσ H Q ⟨C,ρ,Q0,I,h,k⟩=>⟨C,ρ,_,I,h,λb0 ρ1 v H1 q f s r=>by
  have I1:=(I.frz f).same s;have rr:=r.rep λa z=>I.avF f z
  refine⟨C,ρ1,_,I1,q,λl2 ρ2 H2 q2 f2 s2=> ?_⟩
  have I2:=(I1.frz f2).same s2;refine⟨C,ρ2,_,I2,q2,λh3 ρ3 H3 q3 f3 s3=> ?_⟩
  have I3:=(I2.frz f3).same s3;have s13:=s2.trans s3;have sAll:=s.trans s13;have fAll:=f.trans (f2.trans f3);have r':Rep X.K (Av C ρ3 σ) H3 b0.d v:=rr.mono (.sub s13 λa z=>f2.av (f3.av z))
  generalize b0.d=d at r' q3;cases d with
  | tup l=>
   have r2:=r';simp only[Rep]at r';obtain⟨a,vs,rfl,c,rs⟩:=r';have hlen:=rs.length
   by_cases hw:HT.sIx l.length 0 l2=0/\HT.sIx l.length l.length h3=l.length
   ·refine .inr ⟨a,vs,rfl,c.imp cU id,by rw[<-hlen];exact hw,k _ ρ3 _ _ q3 fAll sAll ?_⟩
    show Rep _ _ _ (.tup<|cutD l l2 h3) _
    rw[cV2 l l2 h3 hw];exact r2
   ·exact .inl (.inr ⟨a,vs,rfl,c.imp cU id,by rw[<-hlen];exact hw,λp n=>k _ ρ3 _ _ q3 fAll (sAll.trans<|eZ n _) (iT (λa z=>I3.avSome z) n<|rs.cut l2 h3)⟩)
  | lst l=>
   simp only[Rep]at r';obtain⟨a,vs,rfl,n0,c,rs⟩:=r';exact .inl (.inl ⟨a,vs,rfl,SqL.of c,λp n=>k _ ρ3 _ _ q3 fAll (sAll.trans<|eZ n _) (i8 sAll n<|rs.cut l2 h3)⟩)
  | rol l=>
   simp only[Rep]at r';obtain⟨a,vs,rfl,c,rs⟩:=r';exact .inl (.inl ⟨a,vs,rfl,c.imp cU id,λp n=>k _ ρ3 _ _ q3 fAll (sAll.trans<|eZ n _) (i8 sAll n<|rs.cut l2 h3)⟩)
  | _=>exact(show False from q3).elim⟩
def d49 (i:Nat)(f:Int->Int->Int)(ti te:UE):US:=λD ρ=>oC ρ i λ_=>ti ρ λj ρ1=>oC ρ1 i λl1=> ∃k n x,j.d= .int k/\ixN l1.length k=some n/\l1[n]? =some (.int x)/\
 te ρ1 λb ρ2=>oC ρ2 i λl=> ∃y,b.d= .int y/\D.nx (ρ2.set i<|some<|.ow<|l.set n<|.int<|f x y)
theorem dJ3 {x:Str}{p tpos:Pos}{ix:Expr}{op:Operator}{f:Int->Int->Int}(i:Nat)(hx:PE X (.Name x p) (aG3 i))(hi:PU X ix ti)(he:PU X e te)(hp:PIp X op (ipI f))
  (ha: ∀ov iv new,augStore ix ov iv new=(do holding [new,ov,iv] (setItem ov iv new);release [new,ov,iv] [];pure .next):=by intros;rfl):PUS X (.AugAssign (.Subscript (.Name x p) ix tpos) op e pos) (d49 i f ti te):=
 rC (dF6 hx hi d47 he hp c40 ha) λD σ H ⟨C,ρ,D0,I,h,k⟩=>by
  obtain⟨l,hl,h⟩:=jF h;obtain⟨a,vs,h1,h2,h3,h4⟩:=I.ow i l hl;refine⟨.ref a,h1,C,ρ,_,I,h,λj ρ1 w H1 q f1 s1 r1=> ?_⟩
  obtain⟨l1,hl1,kk,n,x0,ej,en,ex,q⟩:=jF q;have e1:=f1.ow hl1;rw[hl]at e1;cases e1;have I1:=(I.frz f1).same s1;obtain⟨a1,vs1,g1,g2,g3,g4⟩:=I1.ow i l hl1;rw[h1]at g1;cases g1;have rj:=r1.rep λa z=>I.avF f1 z
  rw[ej]at rj;have:=bK rj;subst this;obtain⟨v0,ev0,rv0⟩:=g4.get ex;have:=bK rv0;subst this;have hat:L2.atI vs1 kk=some (.int x0):=by unfold L2.atI;rw[<-g4.length,en];exact ev0
  refine⟨a,vs1,kk,_,rfl,rfl,SqL.of g2,hat,C,ρ1,_,I1,q,λb ρ2 w2 H2 q2 f2 s2 r2=> ?_⟩
  obtain⟨l2,hl2,y,eb,q2⟩:=jF q2;have e2:=f2.ow hl2;rw[hl1]at e2;cases e2;have I2:=(I1.frz f2).same s2;obtain⟨a2,vs2,k1,k2,k3,k4⟩:=I2.ow i l hl2;rw[h1]at k1;cases k1;have rb:=r2.rep λa z=>I1.avF f2 z
  rw[eb]at rb;have:=bK rb;subst this;exact⟨x0,y,rfl,rfl,a,vs2,kk,n,rfl,rfl,k2,by rw[<-k4.length];exact en,k.nx _ _ _ q2<|I2.write hl2 h1<|k4.set n<|show Rep _ _ _ _ _ by simp only[Rep]⟩
mutual
noncomputable def pd:D->Option PyData
 | .non=>some .none
 | .bl b=>some (.bool b)
 | .int i=>some (.int i)
 | .tup l=>(pdL l).map .tuple
 | .lst l=>(pdL l).map .list
 | .rol l=>(pdL l).map .list
 | .str _=>none
 | .ty _=>none
 | .obj _ _ _=>none
 | .adr _=>none
 | .xob _ _ _ _=>none
noncomputable def pdL:List D->Option (List PyData)
 | []=>some []
 | d::r=>(pd d).bind λx=>(pdL r).map (x::·)
end
theorem c54 {d:D}{r:List D}{xs:List PyData}(h:pdL (d::r)=some xs): ∃x ys,xs=x::ys/\pd d=some x/\pdL r=some ys:=by
 simp only[pdL]at h;cases e:pd d with
 | none=>rw[e]at h;cases h
 | some x=>
  rw[e]at h;cases e2:pdL r with
  | none=>rw[e2]at h;cases h
  | some ys=>rw[e2]at h;cases h;exact⟨x,ys,rfl,rfl,rfl⟩
theorem t9 {α β:Type}{o:Option α}{f:α->β}{y:β}(h:o.map f=some y): ∃x,o=some x/\y=f x:=by
 cases o with
 | none=>cases h
 | some x=>cases h;exact⟨x,rfl,rfl⟩
mutual
theorem cG8: ∀(d:D) {x:PyData},pd d=some x->x.canLay0=true
 | .non,x,h=>by simp only[pd]at h;cases h;rfl
 | .bl b,x,h=>by simp only[pd]at h;cases h;rfl
 | .int i,x,h=>by simp only[pd]at h;cases h;rfl
 | .tup l,x,h=>by simp only[pd]at h;obtain⟨xs,e,rfl⟩:=t9 h;simp only[PyData.canLay0];exact b78 l e
 | .lst l,x,h=>by simp only[pd]at h;obtain⟨xs,e,rfl⟩:=t9 h;simp only[PyData.canLay0];exact b78 l e
 | .rol l,x,h=>by simp only[pd]at h;obtain⟨xs,e,rfl⟩:=t9 h;simp only[PyData.canLay0];exact b78 l e
 | .str _,x,h=>by simp only[pd]at h;cases h
 | .ty _,x,h=>by simp only[pd]at h;cases h
 | .obj _ _ _,x,h=>by simp only[pd]at h;cases h
 | .adr _,x,h=>by simp only[pd]at h;cases h
 | .xob _ _ _ _,x,h=>by simp only[pd]at h;cases h
theorem b78: ∀(l:List D) {xs:List PyData},pdL l=some xs->PyData.canLayAll0 xs=true
 | [],xs,h=>by simp only[pdL]at h;cases h;rfl
 | d::r,xs,h=>by
  obtain⟨x,ys,rfl,e1,e2⟩:=c54 h;simp only[PyData.canLayAll0,dW];exact⟨cG8 d e1,b78 r e2⟩
end
section
variable {pins:List (Addr×Obj)}{s:Shared}
mutual
theorem aY5 (I:Inv X pins σ H s): ∀(d:D) {x:PyData} {v:V} {u:Value},pd d=some x->Rep X.K A H d v->RelV v u-> ∃as,Reads s.heap u x as
 | .non,x,v,u,h,r,q=>by simp only[pd]at h;cases h;simp only[Rep]at r;subst r;cases q;exact⟨_,.none⟩
 | .bl b,x,v,u,h,r,q=>by simp only[pd]at h;cases h;simp only[Rep]at r;subst r;cases q;exact⟨_,.bool b⟩
 | .int i,x,v,u,h,r,q=>by simp only[pd]at h;cases h;simp only[Rep]at r;subst r;obtain⟨t,rfl⟩:=q;exact⟨_,.int i t⟩
 | .tup l,x,v,u,h,r,q=>by
  simp only[pd]at h;obtain⟨xs,e,rfl⟩:=t9 h;simp only[Rep]at r;obtain⟨a,vs,rfl,c,rs⟩:=r;cases q;obtain⟨its,rv,⟨o,ho,hc,n,hd⟩,hz⟩:=I.tuple (c.imp cU id);obtain⟨as,ra⟩:=a06 I l e rs rv;exact⟨_,.tuple ho hc hd<|by simpa using ra⟩
 | .lst l,x,v,u,h,r,q=>by
  simp only[pd]at h;obtain⟨xs,e,rfl⟩:=t9 h;simp only[Rep]at r;obtain⟨a,vs,rfl,n0,c,rs⟩:=r;cases q;obtain⟨its,rv,p,hz⟩:=I.list (SqL.of c);obtain⟨o,ho,hc,n,hd⟩:=p.isList;obtain⟨as,ra⟩:=a06 I l e rs rv;exact⟨_,.list ho hc hd<|by simpa using ra⟩
 | .rol l,x,v,u,h,r,q=>by
  simp only[pd]at h;obtain⟨xs,e,rfl⟩:=t9 h;simp only[Rep]at r;obtain⟨a,vs,rfl,c,rs⟩:=r;cases q;obtain⟨its,rv,p,hz⟩:=I.list (c.imp cU id);obtain⟨o,ho,hc,n,hd⟩:=p.isList;obtain⟨as,ra⟩:=a06 I l e rs rv;exact⟨_,.list ho hc hd<|by simpa using ra⟩
 | .str _,x,v,u,h,r,q=>by simp only[pd]at h;cases h
 | .ty _,x,v,u,h,r,q=>by simp only[pd]at h;cases h
 | .obj _ _ _,x,v,u,h,r,q=>by simp only[pd]at h;cases h
 | .adr _,x,v,u,h,r,q=>by simp only[pd]at h;cases h
 | .xob _ _ _ _,x,v,u,h,r,q=>by simp only[pd]at h;cases h
theorem a06 (I:Inv X pins σ H s): ∀(l:List D) {xs:List PyData} {vs:List V} {us:List Value},pdL l=some xs->bL X.K A H l vs->Vals vs us-> ∃as,ReadsAll s.heap us xs as
 | [],xs,vs,us,h,r,q=>by simp only[pdL]at h;cases h;have:=r.unnil;subst this;cases q;exact⟨_,.nil⟩
 | d::l,xs,vs,us,h,r,q=>by
  obtain⟨x,ys,rfl,e1,e2⟩:=c54 h;obtain⟨v,vr,rfl,r1,rs⟩:=r.uncons;cases q with
  | cons q1 q2=>
   obtain⟨as,h1⟩:=aY5 I d e1 r1 q1;obtain⟨bs,h2⟩:=a06 I l e2 rs q2;exact⟨_,.cons h1 h2⟩
end
end
def gEqD (neg:Bool)(d e:D)(Q:B->Prop):Prop:= ∃p q,pd d=some p/\pd e=some q/\p.depth<=60/\Q (.pu<|.bl<|neg ^^ p.eqv q)
theorem ou_eqD (hu:X.A.units+64<cLine):OpU X (compareOp .Eq) (gEqD false):=by
 intro A H d e v w Q0 Q hA r1 r2 g k;obtain⟨p,q,e1,e2,hd,g⟩:=g;refine⟨λx y H Q=> ∃(A:AS) (d e:D) (p q:PyData),Rep X.K A H d x/\Rep X.K A H e y/\pd d=some p/\pd e=some q/\p.depth<=60/\Q (.bl<|p.eqv q) H,?_,A,d,e,p,q,r1,r2,e1,e2,hd,k _ _ H g (.refl _) (by rw[nP];exact mC)⟩
 rintro pins s σ H x y v u Q I rx ry ⟨A,d,e,p,q,r1,r2,e1,e2,hd,h⟩;obtain⟨as,ra⟩:=aY5 I d e1 r1 rx;obtain⟨bs,rb⟩:=aY5 I e e2 r2 ry;exact SeqAt.compareEq_reads ra rb (cG8 d e1) (cG8 e e2) ad ⟨.bl _,H,I,rfl,h⟩
def SqA (K:Frag)(A:AS)(H:Hp)(T:Bool)(a:Addr)(vs:List V):Prop:=match T with
 | false=>(¬A a/\Rd H a (.lst vs))\/KL K a vs
 | true=>(¬A a/\Rd H a (.tup vs))\/KT K a vs
theorem SqA.sqv {T:Bool}{a':Addr}{vs:List V}{A':AS}{H':Hp}(c:SqA K A H T a' vs)(P:mT A H A' H'):SqV K T H' a' vs:=by
 cases T<;>(rcases c with⟨n,c⟩|c;exact .inl (Rd.pres P n c).2;exact .inr c)
theorem mT.self:mT A H A H:=λ_ _ n e=>⟨n,e⟩
theorem Rep.sq {d:D}{v:V}{l:List D}(r:Rep K A H d v)(h:pB d=some l): ∃T a vs,v= .ref a/\SqA K A H T a vs/\bL K A H l vs:=by
 cases d with
 | tup l'=>cases h;simp only[Rep]at r;obtain⟨a,vs,e,c,r⟩:=r;exact⟨true,a,vs,e,c,r⟩
 | lst l'=>cases h;simp only[Rep]at r;obtain⟨a,vs,e,n,c,r⟩:=r;exact⟨false,a,vs,e,.inl ⟨n,.inl c⟩,r⟩
 | rol l'=>cases h;simp only[Rep]at r;obtain⟨a,vs,e,c,r⟩:=r;exact⟨false,a,vs,e,c,r⟩
 | _=>cases h
theorem bL.at {l:List D}{vs:List V}{i:Nat}(r:bL K A H l vs)(hi:i<l.length): ∃x,vs[i]? =some x/\Rep K A H (l.getD i .non) x:=r.get (by rw[aI,aO hi];rfl)
theorem d50 {T1 T2:Bool}{l1 l2:Addr}{vs ws:List V}{l m:List D}(c1:SqA K A H T1 l1 vs)(c2:SqA K A H T2 l2 ws)(r1:bL K A H l vs)(r2:bL K A H m ws) :
  c45 K A H (Itz K T1 T2 l1 l2) (min l.length m.length) (λi=> .tup [l.getD i .non,m.getD i .non]):=by
 have k1:=r1.length;have k2:=r2.length;refine⟨λA' H' i P hi=> ?_,λA' H' i x H'' P hA hi y=> ?_,λA' H' P=>⟨vs,ws,c1.sqv P,c2.sqv P,ad⟩⟩
 ·obtain⟨x,e1,_⟩:=r1.at (i:=i) ad
  obtain⟨y,e2,_⟩:=r2.at (i:=i) ad
  exact⟨vs,ws,x,y,c1.sqv P,c2.sqv P,e1,e2⟩
 ·obtain⟨x1,e1,q1⟩:=r1.at (i:=i) ad
  obtain⟨y1,e2,q2⟩:=r2.at (i:=i) ad
  obtain⟨T,a,b,rfl,hT,rfl,ha,hb⟩:=y;have ea:=ha vs (c1.sqv P);have eb:=hb ws (c2.sqv P);rw[e1]at ea;cases ea;rw[e2]at eb;cases eb;exact⟨eZ hT _,iT hA hT<|.cons (q1.mono P)<|.cons (q2.mono P) .nil⟩
theorem cV3 {T:Bool}{l1:Addr}{vs:List V}{l:List D}(c1:SqA K A H T l1 vs)(r1:bL K A H l vs):c45 K A H (Ite K T l1) l.length (λi=> .tup [.int (i:Int),l.getD i .non]):=by
 have k1:=r1.length;refine⟨λA' H' i P hi=> ?_,λA' H' i x H'' P hA hi y=> ?_,λA' H' P=>⟨vs,c1.sqv P,k1.symm⟩⟩
 ·obtain⟨x,e1,_⟩:=r1.at hi;exact⟨vs,x,c1.sqv P,e1⟩
 ·obtain⟨x1,e1,q1⟩:=r1.at hi;obtain⟨T,a,rfl,hT,rfl,ha⟩:=y;have ea:=ha vs (c1.sqv P);rw[e1]at ea;cases ea;exact⟨eZ hT _,iT hA hT<|.cons (show Rep _ _ _ _ _ by simp only[Rep])<|.cons (q1.mono P) .nil⟩
def dJ4 (ta:UA):UI:=λρ Q=>ta ρ λds ρ1=>match ds with
 | [d,e]=>(match pB d,pB e with
  | some l,some m=>Q (min l.length m.length) (λi=> .tup [l.getD i .non,m.getD i .non]) ρ1
  | _,_=>False)
 | _=>False
theorem d51 {elts:List Expr}{kt:Nat}{tp p:Pos}{ta:UA}(hg:Gl X "zip")(hm:X.mg "zip"=none)(ha:PUA X [a,b] ta)(hs:starEach [a,b] X.env=[(false,eval a X.env),(false,eval b X.env)]:=by rfl)(hs2:starEach [b] X.env=[(false,eval b X.env)]:=by rfl) :
  PUI X (.Tuple elts kt tp) (.Call (.Name "zip" p) [a,b] [] pos) (dJ4 ta):=
 b30 (pi_zip hg hm ha hs hs2) λσ H R ⟨C,ρ,Q0,I,h,k⟩=>⟨C,ρ,_,I,h,λds ρ1 vs H1 q f s r=>by
  split at q
  ·rename_i d e
   obtain⟨v,vr,rfl,rv,rr⟩:=r.uncons;obtain⟨w,wr,rfl,rw',rr'⟩:=rr.uncons;have:=rr'.unnil;subst this;split at q
   ·rename_i l m e1 e2
    obtain⟨T1,a1,us,rfl,c1,s1⟩:=rv.sq e1;obtain⟨T2,a2,ws,rfl,c2,s2⟩:=rw'.sq e2;exact⟨a1,a2,T1,T2,us,ws,rfl,c1.sqv .self,c2.sqv .self,k _ _ ρ1 _ H1 q f s<|d50 c1 c2 s1 s2⟩
   ·exact q.elim
  ·exact q.elim⟩
def cO9 (ta:UA):UI:=λρ Q=>ta ρ λds ρ1=>match ds with
 | [d]=>(match pB d with
  | some l=>Q l.length (λi=> .tup [.int (i:Int),l.getD i .non]) ρ1
  | none=>False)
 | _=>False
theorem cP0 {elts:List Expr}{kt:Nat}{tp p:Pos}{ta:UA}(hg:Gl X "enumerate")(hm:X.mg "enumerate"=none)(ha:PUA X [a] ta)(hs:starEach [a] X.env=[(false,eval a X.env)]:=by rfl) :
  PUI X (.Tuple elts kt tp) (.Call (.Name "enumerate" p) [a] [] pos) (cO9 ta):=
 b30 (dJ1 hg hm ha hs) λσ H R ⟨C,ρ,Q0,I,h,k⟩=>⟨C,ρ,_,I,h,λds ρ1 vs H1 q f s r=>by
  split at q
  ·rename_i d
   obtain⟨v,vr,rfl,rv,rr⟩:=r.uncons;have:=rr.unnil;subst this;split at q
   ·rename_i l e1
    obtain⟨T1,a1,us,rfl,c1,s1⟩:=rv.sq e1;exact⟨a1,T1,us,rfl,c1.sqv .self,k _ _ ρ1 _ H1 q f s<|cV3 c1 s1⟩
   ·exact q.elim
  ·exact q.elim⟩
def c55 (ta:UA):UI:=λρ Q=>ta ρ λds ρ1=>match ds with
 | [.int j]=>(-(2^31)<=j/\j<2^31)/\Q j.toNat (λk=> .int ((j.toNat:Int)-1-k)) ρ1
 | _=>False
theorem bV5 {tg:Expr}{ta:UA}{p q2 pos2:Pos}(hg:Gl X "reversed")(hm:X.mg "reversed"=none)(hg2:Gl X "range")(hm2:X.mg "range"=none)(ha:PUA X [a] ta)(hs:starEach [a] X.env=[(false,eval a X.env)]:=by rfl)
  (hs2:starEach [.Call (.Name "range" q2) [a] [] pos2] X.env=[(false,eval (.Call (.Name "range" q2) [a] [] pos2) X.env)]:=by rfl) :
  PUI X tg (.Call (.Name "reversed" p) [.Call (.Name "range" q2) [a] [] pos2] [] pos) (c55 ta):=
 b30 (c52 hg hm hg2 hm2 ha hs hs2) λσ H R ⟨C,ρ,Q0,I,h,k⟩=>⟨C,ρ,_,I,h,λds ρ1 vs H1 q f s r=>by
  split at q
  ·rename_i j
   obtain⟨v,vr,rfl,rv,rr⟩:=r.uncons;have:=rr.unnil;subst this;have:=bK rv;subst this;obtain⟨⟨h1,h2⟩,q⟩:=q;exact⟨j,rfl,h1,h2,k _ _ ρ1 _ H1 q f s bP8⟩
  ·exact q.elim⟩
end
end M
end
section
namespace M
open PySem PySem.Spec PyProof.Rows L2
end M
end
section
namespace L2
open PySem PySem.Spec PyProof.Rows
theorem aY6:fillsNumberSlot (.type "tuple") "mul"=pure false:=
 PySem.fillsNumberSlot_seq (id:="tuple.__mul__") (r:=some (.builtin "tuple.__rmul__")) PySem.F.slot_tuple_mul.lookup af PySem.F.slot_tuple_rmul.lookup af
theorem bV6:seqRepeat? (.type "tuple")=pure (some<|.builtin "tuple.__mul__"):=by
 unfold seqRepeat?;rw[PySem.seqSlot_of (T:="tuple") (name:="__mul__") (id:="tuple.__mul__") PySem.F.slot_tuple_mul.lookup af,PySem.seqSlot_of (T:="tuple") (name:="__rmul__") (id:="tuple.__rmul__") PySem.F.slot_tuple_rmul.lookup af]
 rfl
theorem bB3 (a:Int)(t:Tok)(l:Addr)(items:Array Value)(n:Nat)(dd:Option Addr)(sl:Array (Option Value)) :
  Meets (Builtin.«int.__rmul__» ⟨[.int a t,.ref l],[]⟩) (λ_ R s=>s.heap.get? l=some {cls:= .type "tuple",dict:=dd,data:= .seq items n,slots:=sl}/\R (.ok<|.ret Value.notImplemented) s):=
 .of_wp λprog w A R s h=>by obtain⟨hp,g,d,tk,os⟩:=s;obtain⟨hl,h⟩:=h;wp_walk using iE hl;exact⟨_,rfl,h⟩
theorem d52 (l:Addr)(items:Array Value)(n:Nat)(dd:Option Addr)(sl:Array (Option Value))(u:Tok) :
  Meets (Builtin.«tuple.__mul__» ⟨[.ref l,.int 1 u],[]⟩) (λ_ R s=>s.heap.get? l=some {cls:= .type "tuple",dict:=dd,data:= .seq items n,slots:=sl}/\R (.ok<|.ret<|.ref l) s):=
 .of_wp λprog w A R s h=>by
  obtain⟨hp,g,d,tk,os⟩:=s;obtain⟨hl,h⟩:=h;have f1:=zH
  wp_walk using iE hl
  exact⟨_,rfl,h⟩
theorem d53 (l:Addr)(items:Array Value)(n:Nat)(dd:Option Addr)(sl:Array (Option Value))(k:Int)(u:Tok)(h1: ¬(k< -(2^63)||k≥2^63)=true)(hne: ¬(items.isEmpty||k==1)=true)(h0:(k<=0||items.isEmpty)=true) :
  Meets (Builtin.«tuple.__mul__» ⟨[.ref l,.int k u],[]⟩) (λ_ R s=>s.heap.get? l=some {cls:= .type "tuple",dict:=dd,data:= .seq items n,slots:=sl}/\R (.ok<|.ret<|.ref s.heap.objs.size) {s with heap:=s.heap.push {cls:= .type "tuple",data:= .seq #[]}}):=
 .of_wp λprog w A R s h=>by
  obtain⟨hp,g,d,tk,os⟩:=s;obtain⟨hl,h⟩:=h;have f1:=zH
  wp_walk using iE hl
  rw[a6 h1]
  wp_walk using iE hl
  exact⟨_,rfl,h⟩
theorem d54 (l:Addr)(items:Array Value)(n:Nat)(dd:Option Addr)(sl:Array (Option Value))(k:Int)(u:Tok)(h1: ¬(k< -(2^63)||k≥2^63)=true)(hne: ¬(items.isEmpty||k==1)=true)(h0: ¬(k<=0||items.isEmpty)=true)
  (h2: ¬items.size*k>(2^63-1)/8) (h3: ¬Builtin.Tuple.tupleTooMany (items.size*k)=true) (hz:(foldl (λx1 x2=>x1++x2) #[] (replicate k.toNat items)).size<=sizeLine) :
  Meets (Builtin.«tuple.__mul__» ⟨[.ref l,.int k u],[]⟩) (λ_ R s=>s.heap.get? l=some {cls:= .type "tuple",dict:=dd,data:= .seq items n,slots:=sl}/\R (.ok<|.ret<|.ref s.heap.objs.size) {s with heap:=s.heap.push {cls:= .type "tuple",data:= .seq (foldl (λx1 x2=>x1++x2) #[] (replicate k.toNat items))}}):=
 .of_wp λprog w A R s h=>by
  obtain⟨hp,g,d,tk,os⟩:=s;obtain⟨hl,h⟩:=h;have f1:=zH
  wp_walk using iE hl
  rw[a6 h1]
  wp_walk using iE hl
  rw[a6 h2]
  wp_walk using iE hl
  all_goals first
   | exact⟨_,rfl,h⟩
   | (refine wpAny_ite_false (gK<|Nat.not_lt.mpr hz) ?_
      wp_walk using iE hl
      exact⟨_,rfl,h⟩)
section
variable {X:Cx}
theorem dJ5:OpR X (binaryOp .Mult) (λx y H Q=> ∃a k xs,x= .ref a/\y= .int k/\SqT X.K H a xs/\xs≠[]/\ -(2^63)<=k/\k<2^63/\xs.length*k.toNat<=sizeLine/\(k=1->Q (.ref a) H)/\(k≠1-> ∀p,H p=none->Q (.ref p) (upd H p<|.tup (replicate k.toNat xs).flatten))):=by
 intro pins s σ H x y v u Q I rx ry h;obtain⟨a,k,xs,rfl,rfl,ha,hn,h1,h2,hz,q1,q2⟩:=h;cases rx;obtain⟨t,rfl⟩:=ry;obtain⟨its,r,p1,_⟩:=I.tuple ha;have hl:=r.length;obtain⟨⟨cls,dd,data,sl⟩,ho,hc,n,hd⟩:=id p1;simp only at hc hd;subst hc hd;have ne:its≠[]:=λz=>hn (tF.mp (by rw[hl,z];rfl))
 have ne2:its.toArray.isEmpty=false:=by cases its with
  | nil=>exact absurd rfl ne
  | cons b r'=>rfl
 have hb: ¬(decide (k< -(2^63))||decide (k≥2^63))=true:=by simp;omega
 have f0: ∀m:Nat,foldl (λx1 x2=>x1++x2) #[] (replicate m its.toArray)=(replicate m its).flatten.toArray:=λm=>by
  have:=foldl_rep its m [];rw[zK]at this;exact this
 refine wpAny_binaryOp_repeat_ref (T:="tuple") (U:="int") ac ⟨_,ho,rfl⟩ (λs'=>pZ s' k t) aY6 PySem.F.fills_int_mul PySem.F.slot_int_rmul bV6 PySem.F.slot_int_index.lookup
  (k8 PySem.F.slot_int_rmul (pZ s k t) PySem.F.entry_int_rmul (PySem.F.args_int_rmul_2 _ _) (bB3 k t a its.toArray n dd sl) ⟨ho,rfl,⟨_,ho,rfl⟩,?_⟩)
 by_cases k1:k=1
 ·subst k1;exact k8 aL1 ⟨_,ho,rfl⟩ aK4 (aK1 _ _) (d52 a its.toArray n dd sl t) ⟨ho,.ref a,H,I,rfl,q1 rfl⟩
 have hne: ¬(its.toArray.isEmpty||k==1)=true:=by rw[ne2];simpa using k1
 by_cases k0:k<=0
 ·have e0:k.toNat=0:=aa
  refine k8 aL1 ⟨_,ho,rfl⟩ aK4 (aK1 _ _) (d53 a its.toArray n dd sl k t hb hne<|by simp[k0]) ⟨ho,?_⟩
  have q:=q2 k1;rw[e0]at q;exact⟨.ref _,_,I.laid (t':=s.toks) (o:= .tup []) (λb ob q=>aS _ q) (aE _) ⟨dN _,_,.nil,qA _ _⟩,rfl,q _ I.fresh⟩
 ·have ek:k=(k.toNat:Int):=aa
  have em:(its.toArray.size:Int)*k=((its.toArray.size*k.toNat:Nat):Int):=by rw[aO0,<-ek]
  have hs:its.toArray.size*k.toNat<=sizeLine:=by rw[b6,<-hl];exact hz
  have hcap:(sizeLine:Nat)<=(2^63-1)/8:=ac
  refine k8 aL1 ⟨_,ho,rfl⟩ aK4 (aK1 _ _) (d54 a its.toArray n dd sl k t hb hne (by rw[ne2];simp;omega) (by rw[em];omega) (by rw[em];unfold Builtin.Tuple.tupleTooMany;rw[fW];omega) (by rw[f0,b6,bU5,mul_comm];simpa using hs)) ⟨ho,?_⟩
  rw[f0];exact⟨.ref _,_,I.laid (t':=s.toks) (o:= .tup (replicate k.toNat xs).flatten) (λb ob q=>aS _ q) (aE _) ⟨by rw[bU5,mul_comm];exact hz,_,r.rep k.toNat,qA _ _⟩,rfl,q2 k1 _ I.fresh⟩
end
end L2
end
section
namespace L2
open PySem PySem.Spec PyProof.Rows
theorem d55:typeLookup (.type "tuple") "__reversed__"=pure none:=by rw[zM,zA];kernel_rfl
theorem sub_tuple_dict:isSubtype (.type "tuple") (.type "dict")=pure false:=by rw[pU];kernel_rfl
theorem bQ0:Manifest.owners.lookup (String.ofList ['d','e','s','r','e','v','e','r'].reverse)=some Manifest.sig_reversed:=by kernel_rfl
theorem mW:Slot "reversed" "__next__" "reversed.__next__":=
 .of (owner:="reversed") (n:="__next__") (by rw[zM,zA];kernel_rfl) af af af
  (by first|exact .inl af|exact .inr af) (by rw[pU];kernel_rfl)
theorem a84:entryFor table "reversed.__next__"=some Builtin.«reversed.__next__» :=entryFor_of_tree (by kernel_rfl)
theorem a55 (a:Value):argsOk "reversed.__next__" ⟨[a],[]⟩:=by
 unfold argsOk;rw[signature?_of (id:="reversed.__next__") (n:=['_','_','t','x','e','n','_','_']) (o:=['d','e','s','r','e','v','e','r']) (by kernel_rfl) bQ0];kernel_rfl
theorem aH3:Slot "reversed" "__iter__" "reversed.__iter__":=
 .of (owner:="reversed") (n:="__iter__") (by rw[zM,zA];kernel_rfl) af af af
  (by first|exact .inl af|exact .inr af) (by rw[pU];kernel_rfl)
theorem b53 (a:Value):argsOk "reversed.__iter__" ⟨[a],[]⟩:=by
 unfold argsOk;rw[signature?_of (id:="reversed.__iter__") (n:=['_','_','r','e','t','i','_','_']) (o:=['d','e','s','r','e','v','e','r']) (by kernel_rfl) bQ0];kernel_rfl
theorem bB4:entryFor table "reversed.__iter__"=some Builtin.«dict_keyiterator.__iter__» :=
 entryFor_alias (id':="dict_keyiterator.__iter__") (by kernel_rfl) (by first|rfl|decide +kernel| (unfold String.splitOn;simp +decide [String.splitOnAux])) af (by kernel_rfl)
theorem bK2:Slot "reversed" "__init__" "object.__init__":=
 .of (owner:="object") (n:="__init__") (by rw[zM,zA];kernel_rfl) af af af
  (by first|exact .inl af|exact .inr af) (by rw[pU];kernel_rfl)
theorem cG9:TypeCalled "reversed" "reversed.__new__" "object.__init__":=
 ⟨af,af,⟨_,_,PySem.F.mro_reversed⟩,PySem.F.made_reversed,af,by rw[pU];kernel_rfl,bK2⟩
theorem dJ6 (l:Addr)(items:Array Value)(hfit:(items.size:Int)<2^63) :
  Meets (Builtin.«reversed.__new__» ⟨[.type "reversed",.ref l],[]⟩) (λ_ R s=>s.heap.IsTuple l items/\R (.ok<|.ret<|.ref s.heap.objs.size) {s with heap:=s.heap.push {cls:= .type "reversed",data:= .fields #[.ref l,rawInt<|(items.size:Int)-1]},toks:=s.toks+1+1}):=
 .of_wp λprog w A R s h=>by
  obtain⟨hp,g,d,tk,os⟩:=s;obtain⟨ht,h⟩:=h;obtain⟨⟨c,dct,dt,sl⟩,hl,hc,n,hd⟩:=id ht
  replace hc:c= .type "tuple":=hc
  replace hd:dt= .seq items n:=hd
  subst hc hd;have f1:=PySem.F.sub_reversed_self;have f2:=d55;have f4:=PySem.F.slot_tuple_getitem.lookup;have f5:=sub_tuple_dict;have e1:IsTup (Shared.heap ⟨hp,g,d,tk,os⟩) l items:=ht
  wp_walk using iE hl,PyProof.Rows.len_tuple e1 hfit
  exact⟨_,rfl,h⟩
def uA (h:Heap)(a l:Addr)(i:Int):Prop:= ∃o,h.get? a=some o/\o.cls= .type "reversed"/\o.data= .fields #[.ref l,rawInt i]
theorem uA.at {h h':Heap}{a l:Addr}{i:Int}(x:uA h a l i)(e: ∀o,h.get? a=some o->h'.get? a=some o):uA h' a l i:=let ⟨o,ho,r⟩:=x;⟨o,e _ ho,r⟩
section
variable {prog:Program}{w:World}{A:Around}{E:Value->Shared->Prop}{s:Shared}
theorem uA.typeIs {a l:Addr}{i:Int}(x:uA s.heap a l i):s.TypeIs (.ref a) "reversed":=let ⟨o,ho,hc,_⟩:=x;⟨o,ho,hc⟩
theorem d56 {l:Addr}{items:Array Value}{Q:Value->Shared->Prop}(hl:s.heap.IsTuple l items)(hfit:(items.size:Int)<2^63)
  (h:Q (.ref s.heap.objs.size) {s with heap:=s.heap.push {cls:= .type "reversed",data:= .fields #[.ref l,rawInt<|(items.size:Int)-1]},toks:=s.toks+1+1}) :
  wpAny (model prog w) A (call (.type "reversed") [.ref l]) Q E s:=
 callType_new cG9 ac (PySem.F.typeCall_reversed_1 _) (PySem.F.newCall_reversed_1 _) (λobj=>PySem.F.args_object_init_2 obj _) PySem.F.entry_reversed_new (dJ6 l items hfit) ⟨hl,⟨_,bU _ rfl,rfl⟩,h⟩
theorem bB5 {it l:Addr}{i:Int}{Q:Value->Shared->Prop}(hit:uA s.heap it l i)(h:Q (.ref it) s):wpAny (model prog w) A (pyIter<|.ref it) Q E s:=by
 refine wpAny_pyIter_slot hit.typeIs aH3 (j0 aH3 hit.typeIs bB4 ?_<|b53 _)
 show wpAny _ _ (ret<|.ref it) _ _ s
 exact aH ⟨_,rfl,"reversed",_,hit.typeIs,mW.lookup,h⟩
theorem d57 {it l:Addr}{i:Nat}{items:Array Value}{x:Value}{Q:Option Value->Shared->Prop}(hit:uA s.heap it l (i:Int))(hl:s.heap.IsTuple l items)(hx:items[i]? =some x)(hfit:(i:Int)<2^63)
  (hQ: ∀h' tk,uA h' it l ((i:Int)-1)->SameBut it s.heap h'->Q (some x) {s with heap:=h',toks:=tk}):wpAny (model prog w) A (pyNext<|.ref it) Q E s:=by
 obtain⟨o,ho,hc,hd⟩:=id hit;have hlt:i<items.size:=(Array.getElem?_eq_some_iff.mp hx).1;have hi:seqIndex? (i:Int) items.size=some i:=by
  unfold seqIndex?;simp
  lia
 have tl:s.TypeIs (.ref l) "tuple":=hl.typeIs;unfold pyNext;refine a8 (tT (kR (name:=Str.ofString "__next__") hit.typeIs mW
  (j0 mW hit.typeIs a84 ?_<|a55 _)))
 unfold Builtin.«reversed.__next__»;refine a8 (k7 (a:=(Value.ref it,[])) rfl ?_);try dsimp only
 refine a8 (d6 ho hd (x:= .ref l) rfl ?_)
 refine a8 (d6 ho hd (x:=rawInt (i:Int)) rfl ?_)
 show wpAny _ _ (if(i:Int)<0 then _ else _) _ _ s
 rw[a6 ad]
 try dsimp only
 refine a8 (wpAny_specialOf tl PySem.F.slot_tuple_getitem.lookup ?_)
 try dsimp only
 rw[a6 ae]
 refine a8 (wpAny_mkInt ?_)
 have ht:IsTup s.heap l items:=hl;refine a8 (tT<|PyProof.Rows.getItem_tuple (s:={s with toks:=s.toks+1}) ht ad hfit hi hx ?_)
 try dsimp only
 refine a8 (d6 ho hd (x:=rawInt (i:Int)) rfl ?_)
 show wpAny _ _ (setField (.ref it) 1 (rawInt<|(i:Int)-1) >>= _) _ _ _
 refine a8 (tQ ho hd ae ?_)
 refine aH ⟨x,rfl,aH<|hQ _ _ ?_<|tJ ..⟩
 exact⟨_,pJ _ ho<|aL2<|pP hd _,(Obj.cls_mapFields ..).trans hc,by
  rw[pP hd];simp⟩
theorem dJ7 {it l:Addr}{Q:Option Value->Shared->Prop}(hh:A.handled=none)(hit:uA s.heap it l (-1))
  (hQ: ∀h',ExtBut it s.heap h'->Q none {s with heap:=h'}):wpAny (model prog w) A (pyNext<|.ref it) Q E s:=by
 obtain⟨o,ho,hc,hd⟩:=id hit;unfold pyNext;refine a8 (tT (kR (name:=Str.ofString "__next__") hit.typeIs mW
  (j0 mW hit.typeIs a84 ?_<|a55 _)))
 unfold Builtin.«reversed.__next__»;refine a8 (k7 (a:=(Value.ref it,[])) rfl ?_);try dsimp only
 refine a8 (d6 ho hd (x:= .ref l) rfl ?_)
 refine a8 (d6 ho hd (x:=rawInt (-1)) rfl ?_)
 show wpAny _ _ (if(-1:Int)<0 then _ else _) _ _ s
 rw[a7 ac]
 refine a8 (nU ?_)
 refine a8 ?_
 show wpAny _ _ (setField (.ref it) 1 (rawInt<|-1) >>= λ_=>setField (.ref it) 0 .none) _ _ s
 refine a8 (tQ ho hd ae ?_)
 refine tQ (pJ _ ho<|aL2<|pP hd _) (pP hd _) ae ?_
 first
 | show wpAny _ _ (newExc (.type "StopIteration") [] >>= _) _ _ _
 | (refine a8 ?_;show wpAny _ _ (newExc (.type "StopIteration") [] >>= _) _ _ _)
 refine a8 ?_
 simp only[newExc,newTuple];refine a8 (iZ ?_<|by size_fits)
 refine a8 (m:=firstArgMember _ _) (k7 (a:=Value.none) (by first|rfl| (simp only[firstArgMember];rfl)) ?_)
 refine iZ ?_ (by size_fits)
 simp only[raiseNew];refine a8 (wpAny_handled ?_)
 first|rw[show A.in1.handled=none from hh]|rw[hh]
 refine a8 (aH<|wpAny_throw ?_)
 refine a8 (wpAny_isInstance (T:="StopIteration") (b:=true) ⟨_,bU _ rfl,rfl⟩ isSubtype_stop ?_)
 refine aH (hQ _ ?_)
 exact((((tJ ..).trans<|tJ ..).extBut.push _).push _)
end
noncomputable def Itv (K:Frag)(l:Addr)(n:Nat):It where
 go:=λi H=>i<n/\ ∃xs,SqT K H l xs/\xs.length=n
 yld:=λi H v H'=>H'=H/\ ∀xs,SqT K H l xs->xs[n-1-i]? =some v
 stop:=λi H=>i=n
theorem d58 {P:Program}{w:World}{K:Frag}{tg:Expr}{it l:Addr}(n:Nat)(hz:n<=sizeLine):c32 P w K tg (Itv K l n) [it] it (λi h=>uA h it l ((n:Int)-1-(i:Int))) where
 mem:=ae
 obj:=λi h st b hb=>by
  have e:b=it:=by simpa using hb
  subst e;obtain⟨o,ho,_,hd⟩:=st;exact⟨o,ho,λv z=>by rw[hd]at z;cases z⟩
 keep:=λi h h' st k=>st.at λo e=>k it ae _ e
 item:=by
  intro X hP hw hK hc i pins s σ H E I hf st hg;subst hP hw hK;obtain⟨f0,f1,f2,f3,f4,f5⟩:=hf it ae
  obtain⟨hi,xs,hq,hl⟩:=hg;obtain⟨its,r,p,_⟩:=I.tuple hq;have hlen:=r.length;have hx:xs[n-1-i]? =some (xs[n-1-i]'ad):=aO ad
  obtain⟨u1,hu1,ru1⟩:=r.get hx;have e1:(n:Int)-1-(i:Int)=((n-1-i:Nat):Int):=ad
  have st':=st;rw[e1]at st';have big:(sizeLine:Int)<2^63:=ac
  refine d57 (items:=its.toArray) (x:=u1) st' p (by simpa using hu1) ad λh' tk hr m=> ?_
  have I1:Inv X pins σ H {s with heap:=h',toks:=tk}:=I.turned (λb o hb e=>m.extBut _ _ (by simpa using hb) e) f0 f1 f3 f4 f5
  have e2:((n-1-i:Nat):Int)-1=(n:Int)-1-((i+1:Nat):Int):=ad
  rw[e2]at hr;obtain⟨o,ho,hoc,hod⟩:=id hr;exact⟨_,rfl,c33 (s:={s with heap:=h',toks:=tk}) (n:="reversed") ho hoc hod ac ⟨xs[n-1-i]'ad,H,I1,ru1,⟨rfl,λys hy=>by rw[I.tuple_inj hy hq];exact hx⟩,hr,λb hb=>(hf b hb).1⟩⟩
 done:=by
  intro X hP hw hK hc i pins s σ H E I hf st hg;subst hP hw hK;obtain⟨f0,f1,f2,f3,f4,f5⟩:=hf it ae
  have hg':i=n:=hg;have st':=st;rw[hg',show(n:Int)-1-(n:Int)= -1 by lia]at st'
  exact dJ7 (I.ok.hd hc) st' λh' eb=>⟨rfl,I.turned (t':=s.toks) (λb o hb e=>eb b o hb e) f0 f1 f3 f4 f5⟩
 self:=λ_ _ _ _ _ st h=>bB5 st h
section
variable {X:Cx}{tg:Expr}
def iRevT (K:Frag)(ta:TA):TI:=λσ H R=>ta σ H λvs H1=> ∃l xs,vs=[.ref l]/\SqT K H1 l xs/\R (Itv K l xs.length) H1
theorem dJ8 {a:Expr}{ta:TA}{p pos:Pos}(hg:Gl X "reversed")(hm:X.mg "reversed"=none)(ha:PA X [a] ta)(hs:starEach [a] X.env=[(false,eval a X.env)]:=by rfl) :
  PI X tg (.Call (.Name "reversed" p) [a] [] pos) (iRevT X.K ta):=by
 intro pins s σ H R I h;refine Call_ (u4 I hg hm PyProof.Rows.boot_reversed<|jS (thn (ha pos pins s σ H _ I h) λus s1 ⟨vs,H1,I1,r1,q1⟩=> ?_) hs rfl)
 obtain⟨l,xs,e,q1,q⟩:=q1;subst e;obtain⟨u,rfl,r⟩:=vals1 r1;cases r;obtain⟨its,rv,p1,hz⟩:=I1.tuple q1;have hl:=rv.length;have big:(sizeLine:Int)<2^63:=ac
 refine d56 p1 (by rw[b6];lia) ?_
 have hi:uA (s1.heap.push {cls:= .type "reversed",data:= .fields #[.ref l,rawInt<|(its.toArray.size:Int)-1]}) s1.heap.objs.size l ((xs.length:Int)-1-((0:Nat):Int)):=⟨_,bU _ rfl,rfl,by
  rw[b6,hl];simp⟩
 refine bB5 (s:={s1 with heap:=s1.heap.push {cls:= .type "reversed",data:= .fields #[.ref l,rawInt<|(its.toArray.size:Int)-1]},toks:=s1.toks+1+1}) hi ?_
 refine⟨_,[s1.heap.objs.size],_,_,H1,rfl,I1.kept (t':=s1.toks+1+1) λb o e=>aS _ e,d58 xs.length hz,hi,λb hb=> ?_,q⟩
 have e:b=s1.heap.objs.size:=by simpa using hb
 subst e;exact I1.fpOk (aE _) (I1.hok.fresh<|aE _)
end
end L2
namespace M
open PySem PySem.Spec PyProof.Rows L2
section
variable {X:Cx}{A:AS}{H:Hp}{K:Frag}{pos:Pos}{a:Expr}
theorem cV4 {l1:Addr}{vs:List V}{l:List D}(c1:SqA K A H true l1 vs)(r1:bL K A H l vs):c45 K A H (Itv K l1 vs.length) l.length (λi=>l.getD (l.length-1-i) .non):=by
 have k1:=r1.length;refine⟨λA' H' i P hi=>⟨aa,vs,c1.sqv P,rfl⟩,λA' H' i x H'' P hA hi y=> ?_,λA' H' P=>k1⟩
 obtain⟨x1,e1,q1⟩:=r1.at (i:=l.length-1-i) aa
 obtain⟨e,ha⟩:=y;subst e;have ea:=ha vs (c1.sqv P);rw[<-k1,e1]at ea;cases ea;exact⟨.refl _,q1.mono P⟩
def d59 (ta:UA):UI:=λρ Q=>ta ρ λds ρ1=>match ds with
 | [.tup l]=>Q l.length (λi=>l.getD (l.length-1-i) .non) ρ1
 | _=>False
theorem dJ9 {tg:Expr}{p:Pos}{ta:UA}(hg:Gl X "reversed")(hm:X.mg "reversed"=none)(ha:PUA X [a] ta)(hs:starEach [a] X.env=[(false,eval a X.env)]:=by rfl) :
  PUI X tg (.Call (.Name "reversed" p) [a] [] pos) (d59 ta):=
 b30 (dJ8 hg hm ha hs) λσ H R ⟨C,ρ,Q0,I,h,k⟩=>⟨C,ρ,_,I,h,λds ρ1 vs H1 q f s r=>by
  split at q
  ·rename_i l
   obtain⟨v,vr,rfl,rv,rr⟩:=r.uncons;have:=rr.unnil;subst this;simp only[Rep]at rv;obtain⟨a1,us,rfl,c1,s1⟩:=rv;have c2:SqA _ _ _ true a1 us:=c1;exact⟨a1,us,rfl,c2.sqv .self,k _ _ ρ1 _ H1 q f s<|cV4 c2 s1⟩
  ·exact q.elim⟩
def bQ1 (d e:D)(Q:B->Prop):Prop:=match d,e with
 | .tup l,.int k=>(l≠[]/\ -(2^63)<=k/\k<2^63/\l.length*k.toNat<=sizeLine)/\Q (.pu<|.tup (replicate k.toNat l).flatten)
 | _,_=>False
theorem bV7:OpU X (binaryOp .Mult) bQ1:=by
 intro A H d e v w Q0 Q hA r1 r2 g k;unfold bQ1 at g;split at g
 ·rename_i l kk
  have:=bK r2;subst this;simp only[Rep]at r1;obtain⟨a,vs,rfl,c1,rs1⟩:=r1;obtain⟨⟨h0,h1,h2,h3⟩,g⟩:=g;refine⟨_,dJ5,a,kk,vs,rfl,rfl,c1.imp cU id,λz=>h0 ?_,h1,h2,by rw[<-rs1.length];exact h3,λz=> ?_,λz p n=>k _ _ _ g (eZ n _) (iT hA n<|rs1.rep _)⟩
  ·have:=rs1.length;rw[z]at this;exact tF.mp this
  ·subst z;refine k _ _ H g (.refl _) ?_;show Rep X.K A H (.tup _) (.ref a);simp only[Rep];exact⟨a,vs,rfl,c1,by simpa using rs1⟩
 ·exact g.elim
end
end M
end
section
namespace M
open PySem PySem.Spec PyProof.Rows L2
section
variable {X:Cx}
theorem bB6 {K:Frag}{A:AS}{H:Hp}: ∀r:List Int,bL K A H (r.map D.int) (r.map V.int)
 | []=> .nil
 | a::r=> .cons (by simp only[Rep]) (bB6 r)
theorem dK0 {x:Str}{a:Addr}{r:List Int}{p:Pos}(hg:Gl X x)(hm:X.mg x=some (.ref a))(hk:KT X.K a (r.map V.int))(hd:(x==("__debug__":Str))=false:=by decide):PU X (.Name x p) (uC<|.tup<|r.map .int):=
 bU6 (cN1 (v:= .ref a) hg hm rfl hd) λA H=>by
  simp only[Rep];exact⟨a,r.map V.int,rfl,.inr hk,bB6 r⟩
theorem kt_of {K:Frag}{a:Addr}{od:Option Addr}{its:Array Value}{n:Nat}{sl:Array (Option Value)}{vs:List V}(hl:K.lookup a=some ⟨.type "tuple",od,.seq its n,sl⟩)(hz:its.size<=sizeLine)(hv:Vals vs its.toList):KT K a vs:=
 ⟨_,its,n,hl,rfl,rfl,hz,hv⟩
end
end M
end
section
namespace L2
open PySem PySem.Spec PyProof.Rows
section
variable {X:Cx}
theorem cH0 (hc:X.calm=true):oZ X (.builtin "any") (λxs H Q=> ∃(p:Addr) (bs:List Bool),xs=[.ref p]/\SqL X.K H p (bs.map V.bl)/\Q (.bl<|bs.any id) H):=by
 intro pins s σ H xs us Q I r h;obtain⟨p,bs,rfl,hq,q⟩:=h;obtain⟨u,rfl,rx⟩:=vals1 r;cases rx;obtain⟨its,rv,pl,hz⟩:=I.list hq;have ba:=cO7 rv;refine call_any_walk (zF pl.isList ?_);have hne:p≠s.heap.objs.size:=by
  obtain⟨o,n,e,_⟩:=pl;exact bD (aT e)
 refine⟨s.heap.objs.size,_,_,_,_,_,λi=>(bs[i]?).getD false,rfl,Walks.list (A:=X.A.in1) (I.ok.hd hc) s.heap.objs.size p (λz=>hne z) its.toArray,⟨⟨_,bU _ rfl,rfl,rfl⟩,pl.isList.push _⟩,?_,λh' tk hk=> ?_⟩
 ·intro i v s' Q' E' hP hQ;obtain⟨b,hb,rfl⟩:=ba.get i v (by simpa using hP)
  refine kU ?_
  dsimp only at hQ;rw[hb]at hQ;exact hQ
 ·have e:=LSm.range_any bs;have hl:=ba.length;have e2:its.toArray.size=bs.length:=by rw[b6,hl]
  rw[e2,e];exact⟨.bl<|bs.any id,H,I.kept λb o e=>hk b o (by simpa using bD (aT e)) (aS _ e),rfl,q⟩
end
end L2
namespace M
open PySem PySem.Spec PyProof.Rows L2
section
variable {X:Cx}
def gAny:List D->(B->Prop)->Prop:=g1 λd Q=>match d with
 | .lst l=>(match wJ l with
  | some bs=>Q (.pu<|.bl<|bs.any id)
  | none=>False)
 | _=>False
theorem cu_any (hc:X.calm=true):vL X (.builtin "any") gAny:=by
 intro A H ds vs Q0 Q hA r g k;obtain⟨d,v,rfl,rfl,rv,g⟩:=a79 g r;cases d with
 | lst l=>
  dsimp only at g;cases e:wJ l with
  | none=>rw[e]at g;exact g.elim
  | some bs=>
   rw[e]at g;simp only[Rep]at rv;obtain⟨a,vs,rfl,n,c,rs⟩:=rv;rw[aO6 e rs]at c;exact⟨_,cH0 hc,a,bs,rfl,SqL.of c,k _ _ H g (.refl _) mC⟩
 | _=>exact(show False from g).elim
theorem bt_any:bootBuiltins "any"=some (.builtin "any"):=af
end
end M
end
section
namespace L2
open PySem PySem.Spec PyProof.Rows
end L2
namespace M
open PySem PySem.Spec PyProof.Rows L2
section
variable {X:Cx}{a:Expr}{pos:Pos}{ta:UE}
noncomputable def D.isN:D->Bool
 | .non=>true
 | _=>false
theorem cP1 {K:Frag}{A:AS}{H:Hp}: ∀{d:D} {v:V},Rep K A H d v->decide (v= .non)=d.isN
 | .non,v,h=>by simp only[Rep]at h;subst h;rfl
 | .bl _,v,h=>by simp only[Rep]at h;subst h;rfl
 | .int _,v,h=>by simp only[Rep]at h;subst h;rfl
 | .str _,v,h=>by simp only[Rep]at h;subst h;rfl
 | .ty _,v,h=>by simp only[Rep]at h;subst h;rfl
 | .tup _,v,h=>by simp only[Rep]at h;obtain⟨a,vs,rfl,_⟩:=h;rfl
 | .lst _,v,h=>by simp only[Rep]at h;obtain⟨a,vs,rfl,_⟩:=h;rfl
 | .rol _,v,h=>by simp only[Rep]at h;obtain⟨a,vs,rfl,_⟩:=h;rfl
 | .obj _ _ _,v,h=>by simp only[Rep]at h;obtain⟨a,dx,vs,rfl,_⟩:=h;rfl
 | .adr _,v,h=>by simp only[Rep]at h;subst h;rfl
 | .xob _ _ _ _,v,h=>by simp only[Rep]at h;obtain⟨vs,rfl,_⟩:=h;rfl
def bK3 (neg:Bool)(t:UE):UE:=λρ Q=>t ρ λb ρ1=>Q (.pu<|.bl<|neg ^^ b.d.isN) ρ1
theorem lIsN (σ:L2.St)(H:Hp)(Q:VK)(h:lE X.K (bK3 false ta) σ H Q):tIsN (lE X.K ta) σ H Q:=by
 obtain⟨C,ρ,Q0,I,h,k⟩:=h;refine⟨C,ρ,_,I,h,λb ρ' v H' q f s r=> ?_⟩
 have e:=cP1 (r.rep λa z=>I.avF f z)
 refine k _ ρ' _ H' q f s ?_
 show Rep _ _ _ _ _
 simp only[Rep,nP];rw[e]
theorem lNotN (σ:L2.St)(H:Hp)(Q:VK)(h:lE X.K (bK3 true ta) σ H Q):dQ3 (lE X.K ta) σ H Q:=by
 obtain⟨C,ρ,Q0,I,h,k⟩:=h;refine⟨C,ρ,_,I,h,λb ρ' v H' q f s r=> ?_⟩
 have e:=cP1 (r.rep λa z=>I.avF f z)
 refine k _ ρ' _ H' q f s ?_
 show Rep _ _ _ _ _
 simp only[Rep,pV];rw[e]
theorem bV8 {j pos'}(ha:PU X a ta):PUT X (.Compare a [.Is] [.Constant .none j pos'] pos) (gA<|bK3 false ta):=c42 (d01<|pc_isN ha) λσ H Q h=>lIsN σ H _ (dH2 σ H Q h)
theorem c56 {j pos'}(ha:PU X a ta):PUT X (.Compare a [.IsNot] [.Constant .none j pos'] pos) (gA<|bK3 true ta):=c42 (d01<|dF1 ha) λσ H Q h=>lNotN σ H _ (dH2 σ H Q h)
end
end M
end
section
namespace M
open PySem PySem.Spec PyProof.Rows L2
mutual
noncomputable def D.nl:D->Bool
 | .tup l=>D.nls l
 | .lst _=>false
 | .rol _=>false
 | .obj _ _ _=>false
 | .adr _=>false
 | .xob _ _ _ _=>false
 | .non=>true
 | .bl _=>true
 | .int _=>true
 | .str _=>true
 | .ty _=>true
noncomputable def D.nls:List D->Bool
 | []=>true
 | d::l=>d.nl&&D.nls l
end
theorem c57: ∀r:List Int,D.nls (r.map D.int)=true
 | []=>by simp only[jX,D.nls]
 | a::r=>by simp only[dJ,D.nls,D.nl,c57 r,Bool.and_true]
section
variable {K:Frag}{A A':AS}{H H':Hp}
mutual
theorem Rep.nl (p: ∀a vs,¬A a->Rd H a (.tup vs)-> ¬A' a/\Rd H' a (.tup vs)): ∀{d:D} {v:V},d.nl=true->Rep K A H d v->Rep K A' H' d v
 | .non,_,_,h=>h
 | .bl _,_,_,h=>h
 | .int _,_,_,h=>h
 | .str _,_,_,h=>h
 | .ty _,_,_,h=>h
 | .tup l,v,q,h=>by
  simp only[Rep]at h⊢;obtain⟨a,vs,e,c,r⟩:=h;simp only[D.nl]at q;refine⟨a,vs,e,?_,bL.nl p q r⟩;rcases c with⟨n,c⟩|c
  ·exact .inl (p a vs n c)
  ·exact .inr c
 | .lst _,_,q,_=>by simp only[D.nl]at q;cases q
 | .rol _,_,q,_=>by simp only[D.nl]at q;cases q
 | .obj _ _ _,_,q,_=>by simp only[D.nl]at q;cases q
 | .adr _,_,q,_=>by simp only[D.nl]at q;cases q
 | .xob _ _ _ _,_,q,_=>by simp only[D.nl]at q;cases q
theorem bL.nl (p: ∀a vs,¬A a->Rd H a (.tup vs)-> ¬A' a/\Rd H' a (.tup vs)): ∀{l:List D} {vs:List V},D.nls l=true->bL K A H l vs->bL K A' H' l vs
 | [],_,_,h=>by simp only[bL]at h ⊢; exact h
 | d::ds,vs,q,h=>by
  simp only[bL]at h⊢;simp only[D.nls,dW]at q;obtain⟨v,vr,e,r,rs⟩:=h;exact⟨v,vr,e,Rep.nl p q.1 r,bL.nl p q.2 rs⟩
end
end
noncomputable def ltL:List Int->List Int->Bool
 | [],[]=>false
 | [],_::_=>true
 | _::_,[]=>false
 | a::x,b::y=>if a=b then ltL x y else decide (a<b)
section
variable {prog:Program}{w:World}{A:Around}{E:Value->Shared->Prop}{s:Shared}
theorem d60 {a:Addr}{u v:Value}{n:Nat}{lt:Bool}{P:PySem.Fin->Shared->Prop}(ho:s.heap.get? a=some (seqObj "list" [u,v].toArray n))
  (hy: ∀h':Heap,(∀b o,b≠a->s.heap.get? b=some o->h'.get? b=some o)-> ∃κ:SortKind,
   (∀Q:SortKind->Shared->Prop,Q κ {s with heap:=h'}->wpAny (model prog w) A (keyKind' [u,v].toArray) Q (λ_ _=>False) {s with heap:=h'})/\
   (∀Q:Bool->Shared->Prop,Q lt {s with heap:=h'}->wpAny (model prog w) A (keyLt' κ v u) Q (λ_ _=>False) {s with heap:=h'}))
  (fi:P (.done<|.ret .none) {s with heap:=sortedHeap s.heap a [u,v] (if lt=true then [v,u].toArray else [u,v].toArray)}) :
  wpAny (model prog w) A (Builtin.«list.sort» ⟨[.ref a],[]⟩) P E s:=by
 rw[list_sort_plain];have la:a<s.heap.objs.size:=aT ho;refine a8 (listItems_at ho rfl ?_);refine a8 (listUpdate_at ho rfl ?_ (show 2<=sizeLine by decide) (dN _))
 obtain⟨c1,h1⟩: ∃c1,(s.heap.update a<|Obj.mapSeq λ_=> #[]).get? a=some (seqObj "list" #[] c1):=⟨_,get?_update_seq ho λ_=> #[]⟩
 refine a8 (seqEpoch_at h1 rfl ?_)
 refine a8 (wpAny_newTuple ?_<|show 2<=sizeLine by decide)
 refine a8 (wpAny_newList ?_<|dN _)
 refine j3 ?_
 have h6:(((s.heap.update a<|Obj.mapSeq λ_=> #[]).push<|seqObj "tuple" [u,v].toArray 0).push<|seqObj "list" #[] 0).get? a=some (seqObj "list" #[] c1):=by
  rw[pR _ _ _ (by rw[size_push',tO];exact bD (kW la))]
  rw[pR _ _ _ (by rw[tO];exact bD la)]
  exact h1
 have kp: ∀b o,b≠a->s.heap.get? b=some o->(((s.heap.update a<|Obj.mapSeq λ_=> #[]).push<|seqObj "tuple" [u,v].toArray 0).push<|seqObj "list" #[] 0).get? b=some o:=λb o ne q=>by
  have lb:b<s.heap.objs.size:=aT q;rw[pR _ _ _ (by rw[size_push',tO];exact bD (kW lb))]
  rw[pR _ _ _ (by rw[tO];exact bD lb),zC _ _ _ _ ne]
  exact q
 obtain⟨κ,y1,y2⟩:=hy _ kp;show wpAny (model prog w) A _ P E {s with heap:=((s.heap.update a<|Obj.mapSeq λ_=> #[]).push<|seqObj "tuple" [u,v].toArray 0).push (seqObj "list" #[] 0)}
 dsimp only;have n2: ¬[u,v].toArray.size<2:=show ¬2<2 by decide
 rw[a6 n2,a6 n2];refine a8 (bG (y1 (λk s'=>k=κ/\s'={s with heap:=((s.heap.update a<|Obj.mapSeq λ_=> #[]).push<|seqObj "tuple" [u,v].toArray 0).push (seqObj "list" #[] 0)}) ⟨rfl,rfl⟩) ?_ λ_ _ z=>z.elim)
 rintro k s' ⟨rfl,rfl⟩;refine a8 (bG (PySem.W.kat_run (ks:=[u,v]) (vs:=[u,v]) (Q:=λst' s'=>s'={s with heap:=((s.heap.update a<|Obj.mapSeq λ_=> #[]).push<|seqObj "tuple" [u,v].toArray 0).push (seqObj "list" #[] 0)}/\failedOf st'=none/\(arrOf st').map (·.2)=(if lt=true then [v,u].toArray else [u,v].toArray))
  (G:=λp s'=>s'={s with heap:=((s.heap.update a<|Obj.mapSeq λ_=> #[]).push<|seqObj "tuple" [u,v].toArray 0).push (seqObj "list" #[] 0)}/\p=(if lt=true then #[1,0]else #[0,1]))
  rfl (show 2<=2 by decide) (show 2<64 by decide) (λp st' s' _ e2 e3 ⟨e4,e5⟩=>⟨e4,e3,?_⟩) ?_) ?_ λ_ _ z=>z)
 ·rw[PySem.W.kat_snds rfl e2,e5];cases lt<;>rfl
 ·show wpAny (model prog w) A (keyLt' k v u) _ (λ_ _=>False) _
  refine y2 _ ?_
  cases lt
  ·exact⟨rfl,rfl⟩
  ·refine⟨rfl,?_⟩
   rw[a7 rfl];dsimp only[List.length_cons,List.length_nil]
   decide +kernel
 ·rintro⟨⟨⟩,st'⟩ s' ⟨rfl,e3,e4⟩;dsimp only;rw[e4];refine a8 (seqEpoch_at h6 rfl ?_);refine a8 (listUpdate_at h6 rfl ?_ (dN _) (by cases lt<;>exact(show 2<=sizeLine+1 by decide)))
  rw[e3];simp only[bne_self_eq_false,Bool.false_eq_true,eG];exact aH fi
theorem cH1 {l:Addr}{u v:Value}{lt:Bool}{Q:Value->Shared->Prop}(hl:s.heap.IsList l [u,v].toArray)
  (hy: ∀(h':Heap) (A:Around),(∀b o,s.heap.get? b=some o->h'.get? b=some o)-> ∃κ:SortKind,
   (∀Q:SortKind->Shared->Prop,Q κ {s with heap:=h'}->wpAny (model prog w) A (keyKind' [u,v].toArray) Q (λ_ _=>False) {s with heap:=h'})/\
   (∀Q:Bool->Shared->Prop,Q lt {s with heap:=h'}->wpAny (model prog w) A (keyLt' κ v u) Q (λ_ _=>False) {s with heap:=h'}))
  (fi:Q (.ref<|s.heap.objs.size+1) {s with heap:=sortedAll s.heap [u,v] (if lt=true then [v,u].toArray else [u,v].toArray)}) :
  wpAny (model prog w) A (call (.builtin "sorted") [.ref l]) Q E s:=by
 refine Calls.call_function_entry kind_sorted plain_sorted entry_sorted (args_sorted1 _) ?_
 unfold Builtin.«sorted»;refine a8 (m:=checkCount "sorted" 1 1 _) (aH ?_);refine a8 (collect_list hl ?_<|show 2<=sizeLine by decide)
 refine a8 (wpAny_newList ?_<|show 2<=sizeLine by decide)
 have hz:((s.heap.push<|seqObj "list" #[] 0).update s.heap.objs.size (Obj.mapSeq (· ++[u,v].toArray))).objs.size=s.heap.objs.size+1:=by rw[tO,size_push']
 have hL:(((s.heap.push<|seqObj "list" #[] 0).update s.heap.objs.size (Obj.mapSeq (· ++[u,v].toArray))).push<|seqObj "list" [u,v].toArray 0).get? (s.heap.objs.size+1)=some (seqObj "list" [u,v].toArray 0):=by
  rw[<-hz];exact bU _ rfl
 have kp: ∀b o,s.heap.get? b=some o->(((s.heap.push<|seqObj "list" #[] 0).update s.heap.objs.size (Obj.mapSeq (· ++[u,v].toArray))).push<|seqObj "list" [u,v].toArray 0).get? b=some o:=λb o q=>by
  have lb:b<s.heap.objs.size:=aT q;rw[pR _ _ _ (by rw[hz];exact bD (kW lb))]
  rw[zC _ _ _ _<|bD lb,pR _ _ _<|bD lb];exact q
 show wpAny _ _ _ _ _ {s with heap:=((s.heap.push<|seqObj "list" #[] 0).update s.heap.objs.size (Obj.mapSeq (· ++[u,v].toArray))).push (seqObj "list" [u,v].toArray 0)}
 rw[hz];refine a8 (j3<|j0 slot_list_sort ⟨_,hL,rfl⟩ entry_list_sort (d60 (lt:=lt) hL (λh' k=> ?_) ⟨_,rfl,?_⟩)<|args_list_sort _)
 ·exact hy h' _ λb o q=>k b o (bD<|kW<|aT q) (kp b o q)
 ·exact aH ⟨_,rfl,fi⟩
theorem c58 {Q:Bool->Shared->Prop}{fin:Bool}: ∀(us ws:List Int) (x y:List Value) (i:Nat),Vals (us.map V.int) x->Vals (ws.map V.int) y->fin=decide (us.length<ws.length)->Q (ltL us ws) s->PySem.W.KatLex prog w A true fin Q (x.zip y) i s
 | [],[],x,y,i,hx,hy,hf,q=>by
  cases hx;cases hy;rw[hf];exact q
 | [],b::ws,x,y,i,hx,hy,hf,q=>by
  cases hx;rw[hf];exact q
 | a::us,[],x,y,i,hx,hy,hf,q=>by
  cases hx;cases hy;rw[hf];exact q
 | a::us,b::ws,x,y,i,hx,hy,hf,q=>by
  rw[dJ]at hx hy;cases hx with
  | cons r1 hx=>
   cases hy with
   | cons r2 hy=>
    obtain⟨t1,rfl⟩:=r1;obtain⟨t2,rfl⟩:=r2;rw[aM6];refine PySem.W.kat_cons (wpAny_eqBool_int ?_)
    by_cases c:a=b
    ·subst c;rw[aN7];refine PySem.W.kat_yes (c58 us ws _ _ (i+1) hx hy (by rw[hf];simp) ?_)
     unfold ltL at q;rw[a7 rfl]at q;exact q
    ·rw[show(a==b)=false by simpa using c]
     refine PySem.W.kat_no ?_
     unfold ltL at q;rw[a6 c]at q;cases e:(true&&i==0)
     ·exact PySem.W.kat_one _ _ (lt_int q)
     ·exact oneLt_int q
end
section
variable {X:Cx}
theorem cH2:oZ X (.builtin "sorted") (λxs H Q=> ∃(p a1 a2:Addr) (i j:Int) (us ws:List Int),xs=[.ref p]/\SqL X.K H p [.ref a1,.ref a2]/\SqT X.K H a1 ((i::us).map V.int)/\SqT X.K H a2 ((j::ws).map V.int)/\
  ∀l,H l=none->Q (.ref l) (upd H l<|.lst<|if ltL (j::ws) (i::us)=true then [.ref a2,.ref a1]else [.ref a1,.ref a2])):=by
 intro pins s σ H xs us' Q I r h;obtain⟨p,a1,a2,i,j,us,ws,rfl,hq,t1,t2,q⟩:=h;obtain⟨u,rfl,rx⟩:=vals1 r;cases rx;obtain⟨its,rv,pl,hz⟩:=I.list hq;obtain⟨x1,r1,k1,z1⟩:=I.tuple t1;obtain⟨x2,r2,k2,z2⟩:=I.tuple t2;cases rv with
 | cons g1 rv=>
 cases rv with
 | cons g2 rv=>
 cases rv;cases g1;cases g2;refine cH1 (lt:=ltL (j::ws) (i::us)) pl.isList (λh' A kp=> ?_) ?_
 ·obtain⟨o1,ho1,hc1,n1,hd1⟩:=k1;obtain⟨o2,ho2,hc2,n2,hd2⟩:=k2;rw[dJ]at r1 r2;cases r1 with
  | cons f1 r1=>
  cases r2 with
  | cons f2 r2=>
  have v1:Vals ((i::us).map V.int) _:= .cons f1 r1;have v2:Vals ((j::ws).map V.int) _:= .cons f2 r2;obtain⟨t1,rfl⟩:=f1;obtain⟨t2,rfl⟩:=f2;refine⟨tuples'<|Value.type "int" != Value.type "tuple",λQ' q'=> ?_,λQ' q'=> ?_⟩
  ·refine PySem.W.kat_kind (fs:=[.int i t1,.int j t2]) (T:= .type "int") (.cons (kp _ _ ho1) hc1 hd1 rfl (.cons (kp _ _ ho2) hc2 hd2 rfl .nil)) (cQ _) (λv hv=> ?_) ac q'
   rcases aX.mp hv with rfl|hv
   ·exact .now
   ·rw[gJ.mp hv];exact .now
  ·have e:(Value.type "int" != Value.type "tuple")=true:=ac
   rw[e];refine PySem.W.kat_lt (kp _ _ ho2) hd2 (kp _ _ ho1) hd1 (c58 _ _ _ _ 0 (by simpa using v2) (by simpa using v1) ?_ q')
   have l1:=v1.length;have l2:=v2.length;simp only[aG]at l1 l2;simp only[b6];rw[<-l1,<-l2]
 ·refine⟨.ref<|s.heap.objs.size+1,_,?_,rfl,q (s.heap.objs.size+1)<|I.hok.fresh<|tW _⟩
  obtain⟨c,hc⟩:=sortedAll_at s.heap [Value.ref a1,Value.ref a2] (if ltL (j::ws) (i::us)=true then [Value.ref a2,Value.ref a1].toArray else [Value.ref a1,Value.ref a2].toArray);refine I.laid (t':=s.toks) (λb o e=>sortedAll_old e) (tW _) ?_
  by_cases e:ltL (j::ws) (i::us)=true
  ·rw[a7 e]at hc⊢;exact⟨show 2<=sizeLine by decide,[.ref a2,.ref a1],c,.cons rfl (.cons rfl .nil),by rw[a7 e];exact hc⟩
  ·rw[a6 e]at hc⊢;exact⟨show 2<=sizeLine by decide,[.ref a1,.ref a2],c,.cons rfl (.cons rfl .nil),by rw[a6 e];exact hc⟩
def cH3:List D->(B->Prop)->Prop:=g1 λd Q=> ∃(i j:Int) (us ws:List Int),d= .lst [.tup<|(i::us).map D.int,.tup<|(j::ws).map D.int]/\
 Q (.ow<|if ltL (j::ws) (i::us)=true then [.tup<|(j::ws).map D.int,.tup<|(i::us).map D.int]else [.tup<|(i::us).map D.int,.tup<|(j::ws).map D.int])
theorem d61:vL X (.builtin "sorted") cH3:=by
 intro A H ds vs Q0 Q hA r g k;obtain⟨d,v,rfl,rfl,rv,i,j,us,ws,rfl,g'⟩:=a79 g r;simp only[Rep]at rv;obtain⟨p,xs,rfl,np,hp,rl⟩:=rv;obtain⟨y1,yr,rfl,s1,rl⟩:=rl.uncons;obtain⟨y2,yr,rfl,s2,rl⟩:=rl.uncons;have:=rl.unnil;subst this;have s1':=s1;have s2':=s2;simp only[Rep]at s1 s2;obtain⟨a1,w1,rfl,c1,q1⟩:=s1;obtain⟨a2,w2,rfl,c2,q2⟩:=s2;have e1:=bL.unints q1;have e2:=bL.unints q2;subst e1 e2
 refine⟨_,cH2,p,a1,a2,i,j,us,ws,rfl,.inl<|.inl hp,c1.imp cU id,c2.imp cU id,λl hl=>k _ _ _ g' (eZ hl _) ?_⟩
 cases ltL (j::ws) (i::us)
 ·exact i8 (.refl _) hl (.cons s1'<|.cons s2' .nil)
 ·exact i8 (.refl _) hl (.cons s2'<|.cons s1' .nil)
end
end M
end
section
namespace L2
open PySem PySem.Spec PyProof.Rows
end L2
namespace M
open PySem PySem.Spec PyProof.Rows L2
end M
end
section
namespace L2
open PySem PySem.Spec PyProof.Rows
end L2
namespace M
open PySem PySem.Spec PyProof.Rows L2
end M
end
section
namespace L2
open PySem PySem.Spec PyProof.Rows
end L2
namespace M
open PySem PySem.Spec PyProof.Rows L2
section
variable {X:Cx}{K:Frag}{A:AS}{H:Hp}{e e3:Expr}{t3:UE}{pos p2:Pos}
def uRevL (t:UV)(t3:UE):UE:=λρ Q=>t ρ λd ρ1=>t3 ρ1 λb ρ2=>b.d= .int (-1)/\match d with
 | .lst l=>Q (.ow l.reverse) ρ2
 | _=>False
end
end M
end
section
namespace M
open PySem PySem.Spec PyProof.Rows L2
section
variable {X:Cx}{e:Expr}{es:List Expr}{pos:Pos}{te:UE}
theorem ilB {i:Nat}(h:Nat.ble (i+1) X.N.length=true): ∀pins σ H s,Inv X pins σ H s->i<σ.length:=il rfl (Nat.le_of_ble_eq_true h)
theorem aP (i:Nat){x:Str}{pos:Pos}(h:PE X (.Name x pos) (aG3 i):=by exact pv _):PU X (.Name x pos) (aB i):=eX i h
theorem cG (i:Nat){x:Str}{pos:Pos}(h:PE X (.Name x pos) (aG3 i):=by exact pv _):PUV X (.Name x pos) (aV i):=lZ i h
theorem aS4 {x:Str}{pos':Pos}(i:Nat)(hN:X.N.Nodup)(he:PU X e te)(hi:X.N[i]? =some x:=by rfl)(hx:Loc X.env.scope x:=by walk_at "z")(hs:swapsWith e (some<|.Name x pos') pos.line X.env=pure false:=by rfl)(hf:X.fn x=true\/X.env.scope.names.lookup x=some .local:=by walk_at "z")
  (hl: ∀pins σ H s,Inv X pins σ H s->i<σ.length:=by exact ilB rfl):PUS X (.Assign [.Name x pos'] e pos) (bT i te):=wI i hN hi hx he hs hf hl
theorem us_g {x:Str}{pos':Pos}{op:Operator}{g:D->D->(B->Prop)->Prop}(i:Nat)(hN:X.N.Nodup)(he:PU X e te)(ho:IpU X op g)(hi:X.N[i]? =some x:=by rfl)(hx:Loc X.env.scope x:=by walk_at "z")(hf:X.fn x=true\/X.env.scope.names.lookup x=some .local:=by walk_at "z")
  (hl: ∀pins σ H s,Inv X pins σ H s->i<σ.length:=by exact ilB rfl):PUS X (.AugAssign (.Name x pos') op e pos) (c44 i g te):=d31 i hN hi hx he ho hf hl
theorem dY {a b:Expr}{ti:UE}{t:UV}(ha:PUV X a t)(hb:PU X b ti)(hs:bT9 b:=by exact λ_ _=>rfl):PU X (.Subscript a b pos) (uIx t ti):=a78 ha hb hs
theorem dQ {k k':Nat}{ps:List Str}{φ:Φ}{x:Str}{p:Pos}{t:UA}(F:Fn X.prog X.w X.K X.mg X.base x ps k φ)(hr:i5 k' X.A)(ha:PUA X (e::es) t)(hk:k<=k':=by decide)(hg:Gl X x:=by rfl)(hdb:(x==("__debug__":Str))=false:=by decide)
  (he:starEach (e::es) X.env=(false,eval e X.env)::starEach es X.env:=by rfl) (hpl:(backTo pos<|starEach es X.env).any (·.1)=false:=by rfl):PU X (.Call (.Name x p) (e::es) [] pos) (aQ φ t):=aH1 F hr hk hg ha hdb he hpl
end
section
variable {X:Cx}{es:List Expr}{t:UA}
theorem bF {i:Int}{j}{p:Pos}(h:PUA X es t):PUA X (.Constant (.int i) j p::es) (a9 (uC<|.int i) t):=aC aF h rfl
theorem rF {fs:List Expr}{j}{p:Pos}{ta:UE}(a:PU X (.Tuple fs j p) ta)(h:PUA X es t):PUA X (.Tuple fs j p::es) (a9 ta t):=aC a h rfl
theorem aS5 {o:UnaryOp}{e:Expr}{p:Pos}{ta:UE}(a:PU X (.UnaryOp o e p) ta)(h:PUA X es t):PUA X (.UnaryOp o e p::es) (a9 ta t):=aC a h rfl
theorem aN (i:Nat){x:Str}{p:Pos}(h:PUA X es t)(a:PE X (.Name x p) (aG3 i):=by exact pv _):PUA X (.Name x p::es) (a9 (aB i) t):=aC (eX i a) h rfl
structure WA (X:Cx)(es:List Expr)(t:UA):Prop where
 out:PUA X es t
theorem a85:WA X [] aK:=⟨aA⟩
theorem a68 {i:Int}{j}{p:Pos}(h:WA X es t):WA X (.Constant (.int i) j p::es) (a9 (uC<|.int i) t):=⟨bF h.out⟩
theorem cV5 {i:Int}{j}{p q:Pos}(h:WA X es t):WA X (.UnaryOp .USub (.Constant (.int i) j p) q::es) (a9 (rD<|uC<|.int i) t):=⟨aS5 (kG aF) h.out⟩
theorem cH4 {fs:List Expr}{j}{p:Pos}{tf:UA}(a:WA X fs tf)(h:WA X es t):WA X (.Tuple fs j p::es) (a9 (i6 tf) t):=⟨rF (dR a.out) h.out⟩
structure WS (X:Cx)(sts:List Stmt)(t:US):Prop where
 out:rV X sts t
theorem ws_of {sts:List Stmt}{u:US}(h:rV X sts u):WS X sts u:=⟨h⟩
theorem ws_lw {x:Str}{pos pos' p:Pos}{i:Nat}{sts:List Stmt}{u:US}(h:WA X es t)(r:WS X sts u)(hN:X.N.Nodup)(hi:X.N[i]? =some x:=by rfl)(hx:Loc X.env.scope x:=by walk_at "z")(hf:X.fn x=true\/X.env.scope.names.lookup x=some .local:=by walk_at "z")
  (hl: ∀pins σ H s,Inv X pins σ H s->i<σ.length:=by exact ilB rfl):WS X (.Assign [.Name x pos'] (.List es p) pos::sts) (aU (bT i<|kF t) u):=⟨bB (wI i hN hi hx (fA h.out) rfl hf hl) r.out⟩
end
end M
end
section
namespace M
open PySem PySem.Spec PyProof.Rows L2
abbrev GL:=List (Addr×List Int)
end M
end
section
namespace M
open PySem PySem.Spec PyProof.Rows L2
section
variable {X:Cx}{K:Frag}{C C':C0}{ρ ρ':Ev}{σ σ':L2.St}{H H' H0:Hp}{g g':GL}{r:Nat}{st:Stmt}{sts:List Stmt}{e:Expr}{pos:Pos}{t u:US}{te ti tj:UE}{tc:UT}
theorem dK1 {n m:Nat}(h:n<m):ixN m (n:Int)=some n:=by
 unfold ixN;rw[a7 aa,a7 aa]
 simp
end
section
variable {X:Cx}{K:Frag}{C C':C0}{ρ ρ':Ev}{σ σ':L2.St}{H H' H0:Hp}{e:Expr}{pos:Pos}{te:UE}
def cH5 (t:UE):UE:=λρ Q=>t ρ λb _=>match b with
 | .pu d=>d.nl=true/\Q (.pu d) ρ
 | .ow l=>D.nls l=true/\Q (.ow l) ρ
 | _=>False
theorem d62 (h:PU X e te):PU X e (cH5 te):=iS h λσ H Q ⟨C,ρ,Q0,I,h,k⟩=>⟨C,ρ,_,I,h,λb ρ' v H' q f s r=>by
 have noT: ∀(a:Addr) (vs:List V),Own ρ σ a->Rd H' a (.tup vs)->False:=λa vs ⟨i,l,h1,h2⟩ c=>by
  obtain⟨b,ws,g1,g2,_⟩:=I.ow i l h1;rw[h2]at g1;cases g1;have g3:=s _ _ g2;rcases c with c| ⟨o,c⟩
  ·rw[g3]at c;cases c
  ·rw[g3]at c;cases c
 cases b with
 | pu d=>
  refine k (.pu d) ρ v H' q.2 (.refl _) s ?_
  refine Rep.nl (λa vs n c=>⟨?_,c⟩) q.1 (show Rep _ _ _ d v from r)
  rintro(z|z)
  ·exact n (.inl z)
  ·exact noT a vs z c
 | ow l=>
  obtain⟨a,vs,rfl,n0,e1,rl⟩:=r;refine k (.ow l) ρ _ H' q.2 (.refl _) s ⟨a,vs,rfl,n0,e1,?_⟩;refine bL.nl (λb ws n c=>⟨?_,c⟩) q.1 rl
  rintro((z|z)|z)
  ·exact n (.inl<|.inl z)
  ·exact noT b ws z c
  ·exact n (.inr z)
 | bo l=>exact q.elim⟩
end
end M
end
section
namespace L2
open PySem PySem.Spec PyProof.Rows
theorem b54 (l:Addr)(items:Array Value)(n:Nat)(b:Addr)(di:Option Addr)(sl:Array (Option Value))(items2:Array Value)(n2:Nat)(hs0: ¬(!items.isEmpty&&Builtin.List.listTooLong (items.size+items2.size))=true)(hs1:items.size<=sizeLine)(hs2:items.size+items2.size<=sizeLine+1) :
  Meets (Builtin.«list.extend» ⟨[.ref l,.ref b],[]⟩) (λ_ R s=>s.heap.get? l=some {cls:= .type "list",dict:=none,data:= .seq items n,slots:= #[]}/\s.heap.get? b=some {cls:= .type "tuple",dict:=di,data:= .seq items2 n2,slots:=sl}/\R (.ok<|.ret Value.none) {s with heap:=s.heap.update l (Obj.mapSeq λx=>x++items2),toks:=s.toks}):=
 .of_wp λprog w A R s h=>by
  obtain⟨hp,g,d,tk,os⟩:=s;obtain⟨hl,hb,h⟩:=h;have f1:=zH;have f2:=AutoSeq1.sub_tuple_tuple;have f3:=AutoSeq1.sub_list_list;have f4:=AutoSeq1.sub_tuple_list;have f5:=AutoSeq1.sub_list_tuple;have hz':(items++items2).size<=sizeLine+1:=by rw[Array.size_append];exact hs2
  wp_walk using(wpAny_updateSeq hl rfl (hz:=hs1) (_hz':=hz')),iE hl,iE hb;exact⟨_,rfl,h⟩
section
variable {X:Cx}
def d63 (K:Frag):V->List V->Hp->VK->Prop:=λx vs H Q=> ∃l b xs zs,x= .ref l/\vs=[.ref b]/\H l=some (.lst xs)/\SqT K H b zs/\xs.length+zs.length<=sizeLine/\Q .non (upd H l<|.lst<|xs++zs)
theorem cH6:MtM X "list.extend" (d63 X.K):=by
 intro pins s σ H x vs v us Q I rx rv h;obtain⟨l,b,xs,zs,rfl,rfl,hH,hB,hz,q⟩:=h;cases rx;obtain⟨u,rfl,ru⟩:=rv.one;cases ru;obtain⟨z,its,n,r,hl,e⟩:=I.lstM hH;obtain⟨its2,r2,⟨o,e2,hc,n2,hd⟩,hl2⟩:=I.tuple hB;obtain⟨cls,di,dat,sl⟩:=o;dsimp only at hc hd;subst hc hd;have f2:=r2.length;have hsz:its.toArray.size+its2.toArray.size<=sizeLine:=by rw[b6,b6];omega
 have hlong: ¬(!its.toArray.isEmpty&&Builtin.List.listTooLong (its.toArray.size+its2.toArray.size))=true:=by
  rw[c41 hsz,Bool.and_false];exact bC
 refine k8 F.slot_list_extend ⟨_,e,rfl⟩ F.entry_list_extend (F.args_list_extend_2 _ _)
  (b54 l its.toArray n b di sl its2.toArray n2 hlong (by rw[b6];omega) aa) ⟨e,e2,?_⟩
 refine⟨.non,_,I.lset (its':=its++its2) hH e ae (r.append r2) ?_,rfl,q⟩
 rw[bN];omega
end
end L2
namespace M
open PySem PySem.Spec PyProof.Rows L2
section
variable {X:Cx}{pos:Pos}{e:Expr}{te:UE}
def uExt (i:Nat)(t:UE):US:=λD ρ=>oC ρ i λ_=>t ρ λb ρ1=>oC ρ1 i λl=>match b.d with
 | .tup m=>l.length+m.length<=sizeLine/\D.nx (ρ1.set i<|some<|.ow<|l++m)
 | _=>False
theorem cV6 {x:Str}{p apos cpos:Pos}(i:Nat)(hx:PE X (.Name x p) (aG3 i))(he:PU X e te)
  (hbase:attributeBase (.Name x p) "extend" X.env (eval (.Name x p) X.env)=eval (.Name x p) X.env:=by rfl)
  (hfew:((backTo cpos<|starEach [e] X.env).all (λx=> !x.1)&&(backToKw cpos<|keywordEach [] X.env).all (λx=>x.1.isSome)
   &&decide ([e].length+([]:List Keyword).length+(if([]:List Keyword).isEmpty then 0 else 1)<30))=true:=by rfl)
  (hline:(apos.endLine==cpos.line)=true:=by rfl) (hs:starEach [e] X.env=(false,eval e X.env)::starEach [] X.env:=by rfl) (hplain:(backTo cpos<|starEach [] X.env).any (·.1)=false:=by rfl)
  (hw:swapsWith (.Call (.Attribute (.Name x p) "extend" apos) [e] [] cpos) none pos.line X.env=pure false:=by rfl) :
  PUS X (.Expr (.Call (.Attribute (.Name x p) "extend" apos) [e] [] cpos) pos) (uExt i te):=
 rC (b70 (dQ5 PySem.F.plainAttrs_list PySem.F.slot_list_extend PySem.F.type_list_extend cH6 hx (b73 he bT8 hs) hbase hfew hline hs hplain) hw) λD σ H ⟨C,ρ,D0,I,h,k⟩=>by
  obtain⟨l,hl,h⟩:=jF h;obtain⟨a,vs,h1,h2,h3,h4⟩:=I.ow i l hl;refine⟨.ref a,h1,.inl ⟨rfl,vs,SqL.of h2⟩,C,ρ,_,I,h,λb ρ1 v H1 q f s r=> ?_⟩
  obtain⟨l',hl',q⟩:=jF q;have e:=f.ow hl';rw[hl]at e;cases e;have I1:=(I.frz f).same s;obtain⟨a',vs',g1,g2,g3,g4⟩:=I1.ow i l hl';rw[h1]at g1;cases g1;cases hb:b.d with
  | tup m=>
   rw[hb]at q;obtain⟨hz,q⟩:=q;have r':=r.rep λa z=>I.avF f z
   rw[hb]at r';simp only[Rep]at r';obtain⟨c,ws,rfl,hc,rs⟩:=r';refine⟨a,c,vs',ws,rfl,rfl,g2,?_,by rw[<-g4.length,<-rs.length];exact hz,k.nx _ _ _ q ?_⟩
   ·exact hc.imp (·.2) id
   ·exact I1.write hl' h1 (g4.append rs)
  | _=>rw[hb]at q;exact q.elim
end
end M
end
section
namespace M
open PySem PySem.Spec PyProof.Rows L2
end M
end
section
namespace L2
open PySem PySem.Spec PyProof.Rows
end L2
namespace M
open PySem PySem.Spec PyProof.Rows L2
section
variable {X:Cx}{A:AS}{H:Hp}{K:Frag}{pos:Pos}{a:Expr}
def uRevI (ta:UA):UI:=λρ Q=>ta ρ λds ρ1=>match ds with
 | [.lst l]=>Q l.length (λi=>l.getD (l.length-1-i) .non) ρ1
 | _=>False
end
end M
end
section
namespace M
open PySem PySem.Spec PyProof.Rows L2
section
variable {X:Cx}{e a b:Expr}{te ta tb:UE}{t u:US}{sts:List Stmt}{pos:Pos}
theorem kH {op:CmpOp}{g:D->D->(B->Prop)->Prop}(ho:OpU X (compareOp op) g)(ha:PU X a ta)(hb:PU X b tb)(hm:behindInMarks op b=false:=by exact b99 _):PUT X (.Compare a [op] [b] pos) (gA<|uOp g ta tb):=aR8 ho ha hb hm
theorem bV9 {op:CmpOp}{g:D->D->(B->Prop)->Prop}(ho:OpU X (compareOp op) g)(ha:PU X a ta)(hb:PU X b tb)(hm:behindInMarks op b=false:=by exact b99 _):PU X (.Compare a [op] [b] pos) (uOp g ta tb):=pu_cmp ho ha hb hm
theorem bQ {x:Str}{pos':Pos}(i:Nat)(hN:X.N.Nodup)(he:PU X e te)(r:rV X sts u)(hi:X.N[i]? =some x:=by rfl)(hx:Loc X.env.scope x:=by walk_at "z")(hs:swapsWith e (some<|.Name x pos') pos.line X.env=pure false:=by rfl)(hf:X.fn x=true\/X.env.scope.names.lookup x=some .local:=by walk_at "z")
  (hl: ∀pins σ H s,Inv X pins σ H s->i<σ.length:=by exact ilB rfl):rV X (.Assign [.Name x pos'] e pos::sts) (aU (bT i te) u):=bB (aS4 i hN he hi hx hs hf hl) r
theorem fV (h:PU X e te):rV X [.Return (some e) pos] (cY te):=bE (cF4 h)
theorem bK4 {c:Expr}{tc:UT}(hc:PUT X c tc)(ha:rV X sts t):PUS X (.If c sts [] pos) (jA tc t gB):=cO3 hc ha bU8
theorem oM {c:Expr}{tc:UT}{r:List Stmt}(hc:PUT X c tc)(ha:rV X sts t)(hr:rV X r u):rV X (.If c sts [] pos::r) (aU (jA tc t gB) u):=bB (bK4 hc ha) hr
theorem qC {x:Str}{p:Pos}{iter:Expr}{ui:UI}(i:Nat)(hN:X.N.Nodup)(hi:PUI X (.Name x p) iter ui)(hb:rV X sts t)(hp:PassesOwn (model X.prog X.w) X.A X.env X.xe:=by exact gX)(hc:X.calm=true:=by rfl)(hx:X.N[i]? =some x:=by rfl)(hl:Loc X.env.scope x:=by walk_at "z")
  (hs: ∀x,foldedSetIterable iter X.env x=pure x:=by intro _;rfl) (hf:X.fn x=true\/X.env.scope.names.lookup x=some .local:=by walk_at "z"):PUS X (.For (.Name x p) iter sts [] pos) (jD ui (cC i) t):=aO2 hp hc hi (a02 i<|cL hN hx hl hf) hb hs
theorem oE {elt iter:Expr}{ifs:List Expr}{scope:Scope}{x:Str}{p:Pos}(N:List Str)(esc:List (Str×NameKind))(XN:List Str){js:List Nat}{cap:List (Option Nat)}{last i:Nat}{ui:UI}{tt:UT}(hi:PUI X (.Name x p) iter ui)(ht: ∀cl C s H fp pins,PTs (cF X N scope cl C s H fp pins) ifs<|lT X.K tt)(he: ∀cl C s H fp pins,PU (cF X N scope cl C s H fp pins) elt te)
  (he0:X.env.scope.names=esc:=by rfl) (hx0:X.N=XN:=by rfl) (lk:y8 esc XN N cap scope last=true:=by decide +kernel) (hl:last<cap.length:=by decide) (hT:last ∉ [i]:=by decide) (hc:X.calm=true:=by rfl) (hN:N.Nodup:=by decide +kernel) (hx:N[i]? =some x:=by rfl) (hy: ∀cl C s H fp pins,Loc (cF X N scope cl C s H fp pins).env.scope x:=by intro _ _ _ _ _ _;first|exact Or.inl rfl|exact Or.inr rfl)
  (hs: ∀x,foldedSetIterable iter X.env x=pure x:=by intro _;rfl) (hf: ∀cl C s H fp pins,(cF X N scope cl C s H fp pins).fn x=true\/(cF X N scope cl C s H fp pins).env.scope.names.lookup x=some .local:=by intro _ _ _ _ _ _;first|exact .inl rfl|exact .inr rfl|assumption):PU X (.ListComp elt [⟨.Name x p,iter,ifs,0⟩] scope pos) (dS js cap last ui (cC i) tt te):=
 y9 he0 hx0 lk hl hT hc hi (λ_ _ _ _ _ _=>a02 i (cL hN hx (hy ..)<|hf ..)) ht he hs
end
end M
end
section
namespace L2
open PySem PySem.Spec PyProof.Rows
def Calm (f:Obj->Obj):Prop:= ∀o,(f o).dict=o.dict/\(o.isFreed=false->(f o).isFreed=false)
def oX {α:Type}:Sem α->Prop
 | .pure _=>True
 | .raise _=>True
 | .unsupported _=>True
 | .finish _=>True
 | .rule _ k=>oX (k ())
 | .at _ k=>oX (k ())
 | .load _ _ k=> ∀o,oX (k o)
 | .update _ _ f k=>Calm f/\oX (k ())
 | .alloc _ k=> ∀a,oX (k a)
 | .loadIfAlive _ k=> ∀o,oX (k o)
 | .point _ k=>oX (k ())
 | .register _ _=>True
 | .stack k=> ∀l,oX (k l)
 | _=>False
def DK (h h':Heap):Prop:= ∀b o,h.get? b=some o-> ∃o',h'.get? b=some o'/\o'.dict=o.dict
theorem DK.refl (h:Heap):DK h h:=λb o q=>⟨o,q,rfl⟩
theorem DK.trans {h h' h'':Heap}(a:DK h h')(b:DK h' h''):DK h h'':=λc o q=>by
 obtain⟨o',q',e⟩:=a c o q;obtain⟨o'',q'',e'⟩:=b c o' q';exact⟨o'',q'',e'.trans e⟩
theorem DK.update {h:Heap}{a:Addr}{f:Obj->Obj}(c:Calm f):DK h (h.update a f):=λb o q=>by
 by_cases e:a=b
 ·subst e;exact⟨f o,pJ f q<|(c o).2 (Heap.get?_some_iff.mp q).2,(c o).1⟩
 ·exact⟨o,(aK9 _ _ e).trans q,rfl⟩
theorem dK2 {α:Type}{M:Model}{Γ:PySem.Ctx}: ∀{t:Sem α} {Q:α->Pos->Shared->Prop} {E:Value->Pos->Shared->Prop} {p:Pos} {s:Shared},oX t->Sem.wp M Γ t Q E p s->Sem.wp M Γ t (λa p' s'=>Q a p' s'/\DK s.heap s'.heap) (λe p' s'=>E e p' s'/\DK s.heap s'.heap) p s:=by
 intro t
 induction t with
 | pure a=>intro Q E p s _ h;exact⟨h,.refl _⟩
 | raise e=>intro Q E p s _ h;exact⟨h,.refl _⟩
 | rule _ k ih=>intro Q E p s t h;exact ih () t h
 | «at» _ k ih=>intro Q E p s t h;exact ih () t h
 | load a _ k ih=>intro Q E p s t ⟨o,q,h⟩;exact⟨o,q,ih o (t o) h⟩
 | update a _ f k ih=>
  intro Q E p s t ⟨q,h⟩;refine⟨q,?_⟩;have:=ih () t.2 h;exact Sem.wp_mono _ _ _ (λa p' s' z=>⟨z.1,(DK.update t.1).trans z.2⟩) (λa p' s' z=>⟨z.1,(DK.update t.1).trans z.2⟩) _ _ this
 | alloc o k ih=>
  intro Q E p s t h;have:=ih _ (t _) h;have pu:DK s.heap (s.heap.push o):=λb o' q=>⟨o',aS _ q,rfl⟩
  exact Sem.wp_mono _ _ _ (λa p' s' z=>⟨z.1,pu.trans z.2⟩) (λa p' s' z=>⟨z.1,pu.trans z.2⟩) _ _ this
 | loadIfAlive a k ih=>intro Q E p s t h;exact ih _ (t _) h
 | point _ k ih=>intro Q E p s t h;exact ih () t h
 | stack k ih=>intro Q E p s t h;exact ih _ (t _) h
 | unsupported _=>intro Q E p s _ h;exact h.elim
 | finish _=>intro Q E p s _ h;exact h.elim
 | register _ _=>intro Q E p s _ h;exact h.elim
 | _=>intro Q E p s t h;exact False.elim t
theorem cM {α β:Type}{f:α->Sem β}: ∀{t:Sem α},oX t->(∀a,oX<|f a)->oX (t.bind f):=by
 intro t
 induction t with
 | pure a=>intro _ h;exact h a
 | raise e=>intro _ _;exact trivial
 | unsupported _=>intro _ _;exact trivial
 | finish _=>intro _ _;exact trivial
 | rule _ k ih=>intro t h;exact ih () t h
 | «at» _ k ih=>intro t h;exact ih () t h
 | load a _ k ih=>intro t h o;exact ih o (t o) h
 | update a _ f k ih=>intro t h;exact⟨t.1,ih () t.2 h⟩
 | alloc o k ih=>intro t h a;exact ih a (t a) h
 | loadIfAlive a k ih=>intro t h o;exact ih o (t o) h
 | point _ k ih=>intro t h;exact ih () t h
 | register _ _=>intro _ _;exact trivial
 | stack k ih=>intro t h l;exact ih l (t l) h
 | _=>intro t _;exact False.elim t
theorem a07 {α:Type}{M:Model}{A:Around}{t:Sem α}{Q:α->Shared->Prop}{E:Value->Shared->Prop}{s:Shared}(c:oX t)(h:wpAny M A t Q E s):wpAny M A t (λa s'=>Q a s'/\DK s.heap s'.heap) (λe s'=>E e s'/\DK s.heap s'.heap) s:=λΓ p hin=>dK2 c (h Γ p hin)
theorem bQ2 {a:Addr}{part:Option Value}:oX (loadPart a part):=λ_=>trivial
theorem c59 (v:Value):oX (fieldsOf v):=by
 unfold fieldsOf;split
 ·refine cM bQ2 λo=> ?_
  split<;>exact trivial
 ·exact trivial
theorem a08 (v:Value)(i:Nat):oX (PySem.field v i):=cM (c59 v) λvs=>by
 split<;>exact trivial
theorem c60 (f:Array Value->Array Value):Calm (Obj.mapFields f):=λo=>by
 obtain⟨c,d,dt,sl⟩:=o;cases dt<;>exact⟨rfl,λh=>h⟩
theorem wK (v:Value)(i:Nat)(x:Value):oX (setField v i x):=by
 unfold setField;split
 ·unfold updateField;refine cM bQ2 λo=> ?_
  split
  ·split
   ·exact⟨c60 _,trivial⟩
   ·exact trivial
  ·exact trivial
 ·exact trivial
theorem a86 (e:Value)(f:Option Addr):oX (setFlight e f):=cM (a08 _ _) λtb=>by
 split
 ·exact wK _ _ _
 ·exact trivial
theorem aO7:oX stack:=λ_=>trivial
theorem cH7 (f:Addr)(b:Bool):oX (entryPlaceOf f b):=cM aO7 λl=>by
 split<;>exact trivial
theorem d64 (cls:Value)(data:Data)(d:Option Addr):oX (newObj cls data d):=by
 have as:oX (newObjAsIs cls data d):=by
  unfold newObjAsIs;refine cM (λ_=>trivial) λa=> ?_
  split
  ·refine cM ?_ λb=> ?_
   ·unfold classHasDel;refine cM (λ_=>trivial) λo=> ?_
    split<;>exact trivial
   ·split<;>exact trivial
  ·exact trivial
 unfold newObj;split<;>first|exact as| (split<;>first|exact as|exact trivial| (refine cM trivial λ_=>as))
theorem cH8 (a b c d e:Value)(pl:List Value):oX (EntryCells.newEntry a b c d e pl):=by
 unfold EntryCells.newEntry newFields;exact d64 _ _ _
theorem bB7: ∀l:List Env,oX (readyFrames l)
 | []=>trivial
 | env::outer=>by
  unfold readyFrames;split
  ·refine cM (λ_=>trivial) λo=> ?_
   split
   ·exact trivial
   ·refine cM ?_ λb=> ?_
    ·unfold behindIsImport;split
     ·exact trivial
     ·split
      ·exact trivial
      ·exact cM (a08 _ _) λ_=>trivial
    ·refine cM ?_ λv=> ?_
     ·unfold keptBack;split
      ·split
       ·exact trivial
       ·exact cM (cM aO7 λ_=>trivial) λ_=>trivial
      ·exact trivial
     ·exact⟨λo=>⟨rfl,λh=>by obtain⟨c,d,dt,sl⟩:=o;cases dt<;>exact h⟩,bB7 outer⟩
  ·exact trivial
theorem cH9 (env:Env):oX (PySem.frameOf env):=by
 unfold PySem.frameOf;refine cM (cM aO7 λ_=>trivial) λl=>cM ?_ λo=> ?_
 ·unfold frameObject;split
  ·exact trivial
  ·exact cM (bB7 _) λ_=>trivial
 ·split<;>exact trivial
theorem bQ3 (e:Value)(env:Env):oX (noteFrame e env):=by
 have last: ∀h f,oX (do setField e 1 (<-EntryCells.newEntry h (<-PySem.frameOf env) .none (rawInt f) .none (<-entryPlaceOf f (h != .none)))):=λh f=>
  cM (cH9 env) λa=>cM (cH7 _ _) λb=>cM (cH8 _ _ _ _ _ _) λc=>wK _ _ _
 unfold noteFrame;split
 ·refine cM (a08 _ _) λh=> ?_
  split
  ·refine cM (a08 _ _) λx=> ?_
   split
   ·exact trivial
   ·exact cM (wK _ _ _) λ_=>last _ _
  ·exact last _ _
 ·exact trivial
theorem aS6 (env:Env)(e:Value):oX (leaving env e):=cM (bQ3 e env) λ_=>a86 e none
def Tr (h:Heap)(e T:Addr):Prop:= ∃oe vs,h.get? e=some oe/\oe.data= .fields vs/\vs[1]? =some (.ref T)
theorem Tr.one {h:Heap}{e T T':Addr}(a:Tr h e T)(b:Tr h e T'):T=T':=by
 obtain⟨o,vs,h1,h2,h3⟩:=a;obtain⟨o',vs',g1,g2,g3⟩:=b;rw[h1]at g1;cases g1;rw[h2]at g2;cases g2;rw[h3]at g3;cases g3;rfl
structure aH4 (fs:List Addr)(e:Addr)(h h':Heap):Prop where
 keep: ∀b o,h.get? b=some o->b ∉ fs->b≠e-> ¬Tr h e b->h'.get? b=some o
 slot:h.UpToSlots h'
 tr: ∀T,Tr h' e T->T∈fs\/T=e\/Tr h e T\/h.get? T=none
 rcd: ∀T,Tr h' e T-> ∃o vs,h'.get? T=some o/\o.data= .fields vs
structure bK5 (fs:List Addr)(e:Addr)(h h':Heap):Prop extends aH4 fs e h h' where
 dk:DK h h'
theorem bW0 {h base:Heap}{e:Addr}{cls a0 fl:Value}(t:h.TracedAtW base e cls a0 fl): ∃T,Tr h e T/\base.get? T=none/\T≠e/\ ∃o vs,h.get? T=some o/\o.data= .fields vs:=by
 obtain⟨oe,vs,T,oT,ts,he,_,hd,h1,hb,hne,hT,hdT,_⟩:=t;exact⟨T,⟨oe,vs,he,hd,h1⟩,hb,hne,oT,ts,hT,hdT⟩
theorem qD {h base B:Heap}{e T:Addr}{cls a0 fl:Value}(t:h.TracedAtW base e cls a0 fl)(x:Tr h e T)(hn:B.get? T=none):h.TracedAtW B e cls a0 fl:=by
 obtain⟨oe,vs,T',oT,ts,he,hc,hd,h1,hb,hne,hT,hdT,h3⟩:=t;obtain rfl:=x.one ⟨oe,vs,he,hd,h1⟩;exact⟨oe,vs,T,oT,ts,he,hc,hd,h1,hn,hne,hT,hdT,h3⟩
section
variable {base h:Heap}{l:List Env}{e T:Addr}{cls a0 fl:Value}
noncomputable def hid (h:Heap)(l:List Env)(e T:Addr):Heap:=PySem.W.hideAll h (frs l++[e,T])
theorem yA {b:Addr}(hb:b∈frs l\/b=e\/b=T):(hid h l e T).get? b=none:=PySem.W.hideAll_none _ (by
 rcases hb with z|z|z
 ·exact bM.mpr (.inl z)
 ·exact bM.mpr (.inr<|by simp[z])
 ·exact bM.mpr (.inr<|by simp[z]))
theorem aS7 {b:Addr}{o:Obj}(q:h.get? b=some o)(h1:b ∉ frs l)(h2:b≠e)(h3:b≠T):(hid h l e T).get? b=some o:=PySem.W.hideAll_get _ q (by
 intro z;rcases bM.mp z with z|z
 ·exact h1 z
 ·simp at z
  exact z.elim h2 h3)
theorem a09 (f:h.FunFrames base l):h.FunFrames (hid h l e T) l:=PySem.W.funFrames_hide f λenv he b hb=>bM.mpr (.inl<|aM4.mpr ⟨env,he,hb⟩)
theorem aE6 (st:base.StaysIn h)(f:h.FunFrames base l)(he:base.get? e=none)(hT:base.get? T=none):base.StaysIn (hid h l e T):=λb o q=>aS7 (st b o q) (λz=>by rw[(f.mem z).1]at q;cases q) (λz=>by rw[z,he]at q;cases q) λz=>by rw[z,hT]at q;cases q
theorem yB {B h':Heap}(st:base.StaysIn B): ∀{l:List Env},h'.FunFrames B l->h'.FunFrames base l
 | [],_=>trivial
 | env::_,⟨hk,⟨L,o,hf,hn,ho,hd⟩,hr⟩=>⟨hk,⟨L,o,hf,(by
   cases q:base.get? L with
   | none=>rfl
   | some u=>have:=st L u q;rw[hn]at this;cases this),ho,hd⟩,yB st hr⟩
theorem b79 {B:Heap}(st:base.StaysIn B){b:Addr}(q:B.get? b=none):base.get? b=none:=by
 cases z:base.get? b with
 | none=>rfl
 | some u=>have:=st b u z;rw[q]at this;cases this
theorem bW1 {l':List Env}{h':Heap}(x:Tr h e T)(st:(hid h l e T).StaysIn h')(t:h'.TracedAtW (hid h l e T) e cls a0 fl)(up:h.UpToSlots h'):aH4 (frs l) e h h':=by
 refine⟨λb o q h1 h2 h3=>st b o (aS7 q h1 h2 λz=>h3 (by rw[z];exact x)),up,λT' x'=> ?_,λT' x'=> ?_⟩
 ·obtain⟨T2,y,hn,_,_⟩:=bW0 t;obtain rfl:=x'.one y
  by_cases c1:T'∈frs l
  ·exact .inl c1
  by_cases c2:T'=e
  ·exact .inr (.inl c2)
  by_cases c3:T'=T
  ·exact .inr (.inr<|.inl (by rw[c3];exact x))
  refine .inr (.inr<|.inr ?_)
  cases q:h.get? T' with
  | none=>rfl
  | some o=>rw[aS7 q c1 c2 c3]at hn;cases hn
 ·obtain⟨T2,y,_,_,z⟩:=bW0 t;obtain rfl:=x'.one y;exact z
end
section
variable {M:Model}{A:Around}{E:Value->Shared->Prop}{s:Shared}{base:Heap}{env:Env}{outer:List Env}{L e:Addr}{cls a0:Value}{Q:Unit->Shared->Prop}
theorem cI0 (hfr:A.frames=some (env::outer))(hf:env.frame=some L)(F:FlyingW base (env::outer) e cls a0 s.heap)
  (hQ: ∀h',FlyingW base outer e cls a0 h'->aH4 (frs (env::outer)) e s.heap h'->Q () {s with heap:=h'}):wpAny M A (leaving env<|.ref e) Q E s:=by
 obtain⟨f1,f2,f3,f4⟩:=F;obtain⟨T,x,hT,_,_⟩:=bW0 (fl:= .none) f4;have stB:=aE6 (T:=T) f1 f3 f2 hT;refine wpAny_leaves_onW (base:=hid s.heap (env::outer) e T) hfr hf ⟨λb o q=>tL _ q,yA<|.inr<|.inl rfl,a09 f3,qD (fl:= .none) f4 x<|yA<|.inr<|.inr rfl⟩ λh' F' up=> ?_
 obtain⟨g1,g2,g3,g4⟩:=F';obtain⟨T',x',hT',_,_⟩:=bW0 (fl:= .none) g4;exact hQ h' ⟨λb o q=>g1 b o (stB b o q),f2,yB stB g3,qD (fl:= .none) g4 x'<|b79 stB hT'⟩ (bW1 (l':=outer) x g1 g4 up)
theorem cV7 (hfr:A.frames=some (env::outer))(hf:env.frame=some L)(F:FlyingW base (env::outer) e cls a0 s.heap)
  (hQ: ∀h',HeldW base (env::outer) e cls a0 L h'->aH4 (frs (env::outer)) e s.heap h'->Q () {s with heap:=h'}):wpAny M A (noteFrame (.ref e) env) Q E s:=by
 obtain⟨f1,f2,f3,f4⟩:=F;obtain⟨T,x,hT,_,_⟩:=bW0 (fl:= .none) f4;have stB:=aE6 (T:=T) f1 f3 f2 hT;refine wpAny_looks_onW (base:=hid s.heap (env::outer) e T) hfr hf ⟨λb o q=>tL _ q,yA<|.inr<|.inl rfl,a09 f3,qD (fl:= .none) f4 x<|yA<|.inr<|.inr rfl⟩ λh' F' up=> ?_
 obtain⟨g1,g2,g3,g4⟩:=F';obtain⟨T',x',hT',_,_⟩:=bW0 g4;exact hQ h' ⟨λb o q=>g1 b o (stB b o q),f2,yB stB g3,qD g4 x'<|b79 stB hT'⟩ (bW1 (l':=outer) x g1 g4 up)
theorem cV8 {l:List Env}{fl:Value}(F:base.StaysIn s.heap/\base.get? e=none/\s.heap.FunFrames base l/\s.heap.TracedAtW base e cls a0 fl)
  (hQ: ∀h',FlyingW base l e cls a0 h'->aH4 (frs l) e s.heap h'->Q () {s with heap:=h'}):wpAny M A (setFlight (.ref e) none) Q E s:=by
 obtain⟨f1,f2,f3,f4⟩:=F;obtain⟨T,x,hT,_,_⟩:=bW0 f4;have stB:=aE6 (T:=T) f1 f3 f2 hT;refine wpAny_setFlight_noneW (base:=hid s.heap l e T) (λb o q=>tL _ q) (a09 f3) (qD f4 x<|yA<|.inr<|.inr rfl) λh' g1 g3 g4 up=> ?_
 obtain⟨T',x',hT',_,_⟩:=bW0 (fl:= .none) g4;exact hQ h' ⟨λb o q=>g1 b o (stB b o q),f2,yB stB g3,qD (fl:= .none) g4 x'<|b79 stB hT'⟩ (bW1 (l':=l) (fl:= .none) x g1 g4 λb o q n=>⟨o.slots,up b o q n⟩)
theorem bW2 {oe:Obj}{vs:Array Value}(hfr:A.frames=some (env::outer))(hl:s.heap.FunFrames base (env::outer))(hf:env.frame=some L)(he:s.heap.get? e=some oe)(hkb:base.StaysIn s.heap)(hen:base.get? e=none)(hd:oe.data= .fields vs)(h1:vs[1]? =some .none)(h0:vs[0]? =some a0)
  (hQ: ∀h',FlyingW base outer e oe.cls a0 h'->aH4 (frs (env::outer)) e s.heap h'->Q () {s with heap:=h'}):wpAny M A (leaving env<|.ref e) Q E s:=by
 have stB:=aE6 (e:=e) (T:=e) hkb hl hen hen;have nt: ∀T,¬Tr s.heap e T:=by
  rintro T ⟨o,ws,k1,k2,k3⟩;rw[he]at k1;cases k1;rw[hd]at k2;cases k2;rw[h1]at k3;cases k3
 refine wpAny_leaving_firstW (base:=hid s.heap (env::outer) e e) hfr (a09 hl) hf he (λb o q=>tL _ q) (yA<|.inr<|.inl rfl) hd h1 h0 λh' F'=> ?_
 obtain⟨g1,⟨_,_,g3⟩,g4,up⟩:=F';obtain⟨T',x',hT',hne,hrec⟩:=bW0 (fl:= .none) g4;refine hQ h' ⟨λb o q=>g1 b o (stB b o q),hen,yB stB g3,qD (fl:= .none) g4 x'<|b79 stB hT'⟩ ⟨λb o q k1 k2 _=>g1 b o (aS7 q k1 k2 k2),up,λT x2=> ?_,λT x2=> ?_⟩
 ·obtain rfl:=x2.one x'
  by_cases c1:T∈frs (env::outer)
  ·exact .inl c1
  refine .inr (.inr<|.inr ?_)
  cases q:s.heap.get? T with
  | none=>rfl
  | some o=>rw[aS7 q c1 hne hne]at hT';cases hT'
 ·obtain rfl:=x2.one x';exact hrec
theorem cV9 (hfr:A.frames=some (env::outer))(hf:env.frame=some L)(F:FlyingW base (env::outer) e cls a0 s.heap)
  (hQ: ∀h',FlyingW base outer e cls a0 h'->bK5 (frs (env::outer)) e s.heap h'->Q () {s with heap:=h'}):wpAny M A (leaving env<|.ref e) Q E s:=
 bG (a07 (aS6 env<|.ref e)<|cI0 (Q:=λ_ s'=> ∃h',s'={s with heap:=h'}/\FlyingW base outer e cls a0 h'/\aH4 (frs (env::outer)) e s.heap h') hfr hf F λh' a b=>⟨h',rfl,a,b⟩) (λ_ s' ⟨⟨h',q,a,b⟩,dk⟩=>by subst q;exact hQ h' a ⟨b,dk⟩) λ_ _ z=>z.1
theorem d65 (hfr:A.frames=some (env::outer))(hf:env.frame=some L)(F:FlyingW base (env::outer) e cls a0 s.heap)
  (hQ: ∀h',HeldW base (env::outer) e cls a0 L h'->bK5 (frs (env::outer)) e s.heap h'->Q () {s with heap:=h'}):wpAny M A (noteFrame (.ref e) env) Q E s:=
 bG (a07 (bQ3 (.ref e) env)<|cV7 (Q:=λ_ s'=> ∃h',s'={s with heap:=h'}/\HeldW base (env::outer) e cls a0 L h'/\aH4 (frs (env::outer)) e s.heap h') hfr hf F λh' a b=>⟨h',rfl,a,b⟩) (λ_ s' ⟨⟨h',q,a,b⟩,dk⟩=>by subst q;exact hQ h' a ⟨b,dk⟩) λ_ _ z=>z.1
theorem c61 {l:List Env}{fl:Value}(F:base.StaysIn s.heap/\base.get? e=none/\s.heap.FunFrames base l/\s.heap.TracedAtW base e cls a0 fl)
  (hQ: ∀h',FlyingW base l e cls a0 h'->bK5 (frs l) e s.heap h'->Q () {s with heap:=h'}):wpAny M A (setFlight (.ref e) none) Q E s:=
 bG (a07 (a86 (.ref e) none)<|cV8 (Q:=λ_ s'=> ∃h',s'={s with heap:=h'}/\FlyingW base l e cls a0 h'/\aH4 (frs l) e s.heap h') F λh' a b=>⟨h',rfl,a,b⟩) (λ_ s' ⟨⟨h',q,a,b⟩,dk⟩=>by subst q;exact hQ h' a ⟨b,dk⟩) λ_ _ z=>z.1
theorem c62 {oe:Obj}{vs:Array Value}(hfr:A.frames=some (env::outer))(hl:s.heap.FunFrames base (env::outer))(hf:env.frame=some L)(he:s.heap.get? e=some oe)(hkb:base.StaysIn s.heap)(hen:base.get? e=none)(hd:oe.data= .fields vs)(h1:vs[1]? =some .none)(h0:vs[0]? =some a0)
  (hQ: ∀h',FlyingW base outer e oe.cls a0 h'->bK5 (frs (env::outer)) e s.heap h'->Q () {s with heap:=h'}):wpAny M A (leaving env<|.ref e) Q E s:=
 bG (a07 (aS6 env<|.ref e)<|bW2 (Q:=λ_ s'=> ∃h',s'={s with heap:=h'}/\FlyingW base outer e oe.cls a0 h'/\aH4 (frs (env::outer)) e s.heap h') hfr hl hf he hkb hen hd h1 h0 λh' a b=>⟨h',rfl,a,b⟩) (λ_ s' ⟨⟨h',q,a,b⟩,dk⟩=>by subst q;exact hQ h' a ⟨b,dk⟩) λ_ _ z=>z.1
end
structure Fly (base:Heap)(l:List Env)(e C:Addr)(H:Hp)(h:Heap):Prop where
 fl: ∃a0,FlyingW base l e (.ref C) a0 h
 he:H e=none
 ht: ∀T,Tr h e T->H T=none
structure bQ4 (g:Heap)(e:Addr)(h:Heap):Prop where
 he:g.get? e=none
 ht: ∀T,Tr h e T->g.get? T=none
def XAt (h:Heap)(a:Addr)(o:Option Addr):Prop:= ∀d,o=some d-> ∃oe,h.get? a=some oe/\oe.dict=some d
theorem XAt.dk {h h':Heap}{a:Addr}{o:Option Addr}(x:XAt h a o)(k:DK h h'):XAt h' a o:=λd q=>by
 obtain⟨oe,e1,e2⟩:=x d q;obtain⟨o',e3,e4⟩:=k a oe e1;exact⟨o',e3,e4.trans e2⟩
def CXr (P:Program)(w:World)(base:Heap):CXT:=λouter H s E e s'=> ∃a C o H',e= .ref a/\s'.os=s.os/\AllBare s'.gens/\Un (frs outer) [] H H' s.heap s'.heap/\HOk P w H' s'.heap/\Fly base outer a C H' s'.heap/\bQ4 s.heap a s'.heap/\XAt s'.heap a o/\E (.ref C) o H'
section
variable {P:Program}{w:World}{H H0:Hp}{h h':Heap}{fs:List Addr}{e:Addr}
theorem HOk.past (x:HOk P w H h)(p:bK5 fs e h h')(hf: ∀b∈fs,H b=none)(he:H e=none)(ht: ∀T,Tr h e T->H T=none):HOk P w H h':=λa o q=>
 (x a o q).stay (λb u hb r=>by
  have tracked:H b≠none:=by
   rcases hb with rfl|hb
   ·rw[q];simp
   ·rw[hb];simp
  exact p.keep b u r (λz=>tracked (hf b z)) (λz=>tracked (by rw[z];exact he)) λz=>tracked (ht b z)) (λ_ q=>q) λ_ _ q=>q
theorem HOk.there (x:HOk P w H h){b:Addr}(n:h.get? b=none):H b=none:=by
 cases q:H b with
 | none=>rfl
 | some o=>
  exfalso
  have hh: ∃ob,h.get? b=some ob:=by
   have y:=x b o q;cases o with
   | lst xs=>obtain⟨_,_,_,_,e⟩:=y;exact⟨_,e⟩
   | tup xs=>obtain⟨_,_,_,ob,e,_⟩:=y;exact⟨_,e⟩
   | dK kvs=>obtain⟨_,_,_,_,o,_,_,e,_⟩:=y;exact⟨_,e⟩
   | dT kvs=>obtain⟨_,_,_,_,o,_,_,e,_⟩:=y;exact⟨_,e⟩
   | set S n=>obtain⟨o,_,_,_,e,_⟩:=y;exact⟨_,e⟩
   | ins C dx fs=>obtain⟨_,_,_,e,_⟩:=y;exact⟨_,e⟩
   | own y'=>exact y
   | xd fs=>obtain⟨_,⟨_,_,_,e,_⟩,_⟩:=y;exact⟨_,e⟩
   | rng lo hi=>obtain⟨_,_,_,e⟩:=y;exact⟨_,e⟩
   | frz ob u=>obtain⟨e,_⟩:=y;exact⟨_,e⟩
   | tbl ps=>exact⟨_,(show h.get? b=some _ from y)⟩
   | met f y'=>exact⟨_,(show h.get? b=some _ from y)⟩
   | ext φ=>obtain⟨_,e,_⟩:=y;exact e
  obtain⟨ob,e⟩:=hh;rw[n]at e;cases e
theorem b80 (x:HOk P w H h)(p:bK5 fs e h h')(hf: ∀b∈fs,H b=none)(he:H e=none)(ht: ∀T,Tr h e T->H T=none): ∀T,Tr h' e T->H T=none:=λT q=>by
 rcases p.tr T q with z|z|z|z
 ·exact hf T z
 ·rw[z];exact he
 ·exact ht T z
 ·exact x.there z
end
section
variable {X:Cx}{pins:List (Addr×Obj)}{σ:St}{H:Hp}{s:Shared}{h':Heap}{e:Addr}
theorem Un.past {fs fs':List Addr}{H0:Hp}{g:Heap}{L:Addr}(u:Un fs [] H0 H g s.heap)(p:bK5 fs' e s.heap h')(hfs: ∀b∈fs',b=L\/b∈fs)(hL:g.get? L=none)(ne:g.get? e=none)(nt: ∀T,Tr s.heap e T->g.get? T=none)(hd: ∀b∈fs,∀o,s.heap.get? b=some o-> ∀vs,o.data≠ .fields vs):Un fs [] H0 H g h' where
 keep:=λb o q n hb hx=>p.keep b o (u.keep b o q n hb hx) (λz=>by
  rcases hfs b z with z|z
  ·rw[z,hL]at q;cases q
  ·exact hb z) (λz=>by rw[z,ne]at q;cases q) λz=>by rw[nt b z]at q;cases q
 slot:=λb o q n hb hx=>by
  obtain⟨sl,e1⟩:=u.slot b o q n hb hx;obtain⟨sl',e2⟩:=p.slot b _ e1 (hd b hb _ e1);exact⟨sl',e2⟩
 free:=u.free
 there:=λb o q hx=>by
  obtain⟨o',e1⟩:=u.there b o q hx
  by_cases c:b∈fs
  ·obtain⟨sl,e2⟩:=p.slot b _ e1 (hd b c _ e1);exact⟨_,e2⟩
  ·exact⟨o',p.keep b o' e1 (λz=>by
    rcases hfs b z with z|z
    ·rw[z,hL]at q;cases q
    ·exact c z) (λz=>by rw[z,ne]at q;cases q) λz=>by rw[nt b z]at q;cases q⟩
 tups:=u.tups
 frzs:=u.frzs
 tbls:=u.tbls
end
section
variable {P:Program}{w:World}{K:Frag}{mg:Str->Option Value}{base:Heap}{N:List Str}{qual:Str}{scope:Scope}{f:Addr}{cd:Value}{A:Around}{outer:List Env}{s0:Shared}{H0:Hp}{E:XK}{CX:CXT}
theorem d66 {pins:List (Addr×Obj)}{σ:St}{H:Hp}{s':Shared}{a C:Addr}{o:Option Addr}(I:Inv (u5 (CXr P w base) P w K mg base N qual scope f cd A outer s0 H0 E) pins σ H s')(F:Fly base (envOfC qual scope s0.heap.objs.size f cd::outer) a C H s'.heap)(nw:bQ4 s0.heap a s'.heap)(xa:XAt s'.heap a o)(hE:E (.ref C) o H) :
  (u5 (CXr P w base) P w K mg base N qual scope f cd A outer s0 H0 E).xe (.ref a) s':=by
 obtain⟨⟨a0,fl⟩,he,ht⟩:=F;have fr:(A.deeper<|envOfC qual scope s0.heap.objs.size f cd).frames=some (envOfC qual scope s0.heap.objs.size f cd::outer):=I.ok.frames;have sf: ∀b∈frs (envOfC qual scope s0.heap.objs.size f cd::outer),H b=none:=I.stkFree;have fm: ∀b∈frs (envOfC qual scope s0.heap.objs.size f cd::outer),b=s0.heap.objs.size\/b∈frs outer:=λb hb=>by
  unfold frs at hb⊢;rw[jT]at hb;have e:(envOfC qual scope s0.heap.objs.size f cd).frame=some s0.heap.objs.size:=rfl;rw[e]at hb;exact aX.mp hb
 show wpAny _ _ (leaving _<|.ref a) _ _ s'
 refine cV9 fr (L:=s0.heap.objs.size) rfl fl λh' fl' p=> ?_
 have hd: ∀b∈frs outer,∀o,s'.heap.get? b=some o-> ∀vs,o.data≠ .fields vs:=λb hb o q=>by
  obtain⟨_,o',q',n⟩:=fl.2.2.1.mem (b:=b) (by
   unfold frs at hb;rw[jT];have e:(envOfC qual scope s0.heap.objs.size f cd).frame=some s0.heap.objs.size:=rfl;rw[e];exact aX.mpr (.inr hb))
  rw[q]at q';cases q';exact n
 have un:Un (frs outer) [] H0 H s0.heap h':=I.base.past p fm (kT<|aE _) nw.he nw.ht hd;refine⟨a,C,o,H,rfl,I.os,I.bare,un,I.hok.past p sf he ht,⟨⟨a0,fl'⟩,he,b80 I.hok p sf he ht⟩,⟨nw.he,λT q=> ?_⟩,xa.dk p.dk,hE⟩
 rcases p.tr T q with z|z|z|z
 ·rcases fm T z with z|z
  ·rw[z];exact kT (aE _)
  ·exfalso
   obtain⟨o,vs,q1,q2⟩:=p.rcd T q;obtain⟨_,o',q',n⟩:=fl'.2.2.1.mem (b:=T) z;rw[q1]at q';cases q';exact n vs q2
 ·rw[z];exact nw.he
 ·exact nw.ht T z
 ·cases r:s0.heap.get? T with
  | none=>rfl
  | some o=>
   obtain⟨o',q'⟩:=I.base.there T o r (show T ∉ ([]:List Addr)by simp)
   rw[z]at q';cases q'
theorem dR4:wG (CXr P w base) (u5 (CXr P w base) P w K mg base N qual scope f cd A outer s0 H0 E) E:=by
 rintro pins σ H s e s' I ⟨a,C,o,H',rfl,ho,hb,un,hok,F,nw,xa,hE⟩;have I':=I.call' (s':=s') ho un hok hb (λb z=>absurd z ae)
 refine d66 I' F ⟨?_,λT q=> ?_⟩ xa hE
 ·cases r:s0.heap.get? a with
  | none=>rfl
  | some o=>
   obtain⟨o',q'⟩:=I.base.there a o r (show a ∉ ([]:List Addr)by simp)
   rw[nw.he]at q';cases q'
 ·have:=nw.ht T q;cases r:s0.heap.get? T with
  | none=>rfl
  | some o=>
   obtain⟨o',q'⟩:=I.base.there T o r (show T ∉ ([]:List Addr)by simp)
   rw[this]at q';cases q'
end
structure XCls (h:Heap)(C:Addr)(bmB bm:List Value)(newId:String):Prop where
 ex: ∃(nm q:Str) (N:Addr) (bs:List Value) (hd:Bool) (sn:List Str) (sub:List Value) (ab:Bool) (col:Option Bool) (dd:Option Addr) (k0 k1 k2 k3 k5:Option Value) (mN:Str->Option Value),
  h.get? C=some (excClassObj nm q C N bs bm hd sn sub ab col dd k0 k1 k2 k3 k5 newId)/\h.Ns N mN/\mN "__init__"=none
 tl:OwnTail h bmB bm
theorem bW3 {K:Frag}{h:Heap}{C:Addr}{bmB:List Value}{newId:String}(X:K.In h)(q:excIn K C bmB newId=true): ∃bm,XCls h C bmB bm newId:=by
 unfold excIn at q;split at q
 ·rename_i od ck slots look
  split at q
  ·rename_i C2 tail a0 a1 a2 a3 nid a5 em es
   simp only[dW,gO,aN1]at q;obtain⟨⟨⟨⟨⟨rfl,rfl⟩,nodel⟩,tk⟩,nk⟩,ni⟩:=q;obtain⟨c1,c2,c3,c4,c5,c6,c7,c8,c9,c10,c11⟩:=ck;dsimp only at em nodel nk ni;subst em nodel;obtain⟨sll⟩:=slots;simp only at es;subst es;exact⟨tail,⟨⟨_,_,_,_,_,_,_,_,_,_,_,_,_,_,_,_,X _ _ look,.of_isNs<|PySem.W.isNs_of_in X nk,PySem.W.nsMap_none_of_in X nk ni⟩,PySem.W.tail_of_in X tk⟩⟩
  ·cases q
 ·cases q
section
variable {X:Cx}{E:XK}{C:Addr}
def bB8 (X:Cx)(E:XK)(C:Addr):Prop:= ∀(pins:List (Addr×Obj)) (σ:St) (H:Hp) (s:Shared) (a:Addr) (oe:Obj) (vs:Array Value) (a0:Value) (o:Option Addr),Inv X pins σ H s->s.heap.get? a=some oe->oe.cls= .ref C->oe.data= .fields vs->vs[0]? =some a0->vs[1]? =some .none->H a=none->X.s₀.heap.get? a=none->XAt s.heap a o->E (.ref C) o H->X.xe (.ref a) s
theorem cI1 {P:Program}{w:World}{K:Frag}{mg:Str->Option Value}{base:Heap}{N:List Str}{qual:Str}{scope:Scope}{f:Addr}{cd:Value}{A:Around}{outer:List Env}{s0:Shared}{H0:Hp} :
  bB8 (u5 (CXr P w base) P w K mg base N qual scope f cd A outer s0 H0 E) E C:=by
 intro pins σ H s a oe vs a0 o I he hc hd h0 h1 nH n0 xa hE;have fr:(A.deeper<|envOfC qual scope s0.heap.objs.size f cd).frames=some (envOfC qual scope s0.heap.objs.size f cd::outer):=I.ok.frames;have sf: ∀b∈frs (envOfC qual scope s0.heap.objs.size f cd::outer),H b=none:=I.stkFree;have fl0:s.heap.FunFrames base (envOfC qual scope s0.heap.objs.size f cd::outer):=I.stack
 have fe:(envOfC qual scope s0.heap.objs.size f cd).frame=some s0.heap.objs.size:=rfl;have fm: ∀b∈frs (envOfC qual scope s0.heap.objs.size f cd::outer),b=s0.heap.objs.size\/b∈frs outer:=λb hb=>by
  unfold frs at hb⊢;rw[jT,fe]at hb;exact aX.mp hb
 have nt: ∀T,¬Tr s.heap a T:=by
  rintro T ⟨o,ws,k1,k2,k3⟩;rw[he]at k1;cases k1;rw[hd]at k2;cases k2;rw[h1]at k3;cases k3
 have nb:base.get? a=none:=by
  cases q:base.get? a with
  | none=>rfl
  | some o=>rw[(I.ok.bs a o q).1]at n0;cases n0
 have st:base.StaysIn s.heap:=I.bk;show wpAny _ _ (leaving _<|.ref a) _ _ s;refine c62 fr fl0 (L:=s0.heap.objs.size) rfl he st nb hd h1 h0 λh' fl' p=> ?_
 rw[hc]at fl';have hdf: ∀b∈frs outer,∀o,s.heap.get? b=some o-> ∀vs,o.data≠ .fields vs:=λb hb o q=>by
  obtain⟨_,o',q',n⟩:=fl0.mem (b:=b) (by
   unfold frs at hb;rw[jT,fe];exact aX.mpr (.inr hb))
  rw[q]at q';cases q';exact n
 have un:Un (frs outer) [] H0 H s0.heap h':=I.base.past p fm (kT<|aE _) n0 (λT q=>absurd q (nt T)) hdf
 have ht: ∀T,Tr s.heap a T->H T=none:=λT q=>absurd q (nt T)
 refine⟨a,C,o,H,rfl,I.os,I.bare,un,I.hok.past p sf nH ht,⟨⟨a0,fl'⟩,nH,b80 I.hok p sf nH ht⟩,⟨n0,λT q=> ?_⟩,xa.dk p.dk,hE⟩
 rcases p.tr T q with z|z|z|z
 ·rcases fm T z with z|z
  ·rw[z];exact kT (aE _)
  ·exfalso
   obtain⟨o,ws,q1,q2⟩:=p.rcd T q;obtain⟨_,o',q',n⟩:=fl'.2.2.1.mem (b:=T) z;rw[q1]at q';cases q';exact n ws q2
 ·rw[z];exact n0
 ·exact absurd z (nt T)
 ·cases r:s0.heap.get? T with
  | none=>rfl
  | some o=>
   obtain⟨o',q'⟩:=I.base.there T o r (show T ∉ ([]:List Addr)by simp)
   rw[z]at q';cases q'
def d67 (C:Addr)(E:XK)(ta:TA):TS:=λ_ σ H=>ta σ H λvs H1=>vs.length<=sizeLine/\E (.ref C) none H1
theorem d68 {x:Str}{np cpos pos:Pos}{e:Expr}{es:List Expr}{ta:TA}{B newId initId:String}{bmB:List Value}(FB:ExcBaseFacts B newId initId bmB)(q:excIn X.K C bmB newId=true)(hg:Gl X x)(hm:X.mg x=some (.ref C))(hc:X.calm=true)(ha:PA X (e::es) ta)(th:bB8 X E C)
  (he:starEach (e::es) X.env=(false,eval e X.env)::starEach es X.env:=by rfl) (hpl:(backTo cpos<|starEach es X.env).any (·.1)=false:=by rfl) (hd:(x==("__debug__":Str))=false:=by decide) (hex:X.ex=[]:=by rfl) :
  PS X (.Raise (some<|.Call (.Name x np) (e::es) [] cpos) none pos) (d67 C E ta):=by
 intro pins s σ H D I h;obtain⟨bm,⟨⟨nm,qn,N,bs,hdd,sn,sub,ab,col,dd,k0,k1,k2,k3,k5,mN,hC,hN,hni⟩,tl⟩⟩:=bW3 I.mod.kin q;have keepS: ∀{pins:List (Addr×Obj)} {σ:St} {H:Hp} {s2:Shared},Inv X pins σ H s2-> ∀b o,X.base.get? b=some o->s2.heap.get? b=some o:=λJ=>J.bk
 refine wpAny_Raise_call_subT (C:=C) (nm:=nm) (q:=qn) (N:=N) (bs:=bs) (bm:=bm) (hdct:=hdd) (sn:=sn) (sub:=sub) (ab:=ab) (col:=col) (dd:=dd) (k0:=k0) (k1:=k1) (k2:=k2) (k3:=k3) (k5:=k5) FB (mN:=mN) (tl.hasType FB.hasBase) (I.ok.hd hc) ?_ hni (vK I hg hm ⟨rfl,?_⟩ hd)
 ·rw[he];show(false||(backTo cpos<|starEach es X.env).any (·.1))=false;rw[hpl];rfl
 ·have hh:=ha cpos pins s σ H _ I h;rw[he]at hh⊢;refine aL3 (bG hh (λus s2 ⟨vs,H1,I1,r1,q1⟩=>⟨rfl,by rw[<-r1.length];exact q1.1,keepS I1 _ _ hC,hN.keeps<|keepS I1,tl.keeps<|keepS I1,λh' a mk=> ?_⟩) λ_ _ y=>y)
  obtain⟨t,m1,m2,m3⟩:=mk.there;have I2:Inv X pins σ H1 {s2 with heap:=h'}:=I1.kept mk.keeps;refine th pins σ H1 _ a _ _ (.ref t) none I2 m1 rfl rfl rfl rfl (I1.hok.there mk.new) ?_ (λd z=>by cases z) q1.2
  cases r:X.s₀.heap.get? a with
  | none=>rfl
  | some o=>
   obtain⟨o',q'⟩:=I1.base.there a o r (by rw[hex];simp)
   rw[mk.new]at q';cases q'
end
section
variable {prog:Program}{w:World}{A:Around}{E:Value->Shared->Prop}{hp:Heap}{gn:Array GenState}{dr:Drawn}{tn:Nat}{os:OsState}
variable {nm qn:Str}{C N:Addr}{bs bm bmB:List Value}{hdd:Bool}{sn:List Str}{sub:List Value}{ab:Bool}{col:Option Bool}{dd:Option Addr}{k0 k1 k2 k3 k5:Option Value}{B newId initId:String}
theorem cI2 (F:ExcBaseFacts B newId initId bmB)(T:OwnTail hp bmB bm){mN:Str->Option Value}{us:List Value}{fI:Addr}{oI:Obj}{Q:Fin->Shared->Prop}
  (hC:hp.get? C=some (excClassObj nm qn C N bs bm hdd sn sub ab col dd k0 k1 k2 k3 k5 newId)) (hN:hp.Ns N mN) (hini:mN "__init__"=some (.ref fI)) (hfun:hp.get? fI=some oI) (hcls:oI.cls= .type "function")
  (hgo: ∀h' e,MadeExcOf hp h' e (.ref C) us->wpAny (model prog w) A (call (.ref fI) (.ref e::us)) (λr s'=>r= .none/\Q (.done<|.ret<|.ref e) s') E ⟨h',gn,dr,tn,os⟩) (hus:us.length<=sizeLine) :
  wpAny (model prog w) A (Builtin.«type.__call__» ⟨.ref C::us,[]⟩) Q E ⟨hp,gn,dr,tn,os⟩:=by
 repeat (first
  | with_reducible refine nI hC ?_
  | with_reducible refine wpAny_madeBy_exc hC ?_
  | wp_step)
 refine codeAny_call_builtin_code (Code.quiet_builtin _ F.quiet) (wpAny_check_new_subT F T hC ?_)
 refine codeAny_exc_new_subT F T hC ?_ hus
 show wpAny _ _ _ _ _ _
 generalize ea:({cls:= .type "tuple",data:= .seq us.toArray}:Obj)=oa;generalize eb:({cls:= .ref C,data:= .fields #[.ref hp.objs.size,.none,.none,.none,.bool false,.none]}:Obj)=ob;have up: ∀b o,hp.get? b=some o->((hp.push oa).push ob).get? b=some o:=λb o q=>aS _ (aS _ q)
 have g1:=up _ _ hC;have g2:=up _ _ hfun;have g3:=hN.keeps up;have g4:((hp.push oa).push ob).get? (hp.objs.size+1)=some ob:=by
  subst ea eb
  heap_get
 have g5:((hp.push oa).push ob).get? hp.objs.size=some oa:=by
  subst ea;exact aS _ (Heap.get?_push_at rfl rfl)
 have g6:=T.keeps up;have me:(Value.ref C::bm).contains (.ref C)=true:=ae
 have ec:ob.cls= .ref C:=by rw[<-eb]
 unfold isInstance
 repeat (first
  | (with_reducible refine nI g4 ?_;rw[ec])
  | (with_reducible refine zD g1 ?_;rw[me])
  | wp_step)
 show wpAny _ _ (typeLookup (.ref C) _) _ _ _
 refine wpAny_typeLookup_tail g1 g3 g6 F.mroIs F.init.lookup ?_
 rw[hini];refine j3 (a8 ?_);unfold bindSpecial;refine a8 (zQ (T:="function") ⟨_,g2,hcls⟩ ?_);rw[a7 ac]
 have mk:MadeExcOf hp ((hp.push oa).push ob) (hp.objs.size+1) (.ref C) us:=⟨up,kT<|tW _,hp.objs.size,by rw[g4,<-eb],kT<|aE _,by rw[g5,<-ea]⟩
 refine aH (a8<|bG (hgo _ _ mk) (λr s' z=> ?_) λ_ _ z=>z)
 obtain⟨rfl,z⟩:=z
 wp_walk
 exact z
theorem xcall (F:ExcBaseFacts B newId initId bmB)(T:OwnTail hp bmB bm){mN:Str->Option Value}{us:List Value}{fI:Addr}{oI:Obj}{Q:Value->Shared->Prop}
  (hC:hp.get? C=some (excClassObj nm qn C N bs bm hdd sn sub ab col dd k0 k1 k2 k3 k5 newId)) (hN:hp.Ns N mN) (hini:mN "__init__"=some (.ref fI)) (hfun:hp.get? fI=some oI) (hcls:oI.cls= .type "function")
  (hgo: ∀h' e,MadeExcOf hp h' e (.ref C) us->wpAny (model prog w) (A.under<|.builtin "type.__call__" ⟨.ref C::us,[]⟩) (call (.ref fI) (.ref e::us)) (λr s'=>r= .none/\Q (.ref e) s') E ⟨h',gn,dr,tn,os⟩) (hus:us.length<=sizeLine) :
  wpAny (model prog w) A (call (.ref C) us) Q E ⟨hp,gn,dr,tn,os⟩:=by
 have t1:=tc_lookup;have t2:=tc_bind (.ref C);have t3:(⟨hp,gn,dr,tn,os⟩:Shared).TypeIs (.ref C) "type":=⟨_,hC,rfl⟩;refine tZ (codeAny_of_tree ?_);show wpAny _ _ (callAny (.ref C) _) _ _ _
 repeat (any_goals (first
  | assumption
  | with_reducible refine nI hC ?_
  | wp_step))
 refine⟨rfl,?_⟩
 exact codeAny_call_builtin_at (Code.quiet_builtin _ af) entry_typeCall (wpAny_check_type_call_sub hC<|cI2 F T hC hN hini hfun hcls (λh' e mk=>hgo h' e mk) hus)
end
end L2
end
section
namespace L2
open PySem PySem.Spec PyProof.Rows
open Builtin Builtin.ObjectAttr
noncomputable def veMro:List Value:=[.type "ValueError",.type "Exception",.type "BaseException",.type "object"]
noncomputable def uB:List Value->Bool
 | []=>false
 | v::r=>(v::r)==veMro||match v with
  | .ref _=>uB r
  | _=>false
theorem b33 (self:Value): ∀{l:List Value},uB l=true->refuseLoop self "__setattr__" l=pure ()
 | v::r,e=>by
  unfold uB at e;rcases Bool.or_eq_true_iff.mp e with q|q
  ·rw[gO.mp q];exact PySem.F.store_ValueError.passes self
  ·split at q
   ·rw[refuseLoop_ref];exact b33 self q
   ·cases q
theorem bB9: ∀{l:List Value},uB l=true->l.contains (.type "object")=true/\l.isEmpty=false
 | v::r,e=>by
  refine⟨?_,rfl⟩
  unfold uB at e;rcases Bool.or_eq_true_iff.mp e with q|q
  ·rw[gO.mp q];decide
  ·split at q
   ·rw[aM7,(bB9 q).1,Bool.or_true]
   ·cases q
section
variable {K:Frag}{prog:Program}{w:World}{A:Around}{E:Value->Shared->Prop}{s:Shared}{x C:Addr}{mA:Str->Option Value}{ns:List Str}{name:Str}{v:Value}{cd:ClassData}
theorem xosa {R:Result->Shared->Prop}{tk:Tok}(X:K.In s.heap)(hc:clsIn K C=some cd)(hm:uB cd.mro=true)(hdct:cd.hasDict=true)(ht:findIn K (.ref C) name=some none)
  (I:s.heap.Inst x C mA) (hw:Within mA ns) (hsz:ns.length<=100) {od:Option Obj} {o:Obj} (hx:s.heap.get? x=some o) (J:InstAt s.heap x o C od)
  (hq: ∀h' tk,h'.Inst x C (λy=>if y=name then some v else mA y)->(∀b o,b≠x->(∀o0 dx,s.heap.get? x=some o0->o0.dict=some dx->b≠dx)->s.heap.get? b=some o->h'.get? b=some o)->
   (∀o0,s.heap.get? x=some o0-> ∃o1,h'.get? x=some o1/\o1.cls=o0.cls/\o1.data=o0.data/\ ∀dx,o1.dict=some dx->o0.dict=some dx\/(s.heap.objs.size<=dx))->R (.ok<|.ret .none) {s with heap:=h',toks:=tk}) :
  codeAny (model prog w) A (.call (.builtin "object.__setattr__") ⟨[.ref x,.str name tk,v],[]⟩) R s:=by
 have SF:=PySem.F.store_ValueError;have sub:PySem.W.Looks (model prog w) s.heap (isInstance (.ref x)<|.type "object") true:=J.type.andThen (PySem.W.looks_mroIn X (by unfold PySem.W.mroIn;rw[hc,bind_some,a6 (by rw[(bB9 hm).2];decide),(bB9 hm).1]))
 refine codeAny_call_builtin SF.slot.plain SF.entry (@PySem.W.check_slot (model prog w) _ _ s "object.__setattr__" "object" "__setattr__" (.ref x) [.str name tk,v] [] _ SF.kind SF.split sub (SF.args (.ref x) (.str name tk) v) ?_)
 have hmr:PySem.W.Looks (model prog w) s.heap (mroOf<|.ref C) cd.mro:=(aM1 X hc).andThen .now;rw[PySem.W.osa_eq,refuse_eq];refine a8 (a8<|J.type.here<|a8<|hmr.here ?_);rw[b33 _ hm];refine aH (a8<|J.type.here<|a8<|(PySem.W.looks_findIn X ht).here<|a8<|aH ?_);have lc:=aM1 (M:=model prog w) X hc;obtain⟨o',hx',hcl,hnc,hdd⟩:=I;rw[hx]at hx';cases hx';refine a8 (aH ?_);refine a8 ?_
 show wpAny _ _ (instanceDict x true) _ _ s
 unfold instanceDict;refine a8 (wpAny_loadPart hx ?_);rw[hcl];dsimp only;refine a8 (lc.here ?_);rw[hdct];rw[a6 ac]
 clear sub hmr lc;obtain⟨hp,gn,dr,tn,os⟩:=s;dsimp only at *;have put: ∀(h1:Heap) (dx:Addr) (o1:Obj),h1.get? x=some o1->o1.cls= .ref C->(∀c,o1.data≠ .cls c)->o1.dict=some dx->dx≠x->h1.Ns1 dx mA->o1.data=o.data->(∀b ob,b≠x->hp.get? b=some ob->h1.get? b=some ob)->(o.dict=some dx\/hp.objs.size<=dx)->
   wpAny (model prog w) A.in1 (storeInDict dx (.str name tk) name v) (λfin s'=>match fin with| .done f=>R (.ok f) s'| .again c'=>c'.quiet=true/\codeAny (model prog w) A c' R s') (λe s'=>R (.error e) s') ⟨h1,gn,dr,tn,os⟩:=by
  intro h1 dx o1 g1 g2 g3 g4 g5 g6 g7 g8 g9;unfold storeInDict newKeyGuard;refine a8 (aH<|a8<|wpAny_nsSet1 g6 λh' n' sb=> ?_)
  obtain⟨oD,eD,pD,q1,q2,q3⟩:=n'.count (Within.cons name v hw);have few:eD.size<=sizeLine:=by
   refine aM q3 ?_
   rw[eO,sizeLine_eq]
   lia
  refine a8 (wpAny_lookBehind q1 (by rw[q2];exact pastItsLine_dict (aN2 few)) ?_)
  have gx:h'.get? x=some o1:=(sb.2 x<|Ne.symm g5).trans g1;refine aH (hq h' _ ⟨o1,gx,g2,g3,.inr ⟨dx,g4,g5,n'⟩⟩ (λb ob k1 k2 k3=> ?_) λo0 k1=> ?_)
  ·have nb:b≠dx:=by
    rcases g9 with z|z
    ·exact k2 o dx hx z
    ·intro q;have:=aT k3;rw[q]at this;exact absurd (aY this z) (dI _)
   exact(sb.2 b nb).trans (g8 b ob k1 k3)
  ·rw[hx]at k1;cases k1;exact⟨o1,gx,by rw[g2,hcl],g7,λdx' z=>by rw[g4]at z;cases z;exact g9⟩
 rcases hdd with⟨hn,hmA⟩| ⟨dx,hdx,hne,hns⟩
 ·rw[hn];dsimp only;rw[a6<|by simp[typeHasDict]]
  have ex: ∀d':Data,d'=o.data->wpAny (model prog w) A.in1 (match d' with
     | .cls c=>pure none
     | _=>do
      let d<-alloc {cls:=Value.type "dict",data:=Data.dict #[]}
      update x λo=>{cls:=o.cls,dict:=some d,data:=o.data,slots:=o.slots}
      dictMade (Value.ref C) x d) (λa s'=>wpAny (model prog w) A.in1 (match a with|some d=>storeInDict d (.str name tk) name v|none=>noDictFor (.ref x) (.ref C) name (none:Option Value).isSome) (λfin s'=>match fin with| .done f=>R (.ok f) s'| .again c'=>c'.quiet=true/\codeAny (model prog w) A c' R s') (λe s'=>R (.error e) s') s') (λe s'=>R (.error e) s') ⟨hp,gn,dr,tn,os⟩:=by
   intro d' ed;split
   ·rename_i c
    exact absurd ed.symm (hnc c)
   ·have x1:(hp.push {cls:= .type "dict",data:= .dict #[]}).get? x=some o:=aS _ hx;have xs:x≠hp.objs.size:=bD (aT hx);refine a8 (wpAny_alloc'<|a8<|wpAny_update' x1<|aH ?_);have alive:Obj.isFreed {cls:=o.cls,dict:=some hp.objs.size,data:=o.data,slots:=o.slots}=false:=by
     have:=(Heap.get?_some_iff.mp hx).2;obtain⟨c1,c2,c3,c4⟩:=o;cases c3<;>first|rfl|exact this
    have gd:((hp.push {cls:= .type "dict",data:= .dict #[]}).update x λo=>{cls:=o.cls,dict:=some hp.objs.size,data:=o.data,slots:=o.slots}).get? hp.objs.size=some {cls:= .type "dict",data:= .dict #[]}:=
     (zC _ _ _ _<|Ne.symm xs).trans (Heap.get?_push_at rfl rfl)
    refine put _ hp.objs.size {cls:=o.cls,dict:=some hp.objs.size,data:=o.data,slots:=o.slots} (pJ _ x1 alive) hcl hnc rfl (Ne.symm xs) ?_ rfl (λb ob k1 k2=>(zC _ _ _ _ k1).trans (aS _ k2)) (.inr<|aE _)
    have e0:mA=λ_=>none:=funext hmA
    rw[e0];exact Heap.Ns1.of_empty ⟨_,#[],_,gd,rfl,λe he=>absurd he ae,λ_=>rfl⟩
  exact ex o.data rfl
 ·rw[hdx];exact aH (put hp dx o hx hcl hnc hdx hne hns rfl (λb ob _ k=>k) (.inl hdx))
theorem xset {Q:Unit->Shared->Prop}(X:K.In s.heap)(hc:clsIn K C=some cd)(hm:uB cd.mro=true)(hdct:cd.hasDict=true)(hsa:findIn K (.ref C) "__setattr__"=some (some<|.builtin "object.__setattr__"))(ht:findIn K (.ref C) name=some none)
  (I:s.heap.Inst x C mA) (hw:Within mA ns) (hsz:ns.length<=100)
  (hq: ∀h' tk,h'.Inst x C (λy=>if y=name then some v else mA y)->(∀b o,b≠x->(∀o0 dx,s.heap.get? x=some o0->o0.dict=some dx->b≠dx)->s.heap.get? b=some o->h'.get? b=some o)->
   (∀o0,s.heap.get? x=some o0-> ∃o1,h'.get? x=some o1/\o1.cls=o0.cls/\o1.data=o0.data/\ ∀dx,o1.dict=some dx->o0.dict=some dx\/(s.heap.objs.size<=dx))->Q () {s with heap:=h',toks:=tk}) :
  wpAny (model prog w) A (setAttr (.ref x) name v) Q E s:=by
 have I':=I;obtain⟨o,hx,hcl,hnc,hdd⟩:=I;have J: ∃od,InstAt s.heap x o C od:=by
  rcases hdd with⟨e,_⟩| ⟨dx,e,_,od,es,ep,ge,_⟩
  ·exact⟨none,hx,hcl,(by unfold PySem.W.notCls;split<;>first|rfl| (rename_i c q;exact absurd q (hnc c))),by rw[e];trivial⟩
  ·exact⟨some od,hx,hcl,(by unfold PySem.W.notCls;split<;>first|rfl| (rename_i c q;exact absurd q (hnc c))),by rw[e];exact ge⟩
 obtain⟨od,J⟩:=J;refine PySem.W.set_plain X J hsa ?_;exact xosa (s:={s with toks:=s.toks+1}) X hc hm hdct ht I' hw hsz hx J λh' tk a b c=>hq h' tk a b c
end
end L2
end
section
namespace L2
open PySem PySem.Spec PyProof.Rows
structure c63 (K:Frag)(C fI:Addr)(fd:FuncData)(f1 f2:Str):Prop where
 ex: ∃(oc:Value) (od:Option Addr) (nm qual:Str) (params:Arguments) (scope:Scope) (kV doc pm:Value) (an:Option Addr) (cdv ct:Value) (osl:Array (Option Value)) (x0 x1 x2:Str) (p1 p2 p3 p4 p5 p6 p7 p8:Pos),
  fd=fnOf nm qual params [.Assign [.Attribute (.Name x0 p1) f1 p2] (.Name x1 p3) p4,.Assign [.Attribute (.Name x0 p5) f2 p6] (.Name x2 p7) p8] scope .none kV doc pm an cdv ct/\
  K.lookup fI=some ⟨oc,od,.func fd,osl⟩/\oc= .type "function"/\codeIn K cdv qual=true/\aW [x0,x1,x2] [x0,x1,x2] scope/\
  scope.names.lookup x0=some .local/\scope.names.lookup x1=some .local/\scope.names.lookup x2=some .local/\(x0==("__debug__":Str))=false/\(x1==("__debug__":Str))=false/\(x2==("__debug__":Str))=false/\Binds K fd [x0,x1,x2] []
 cls: ∃cd,clsIn K C=some cd/\uB cd.mro=true/\cd.hasDict=true
 sa:findIn K (.ref C) "__setattr__"=some (some<|.builtin "object.__setattr__")
 n1:findIn K (.ref C) f1=some none
 n2:findIn K (.ref C) f2=some none
def Laid (C e:Addr)(f1 f2:Str)(v1 v2:V)(s s':Shared):Prop:=s'.os=s.os/\AllBare s'.gens/\(∀b o,s.heap.get? b=some o->s'.heap.get? b=some o)/\
 ∃oe t d w1 w2,s'.heap.get? e=some oe/\oe.cls= .ref C/\oe.data= .fields #[.ref t,.none,.none,.none,.bool false,.none]/\oe.dict=some d/\d≠e/\s.heap.get? d=none/\RelV v1 w1/\RelV v2 w2/\s'.heap.Ns1 d (λy=>if y=f2 then some w2 else if y=f1 then some w1 else none)
section
variable {X:Cx}{pins:List (Addr×Obj)}{σ:St}{H:Hp}{s:Shared}{C fI e:Addr}{fd:FuncData}{f1 f2:Str}{h1:Heap}{u1 u2:Value}{v1 v2:V}{E:Value->Shared->Prop}{k:Nat}
theorem cW0 (T:c63 X.K C fI fd f1 f2)(I:Inv X pins σ H s)(hr:i5 (k+1) X.A)(mk:MadeExcOf s.heap h1 e (.ref C) [u1,u2])(r1:RelV v1 u1)(r2:RelV v2 u2) :
  wpAny (model X.prog X.w) (X.A.under<|.builtin "type.__call__" ⟨.ref C::[u1,u2],[]⟩) (call (.ref fI) (.ref e::[u1,u2])) (λr s'=>r= .none/\Laid C e f1 f2 v1 v2 s s') E {s with heap:=h1}:=by
 obtain⟨oc,od,nm,qual,params,scope,kV,doc,pm,an,cdv,ct,osl,x0,x1,x2,p1,p2,p3,p4,p5,p6,p7,p8,rfl,lk,_,hcd,S,l0,l1,l2,d0,d1,d2,hb⟩:=T.ex;obtain⟨cd,hc,hm,hdct⟩:=T.cls;have I1:Inv X pins σ H {s with heap:=h1}:=I.kept mk.keeps;have e0:=I1.env0.make C [u1,u2] [];have rm:=hr.make C [u1,u2] [];have KX:=I1.kIn;have lim:=I1.nolimit
 have us:Vals [V.ref e,v1,v2] [Value.ref e,u1,u2]:= .cons rfl (.cons r1<|.cons r2 .nil);have hkind: ∀y∈[x0,x1,x2].zip [Value.ref e,u1,u2],scope.names.lookup y.1=some .local\/(scope.names.lookup y.1=some .cell/\((cellsFrom (h1.objs.size+1) scope.names []).lookup y.1).isSome=true):=λ⟨n,v⟩ hy=>by
  have:=(zJ hy).1;simp at this;rcases this with rfl|rfl|rfl
  ·exact .inl l0
  ·exact .inl l1
  ·exact .inl l2
 refine tZ ?_
 have bd:=hb {s with heap:=h1} [Value.ref e,u1,u2] KX rfl;rw[jV]at bd;refine codeAny_call_function rm.depth (KX _ _ lk) rfl S.co S.gen rfl (PySem.W.codeRec_of KX hcd) (bd _ _ _ _ ?_);refine wpAny_newFunctionEnv_cells S.kind hkind λenv he s2 x=> ?_
 subst he;refine⟨lim.keeps x.toInCall.keep,codeAny_func ?_⟩;have J:Inv (u5 CX0 X.prog X.w X.K X.mg X.base [x0,x1,x2] qual scope fI cdv (X.A.under<|.builtin "type.__call__" ⟨.ref C::[u1,u2],[]⟩) X.stack {s with heap:=h1} H E0) [] (start [x0,x1,x2] [V.ref e,v1,v2]) H s2:=bO5 S rm.hd e0 rfl us x;obtain⟨m,hn,hl⟩:=J.loc
 have look: ∀(i:Nat) (y:Str) (v:V),[x0,x1,x2][i]? =some y->(start [x0,x1,x2] [V.ref e,v1,v2])[i]? =some (some v)->scope.names.lookup y=some .local-> ∃u,RelV v u/\m y=some u:=λi y v q1 q2 q3=>by
  obtain⟨u,r,lo⟩:=hl i y v q1 q2 (.inl q3);rcases lo with⟨_,hm⟩| ⟨z,_⟩
  ·exact⟨u,r,hm⟩
  ·have z':scope.names.lookup y=some .cell\/scope.names.lookup y=some .free:=z;rw[q3]at z';rcases z' with z'|z'<;>cases z'
 obtain⟨w0,q0,m0⟩:=look 0 x0 (.ref e) rfl rfl l0;obtain⟨w1,q1,m1⟩:=look 1 x1 v1 rfl rfl l1;obtain⟨w2,q2,m2⟩:=look 2 x2 v2 rfl rfl l2;obtain rfl:w0=Value.ref e:=q0;have kk:=J.ok.kind;have kin:X.K.In s2.heap:=KX.keeps x.toInCall.keep;obtain⟨t,t1,t2,t3⟩:=mk.there;have ge:s2.heap.get? e=some {cls:= .ref C,data:= .fields #[.ref t,.none,.none,.none,.bool false,.none]}:=x.toInCall.keep _ _ t1
 have eL:e≠h1.objs.size:=bD (aT t1);have in0:s2.heap.Inst e C (λ_=>none):=⟨_,ge,rfl,(λc z=>by cases z),.inl ⟨rfl,λ_=>rfl⟩⟩
 refine tN (aJ7<|nT (pL kk l1 hn m1<|nT (pL kk l0 hn m0 ?_) d0) d1)
 refine xset kin hc hm hdct T.sa T.n1 in0 (ns:=[]) (λn z=>absurd rfl z) ae λh3 tk3 in3 kp3 ob3=> ?_
 obtain⟨o3,g3,c3,dt3,dd3⟩:=ob3 _ ge;have keep3: ∀b o,b≠e->s2.heap.get? b=some o->h3.get? b=some o:=λb o n q=>kp3 b o n (λo0 dx z1 z2=>by rw[ge]at z1;cases z1;cases z2) q
 have hn3:h3.Ns h1.objs.size m:=by
  obtain⟨o,es,ep,z1,z2⟩:=hn;exact⟨o,es,ep,keep3 _ _ (Ne.symm eL) z1,z2⟩
 have keep3': ∀b o,s.heap.get? b=some o->h3.get? b=some o:=λb o q=>keep3 b o (λz=>by rw[z,mk.new]at q;cases q) (x.toInCall.keep _ _<|mk.keeps b o q)
 have kin3:X.K.In h3:=I.kIn.keeps keep3';refine tN (aJ7<|nT (pL kk l2 hn3 m2<|nT (pL kk l0 hn3 m0 ?_) d0) d2);refine xset kin3 hc hm hdct T.sa T.n2 in3 (ns:=[f1]) (λn z=> ?_) ae λh4 tk4 in4 kp4 ob4=> ?_
 ·by_cases c:n=f1
  ·simp[c]
  ·rw[a6 c]at z;exact absurd rfl z
 obtain⟨o4,g4,c4,dt4,dd4⟩:=ob4 _ g3;refine nL ?_;obtain⟨o5,g5,_,_,dd5⟩:=in4;rw[g4]at g5;cases g5;rcases dd5 with⟨_,no⟩| ⟨d,ed,de,nd⟩
 ·have:=no f2;simp at this
 have dn:s.heap.get? d=none:=by
  cases q:s.heap.get? d with
  | none=>rfl
  | some o=>
   exfalso
   have a3:=aT (keep3' d o q);have a2:=aT (x.toInCall.keep _ _<|mk.keeps d o q);rcases dd4 d ed with z|z
   ·rcases dd3 d z with z|z
    ·cases z
    ·exact absurd (aY a2 z) (dI _)
   ·exact absurd (aY a3 z) (dI _)
 refine⟨rfl,J.os,J.bare,λb o q=> ?_,o4,t,d,w1,w2,g4,?_,?_,ed,de,dn,q1,q2,nd⟩
 ·refine kp4 b o (λz=>by rw[z,mk.new]at q;cases q) (λo0 dx z1 z2=> ?_) (keep3' b o q)
  rw[g3]at z1;cases z1;rcases dd3 dx z2 with z|z
  ·cases z
  ·intro z';have:=aT (x.toInCall.keep _ _<|mk.keeps b o q);rw[z']at this;exact absurd (aY this z) (dI _)
 ·rw[c4,c3]
 ·rw[dt4,dt3]
end
noncomputable def aH5 (K:Frag)(C fI:Addr)(bmB:List Value)(newId:String):Bool:=match K.lookup C with
 | some ⟨.type "type",_,.cls ck,sl⟩=>(match ck.mro,sl.toList with
  | .ref C2::tail,[_,_,_,_,some<|.builtin nid,_]=>C2==C&&nid==newId&& !ck.hasDel&&PySem.W.tailIn K bmB tail&&PySem.W.nsOkIn K ck.ns&&nsIn K ck.ns "__init__"==some (some<|.ref fI)
  | _,_=>false)
 | _=>false
theorem dK3 {K:Frag}{h:Heap}{N:Addr}{mg:Str->Option Value}{n:Str}{v:Value}(X:K.In h)(G:h.Ns N mg)(e:nsIn K N n=some (some v)):mg n=some v:=by
 obtain⟨ob,ents,np,look0,dat,_,find0⟩:=G;unfold nsIn at e;split at e
 ·rename_i look
  have same:=X _ _ look;rw[look0]at same;cases same;cases dat;split at e
  ·rename_i en found
   cases e;rw[<-find0];unfold nsFind findBy;rw[<-Array.find?_toList,found];rfl
  ·split at e<;>cases e
 ·cases e
structure XClsI (h:Heap)(C fI:Addr)(bmB bm:List Value)(newId:String):Prop where
 ex: ∃(nm q:Str) (N:Addr) (bs:List Value) (hd:Bool) (sn:List Str) (sub:List Value) (ab:Bool) (col:Option Bool) (dd:Option Addr) (k0 k1 k2 k3 k5:Option Value) (mN:Str->Option Value),
  h.get? C=some (excClassObj nm q C N bs bm hd sn sub ab col dd k0 k1 k2 k3 k5 newId)/\h.Ns N mN/\mN "__init__"=some (.ref fI)
 tl:OwnTail h bmB bm
theorem c64 {K:Frag}{h:Heap}{C fI:Addr}{bmB:List Value}{newId:String}(X:K.In h)(q:aH5 K C fI bmB newId=true): ∃bm,XClsI h C fI bmB bm newId:=by
 unfold aH5 at q;split at q
 ·rename_i od ck slots look
  split at q
  ·rename_i C2 tail a0 a1 a2 a3 nid a5 em es
   simp only[dW,gO,aN1]at q;obtain⟨⟨⟨⟨⟨rfl,rfl⟩,nodel⟩,tk⟩,nk⟩,ni⟩:=q;obtain⟨c1,c2,c3,c4,c5,c6,c7,c8,c9,c10,c11⟩:=ck;dsimp only at em nodel nk ni;subst em nodel;obtain⟨sll⟩:=slots;simp only at es;subst es;have nsk:h.Ns c4 (h.nsMap c4):= .of_isNs (PySem.W.isNs_of_in X nk);exact⟨tail,⟨⟨_,_,_,_,_,_,_,_,_,_,_,_,_,_,_,_,X _ _ look,nsk,dK3 X nsk ni⟩,PySem.W.tail_of_in X tk⟩⟩
  ·cases q
 ·cases q
section
variable {M:Model}{A:Around}{E:Value->Shared->Prop}{s:Shared}{env:Env}
variable {nm qn:Str}{C N:Addr}{bs bm:List Value}{hdd:Bool}{sn:List Str}{sub:List Value}{ab:Bool}{col:Option Bool}{dd:Option Addr}{k0 k1 k2 k3 k5:Option Value}{newId:String}
theorem xraise {x:Sem Value}{Q:Flow->Shared->Prop}(hbase:bm.contains (.type "BaseException")=true)(hh:A.handled=none)
  (h:wpAny M A x (λv s1=> ∃e oe vs,v= .ref e/\s1.heap.get? C=some (excClassObj nm qn C N bs bm hdd sn sub ab col dd k0 k1 k2 k3 k5 newId)/\s1.heap.get? e=some oe/\oe.cls= .ref C/\oe.data= .fields vs/\vs[1]? =some .none/\E (.ref e) s1) E s) :
  wpAny M A (raiseStmt env (some x) none) Q E s:=by
 have has:(Value.ref C::bm).contains (.type "BaseException")=true:=by rw[aM7,hbase,Bool.or_true]
 unfold raiseStmt;refine a8 (bG h (λv s1 z=> ?_) λ_ _ y=>y)
 obtain⟨e,oe,vs,rfl,hC,he,hcl,hdt,h1,hE⟩:=z;obtain⟨hp,gn,dr,tn,os⟩:=s1;obtain⟨oc,od,odt,osl⟩:=oe;dsimp only at hcl hdt;subst hcl hdt
 repeat (first
  | with_reducible refine nI he ?_
  | with_reducible refine nI hC ?_
  | (with_reducible refine zD hC ?_;rw[has])
  | wp_step)
 rw[h1];refine aH (aH ?_);exact wpAny_raiseNew_none hh hE
end
section
variable {P:Program}{w:World}{H:Hp}{h h':Heap}{a:Addr}{o:HO}{fs ex:List Addr}
theorem HOk.laidN (x:HOk P w H h)(k: ∀b u,h.get? b=some u->h'.get? b=some u)(hn:H a=none)(new:rB P w (upd H a o) h' a o):HOk P w (upd H a o) h':=λb u e=>by
 by_cases hb:b=a
 ·subst hb;rw[iR]at e;cases e;exact new
 ·rw[cH hb]at e;exact(x b u e).stay (λc v _ q=>k c v q) (λc q=>by rw[cH<|d7 q hn];exact q) λc xs q=>by rw[cH<|d7 q hn];exact q
theorem Un.laidN (k: ∀b u,h.get? b=some u->h'.get? b=some u)(hp:h.get? a=none)(hn:H a=none):Un fs ex H (upd H a o) h h' where
 keep:=λb u q _ _ _=>k b u q
 slot:=λb u q _ _ _=>⟨u.slots,k b u q⟩
 free:=λb u q n _=>by rw[cH (λz=>by rw[z,hp]at q;cases q)];exact n
 there:=λb u q _=>⟨u,k b u q⟩
 tups:=λb xs q=>by rw[cH<|d7 q hn];exact q
 frzs:=λb u xs q=>by rw[cH<|d7 q hn];exact q
 tbls:=λb ps q=>⟨#[],by rw[cH<|d7 q hn,q];simp⟩
end
section
variable {X:Cx}{E:XK}{C fI:Addr}
def dK4 (C:Addr)(f1 f2:Str)(E:XK)(ta:TA):TS:=λ_ σ H=>ta σ H λvs H1=> ∃v1 v2,vs=[v1,v2]/\ ∀d,H1 d=none->E (.ref C) (some d) (upd H1 d<|.xd [(f1,v1),(f2,v2)])
theorem cW1 {x:Str}{np cpos pos:Pos}{e1 e2:Expr}{ta:TA}{B newId initId:String}{bmB:List Value}{fd:FuncData}{f1 f2:Str}{k:Nat}(FB:ExcBaseFacts B newId initId bmB)(q:aH5 X.K C fI bmB newId=true)(T:c63 X.K C fI fd f1 f2)(hr:i5 (k+1) X.A)(hg:Gl X x)(hm:X.mg x=some (.ref C))(hc:X.calm=true)(ha:PA X [e1,e2] ta)(th:bB8 X E C)(hne:f1≠f2)
  (he:starEach [e1,e2] X.env=(false,eval e1 X.env)::starEach [e2] X.env:=by rfl) (hpl:(backTo cpos<|starEach [e2] X.env).any (·.1)=false:=by rfl) (hd:(x==("__debug__":Str))=false:=by decide) (hex:X.ex=[]:=by rfl) :
  PS X (.Raise (some<|.Call (.Name x np) [e1,e2] [] cpos) none pos) (dK4 C f1 f2 E ta):=by
 intro pins s σ H D I h;obtain⟨bm,⟨⟨nm,qn,N,bs,hdd,sn,sub,ab,col,dd,k0,k1,k2,k3,k5,mN,hC,hN,hni⟩,tl⟩⟩:=c64 I.mod.kin q;have keepS: ∀{pins:List (Addr×Obj)} {σ:St} {H:Hp} {s2:Shared},Inv X pins σ H s2-> ∀b o,X.base.get? b=some o->s2.heap.get? b=some o:=λJ=>J.bk
 rw[arm_exec_Raise];refine a8 (nQ<|xraise (C:=C) (nm:=nm) (qn:=qn) (N:=N) (bs:=bs) (bm:=bm) (hdd:=hdd) (sn:=sn) (sub:=sub) (ab:=ab) (col:=col) (dd:=dd) (k0:=k0) (k1:=k1) (k2:=k2) (k3:=k3) (k5:=k5) (newId:=newId) (tl.hasType FB.hasBase) (I.ok.hd hc) ?_);refine a8 (bG (wpAny_Call_ofName<|vK I hg hm ?_ hd) (λv s3 h3=>a8 (nQ<|aH h3)) λ_ _ z=>z)
 have plain:(backTo cpos<|starEach [e1,e2] X.env).any (·.1)=false:=by
  rw[he];show(false||(backTo cpos<|starEach [e2] X.env).any (·.1))=false;rw[hpl];rfl
 have hh:=ha cpos pins s σ H _ I h;unfold callWith;rw[he]at hh plain⊢;refine a8 (j3<|aL3<|bG hh (λus s2 z=>a8 (nQ ?_)) λ_ _ z=>z)
 obtain⟨vs,H1,I1,r1,w1,w2,rfl,hE⟩:=z;simp only[plain];have hC2:=keepS I1 _ _ hC;obtain⟨u1,u2,rfl⟩: ∃u1 u2,us=[u1,u2]:=by
  have e:=r1.length
  match us,e with
  | [a,b],_=>exact⟨a,b,rfl⟩
 obtain⟨q1,q2⟩:RelV w1 u1/\RelV w2 u2:=by
  cases r1 with
  | cons a r=>
   cases r with
   | cons b _=>exact⟨a,b⟩
 obtain⟨oc,od,_,_,_,_,_,_,_,_,_,_,osl,_,_,_,_,_,_,_,_,_,_,_,efd,lk,oce,_⟩:=T.ex;have gf:=I1.kIn _ _ lk;obtain⟨hp,gn,dr,tn,os⟩:=s2;refine a8 (wpAny_keeperOf_exc hC2 ?_);refine a8 (xcall FB (tl.keeps<|keepS I1) hC2 (hN.keeps<|keepS I1) hni gf oce (λh' a mk=> ?_) (by simp;decide))
 refine bG (cW0 T I1 hr mk q1 q2) (λr s' z=> ?_) λ_ _ z=>z
 obtain⟨rfl,z1,z2,z3,oe,t,d,y1,y2,z4,z5,z6,ed,de,dn,x1,x2,nd⟩:=z;refine⟨rfl,a8<|j3<|wpAny_point<|aH ?_⟩;have dH:H1 d=none:=I1.hok.there dn;have I2:Inv X pins σ (upd H1 d<|.xd [(f1,w1),(f2,w2)]) s':=by
  obtain⟨hp',gn',dr',tn',os'⟩:=s';obtain rfl:os'=os:=z1;refine I1.call (h':=hp') (g':=gn') (d':=dr') (t':=tn') (ch:=[]) (Un.laidN z3 dn dH) (I1.hok.laidN z3 dH ?_) z2 (λb z=>absurd z ae)
  refine⟨_,nd,λf=> ?_⟩
  simp only[d4,List.lookup_nil]
  by_cases c1:f=f1
  ·subst c1;rw[aN7,a6 hne,a7 rfl];exact x1
  ·rw[show(f==f1)=false from pM.mpr c1]
   by_cases c2:f=f2
   ·subst c2;rw[aN7,a7 rfl];exact x2
   ·rw[show(f==f2)=false from pM.mpr c2,a6 c2,a6 c1]
    exact trivial
 refine⟨a,oe,_,rfl,z3 _ _ hC2,z4,z5,z6,rfl,?_⟩
 refine th pins σ _ s' a oe _ (.ref t) (some d) I2 z4 z5 z6 rfl rfl (by rw[cH<|Ne.symm de];exact I1.hok.there mk.new) ?_ (λd' e=>by cases e;exact⟨oe,z4,ed⟩) (hE d dH)
 cases r:X.s₀.heap.get? a with
 | none=>rfl
 | some o=>
  obtain⟨o',q'⟩:=I1.base.there a o r (by rw[hex];simp)
  rw[mk.new]at q';cases q'
end
end L2
end
section
namespace M
open PySem PySem.Spec PyProof.Rows L2
abbrev XP:=Str->List D->Prop
abbrev ΦX:=List D->(B->Prop)->XP->Prop
noncomputable def bQ5 (n:Str):List Str:=if n="FallsApart" then ["left","right"]else if n="NotWhole" then ["prime","number"]else []
def XR (K:Frag)(A:AS)(H:Hp)(n:Str)(ds:List D):Option Addr->Prop
 | none=>bQ5 n=[]
 | some d=> ∃vs,¬A d/\H d=some (.xd<|(bQ5 n).zip vs)/\(bQ5 n).length=vs.length/\bL K A H ds vs
theorem XR.mono {K:Frag}{A A':AS}{H H':Hp}{n:Str}{ds:List D}(p:mT A H A' H'): ∀{o:Option Addr},XR K A H n ds o->XR K A' H' n ds o
 | none,h=>h
 | some d,⟨vs,h1,h2,h3,h4⟩=>⟨vs,(p d _ h1 h2).1,(p d _ h1 h2).2,h3,h4.mono p⟩
def spX (K:Frag)(mg:Str->Option Value)(φ:ΦX):Sp:=λvs H Q E=> ∃A ds Q0 Ex,(∀a,A a->H a≠none)/\bL K A H ds vs/\φ ds Q0 Ex/\(∀b v H',Q0 b->iB H H'->u6 K A H H' b v->Q v H')/\ ∀n C es o H',Ex n es->mg n=some (.ref C)->iB H H'->XR K A H' n es o->E (.ref C) o H'
structure FnX (P:Program)(w:World)(K:Frag)(mg:Str->Option Value)(base:Heap)(x:Str)(ps:List Str)(k:Nat)(φ:ΦX):Prop where
 ex: ∃f fd,sQ P w K mg base (CXr P w base) k f fd ps (spX K mg φ)/\Binds K fd ps []/\keepIn K (.ref f)=true/\mg x=some (.ref f)
abbrev USX:=XP->US
def lSX (K:Frag)(mg:Str->Option Value)(E:XK)(t:USX):TS:=λD σ H=> ∃C ρ D0 Ex,EOk K C ρ σ H/\t Ex D0 ρ/\DOk K C D0 D/\ ∀n Cl es o H',Ex n es->mg n=some (.ref Cl)->iB C.H0 H'->XR K C.A0 H' n es o->E (.ref Cl) o H'
def bW4 (X:Cx)(E:XK)(st:Stmt)(t:USX):Prop:=PS X st (lSX X.K X.mg E t)
def a56 (X:Cx)(E:XK)(sts:List Stmt)(t:USX):Prop:=PSs X sts (lSX X.K X.mg E t)
section
variable {X:Cx}{E:XK}{st:Stmt}{sts:List Stmt}{t u:USX}{e:Expr}{es:List Expr}{pos:Pos}
theorem aS8 {t:US}(h:PUS X st t):bW4 X E st (λ_=>t):=rC h λD σ H ⟨C,ρ,D0,Ex,I,h,k,_⟩=>⟨C,ρ,D0,I,h,k⟩
theorem d69 {t:US}(h:rV X sts t):a56 X E sts (λ_=>t):=bA3 h λD σ H ⟨C,ρ,D0,Ex,I,h,k,_⟩=>⟨C,ρ,D0,I,h,k⟩
theorem bW5 (h1:bW4 X E st t)(h2:a56 X E sts u):a56 X E (st::sts) (λEx=>aU (t Ex) (u Ex)):=
 bA3 (xX h1 h2) λD σ H ⟨C,ρ,D0,Ex,I,h,k,kx⟩=>⟨C,ρ,{D0 with nx:=u Ex D0},Ex,I,h,⟨λρ' σ' H' q I'=>⟨C,ρ',D0,Ex,I',q,k,kx⟩,k.rt,k.bk,k.ct⟩,kx⟩
theorem bC0 (h1:bW4 X E st t):a56 X E [st] t:=bT6 h1
theorem cI3:a56 X E [] (λ_=>gB):=d69 bU8
theorem d70 {c:Expr}{a b:List Stmt}{tc:UT}(hc:PUT X c tc)(ha:a56 X E a t)(hb:a56 X E b u):bW4 X E (.If c a b pos) (λEx=>jA tc (t Ex) (u Ex)):=
 rC (dQ4 hc ha hb) λD σ H ⟨C,ρ,D0,Ex,I,h,k,kx⟩=>⟨C,ρ,_,I,h,λc ρ1 H1 q f s=>by
  have I1:=(I.frz f).same s;cases c with
  | true=>
   dsimp only at q⊢;rw[a7 rfl]at q⊢;exact⟨C,ρ1,D0,Ex,I1,q,k,kx⟩
  | false=>
   dsimp only at q⊢;rw[a6 ac]at q⊢
   exact⟨C,ρ1,D0,Ex,I1,q,k,kx⟩⟩
def bW6 (φ:ΦX)(t:UA)(Ex:XP):UE:=λρ Q=>t ρ λds ρ1=>φ ds (λb=>Q b ρ1) Ex
theorem spX_of {φ:ΦX}{C:C0}{ρ ρ1:Ev}{σ:L2.St}{H H1:Hp}{ds:List D}{vs:List V}{Q0:B->Prop}{Ex:XP}{Q:VK}(I:EOk X.K C ρ σ H)(f:Frz ρ ρ1)(s:iB H H1)(r:bL X.K (Av C ρ1 σ) H1 ds vs)(q:φ ds Q0 Ex)(kq: ∀b v H',Q0 b->iB H1 H'->u6 X.K (Av C ρ1 σ) H1 H' b v->Q v H')(kx: ∀n Cl es o H',Ex n es->X.mg n=some (.ref Cl)->iB C.H0 H'->XR X.K C.A0 H' n es o->E (.ref Cl) o H'):spX X.K X.mg φ (vs++[]) H1 Q E:=by
 have I1:=(I.frz f).same s;rw[jV];exact⟨Av C ρ1 σ,ds,Q0,Ex,λa z=>I1.avSome z,r,q,kq,λn Cl es o H' ex hm s' x=>kx n Cl es o H' ex hm (I1.ext.trans s') (x.mono<|.sub (.refl _) λa z=> .inl z)⟩
theorem cP2 {k k':Nat}{ps:List Str}{φ:ΦX}{x:Str}{p cpos:Pos}{t:UA}(F:FnX X.prog X.w X.K X.mg X.base x ps k φ)(hr:i5 k' X.A)(hk:k<=k')(hp:wG (CXr X.prog X.w X.base) X E)(hg:Gl X x)(ha:PUA X (e::es) t)(hdb:(x==("__debug__":Str))=false:=by decide)
  (he:starEach (e::es) X.env=(false,eval e X.env)::starEach es X.env:=by rfl) (hpl:(backTo cpos<|starEach es X.env).any (·.1)=false:=by rfl) (hs:swapsWith (.Call (.Name x p) (e::es) [] cpos) none pos.line X.env=pure false:=by rfl) :
  bW4 X E (.Expr (.Call (.Name x p) (e::es) [] cpos) pos) (λEx=>aS2 (bW6 φ t Ex)):=by
 obtain⟨f,fd,G,b,kp,m⟩:=F.ex;exact rC (b70 (cN5 G (hr.mono hk) hg m kp b .nil hp ha hdb he hpl) hs) λD σ H ⟨C,ρ,D0,Ex,I,h,k,kx⟩=>⟨C,ρ,_,I,h,λds ρ1 vs H1 q f s r=>spX_of I f s r q (λb v H' q' s' r'=>k.nx _ _ _ q' (((I.frz f).same s).same s')) kx⟩
def bW7 (x:Str)(t:UA)(Ex:XP):US:=λ_ ρ=>t ρ λds _=>ds.length<=sizeLine/\Ex x []
theorem lRaise {x:Str}{C:Addr}{t:UA}(hm:X.mg x=some (.ref C))(hk:bQ5 x=[])(D:bJ9)(σ:L2.St)(H:Hp)(h:lSX X.K X.mg E (λEx=>bW7 x t Ex) D σ H):d67 C E (lA X.K t) D σ H:=by
 obtain⟨C0,ρ,D0,Ex,I,h,k,kx⟩:=h;exact⟨C0,ρ,_,I,h,λds ρ1 vs H1 q f s r=>⟨by rw[<-r.length];exact q.1,kx x C [] none H1 q.2 hm (I.ext.trans s) hk⟩⟩
def aS9 (x:Str)(t1 t2:UE)(Ex:XP):US:=λ_ ρ=>t1 ρ λa ρ1=>t2 ρ1 λb _=>Ex x [a.d,b.d]
theorem d71 {C:Addr}{x:Str}{np cpos:Pos}{t:UA}{B newId initId:String}{bmB:List Value}(FB:ExcBaseFacts B newId initId bmB)(q:excIn X.K C bmB newId=true)(hg:Gl X x)(hm:X.mg x=some (.ref C))(hc:X.calm=true)(ha:PUA X (e::es) t)(th:bB8 X E C)(hk:bQ5 x=[])
  (he:starEach (e::es) X.env=(false,eval e X.env)::starEach es X.env:=by rfl) (hpl:(backTo cpos<|starEach es X.env).any (·.1)=false:=by rfl) (hd:(x==("__debug__":Str))=false:=by decide) (hex:X.ex=[]:=by rfl) :
  bW4 X E (.Raise (some<|.Call (.Name x np) (e::es) [] cpos) none pos) (λEx=>bW7 x t Ex):=rC (d68 FB q hg hm hc ha th he hpl hd hex) (lRaise hm hk)
theorem bQ6 {C fI:Addr}{x:Str}{np cpos:Pos}{e1 e2:Expr}{t1 t2:UE}{B newId initId:String}{bmB:List Value}{fd:FuncData}{f1 f2:Str}{k:Nat}(FB:ExcBaseFacts B newId initId bmB)(q:aH5 X.K C fI bmB newId=true)(T:c63 X.K C fI fd f1 f2)(hr:i5 (k+1) X.A)(hg:Gl X x)(hm:X.mg x=some (.ref C))(hc:X.calm=true)(ha:PUA X [e1,e2] (a9 t1<|a9 t2 aK))(th:bB8 X E C)(hk:bQ5 x=[f1,f2])(hne:f1≠f2)
  (he:starEach [e1,e2] X.env=(false,eval e1 X.env)::starEach [e2] X.env:=by rfl) (hpl:(backTo cpos<|starEach [e2] X.env).any (·.1)=false:=by rfl) (hd:(x==("__debug__":Str))=false:=by decide) (hex:X.ex=[]:=by rfl) :
  bW4 X E (.Raise (some<|.Call (.Name x np) [e1,e2] [] cpos) none pos) (λEx=>aS9 x t1 t2 Ex):=by
 refine rC (cW1 FB q T hr hg hm hc ha th hne he hpl hd hex) λD σ H ⟨C0,ρ,D0,Ex,I,h,k,kx⟩=> ?_
 refine⟨C0,ρ,λds _=> ∃a b,ds=[a,b]/\Ex x ds,I,?_,λds ρ' vs H' ⟨a,b,q1,q2⟩ f s r=> ?_⟩
 ·have e9: ∀(z y:M.B) (ρ2:Ev),(∃a b,[z.d,y.d]=[a,b]/\Ex x [z.d,y.d])=Ex x [z.d,y.d]:=λz y ρ2=>propext ⟨λ⟨_,_,_,w⟩=>w,λw=>⟨_,_,rfl,w⟩⟩
  show t1 ρ λz ρ1=>t2 ρ1 λy ρ2=> ∃a b,[z.d,y.d]=[a,b]/\Ex x [z.d,y.d]
  have:=h;unfold aS9 at this;simp only[e9 _ _ ρ];exact this
 ·subst q1;obtain⟨v1,vr,rfl,r1,r2⟩:=r.uncons;obtain⟨v2,vr2,rfl,r3,r4⟩:=r2.uncons;cases r4.unnil;refine⟨v1,v2,rfl,λd hd=> ?_⟩
  have I1:=(I.frz f).same s;have s2:iB H' (upd H' d<|.xd [(f1,v1),(f2,v2)]):=λb o z=>by rw[cH<|d7 z hd];exact z
  have na: ∀a,C0.A0 a->a≠d:=λa z e=>I1.avSome (.inl z) (by rw[e];exact hd)
  refine kx x C _ (some d) _ q2 hm (I1.ext.trans s2) ⟨[v1,v2],λz=>na d z rfl,?_,by rw[hk];rfl,(bL.cons r1<|.cons r3 .nil).mono λb o n z=>⟨λw=>n (.inl w),s2 b o z⟩⟩
  rw[iR,hk];rfl
theorem d72 {P:Program}{w:World}{K:Frag}{mg:Str->Option Value}{base:Heap}{x qual:Str}{st:Stmt}{f:Addr}{fd:FuncData}{N ps:List Str}{k:Nat}{φ:ΦX}(F:Fun K x qual st f fd)(S:aW N ps (aD st))
  (len: ∀ds Q Ex,φ ds Q Ex->ds.length=ps.length) {t:USX}
  (der: ∀(cdv:Value) (A:Around) (outer:List Env) (s:Shared) (H:Hp) (E:XK),i5 k (A.deeper<|envOfC qual (aD st) s.heap.objs.size f cdv)->a56 (u5 (CXr P w base) P w K mg base N qual (aD st) f cdv A outer s H E) E (dZ st) t)
  (rd: ∀ds Q Ex,φ ds Q Ex->t Ex {nx:=λ_=>Q (.pu .non),rt:=Q} (init N ds)) :
  sQ P w K mg base (CXr P w base) (k+1) f fd ps (spX K mg φ):=by
 obtain⟨oc,od,kV,doc,pm,an,cdv,ct,osl,rfl,lk,hcd⟩:=F.ex;refine d18 lk hcd S (λvs H Q E h=> ?_) λA outer s H vs Q E hr h=> ?_
 ·obtain⟨A,ds,Q0,Ex,_,r,h,_⟩:=h;rw[<-r.length];exact len ds Q0 Ex h
 ·obtain⟨A',ds,Q0,Ex,hA,r,h,q,qx⟩:=h;refine⟨_,der cdv A outer s H E hr,⟨H,A'⟩,init N ds,_,Ex,bV0 hA r,rd ds Q0 Ex h,⟨λρ σ H' z I=> ?_,λb v H' z s r=>q b v H' z s r,λ_ _ _ z=>z.elim,λ_ _ _ z=>z.elim⟩,qx⟩
  exact q _ _ H' z I.ext (show Rep _ _ _ _ _ by simp only[Rep])
theorem FnX.mk' {P:Program}{w:World}{K:Frag}{mg:Str->Option Value}{base:Heap}{x qual:Str}{st:Stmt}{f:Addr}{fd:FuncData}{N ps:List Str}{k:Nat}{φ:ΦX}(F:Fun K x qual st f fd)(m:mg x=some (.ref f))(b:Binds K fd ps [])(S:aW N ps (aD st))
  (len: ∀ds Q Ex,φ ds Q Ex->ds.length=ps.length) {t:USX}
  (der: ∀(cdv:Value) (A:Around) (outer:List Env) (s:Shared) (H:Hp) (E:XK),i5 k (A.deeper<|envOfC qual (aD st) s.heap.objs.size f cdv)->a56 (u5 (CXr P w base) P w K mg base N qual (aD st) f cdv A outer s H E) E (dZ st) t)
  (rd: ∀ds Q Ex,φ ds Q Ex->t Ex {nx:=λ_=>Q (.pu .non),rt:=Q} (init N ds)):FnX P w K mg base x ps (k+1) φ:=
 ⟨f,fd,d72 F S len der rd,b,F.kp,m⟩
end
end M
end
section
namespace L2
open PySem PySem.Spec PyProof.Rows
section
variable {X:Cx}{pins:List (Addr×Obj)}{σ:St}{H:Hp}{s:Shared}{h':Heap}{e:Addr}
theorem Inv.past {g:Heap}(I:Inv X pins σ H s)(p:bK5 (frs X.stack) e s.heap h')(hstk:X.stack=X.env::X.outer)(hfr:X.env.frame=some X.env.locals)(hex:X.ex=[])(gs: ∀b o,X.s₀.heap.get? b=some o-> ∃o',g.get? b=some o')(gp: ∀q∈X.pn++pins,∃o',g.get? q.1=some o')(ne:g.get? e=none)(nt: ∀T,Tr s.heap e T->g.get? T=none)(he:H e=none)(ht: ∀T,Tr s.heap e T->H T=none):Inv X pins σ H {s with heap:=h'}:=by
 have none0: ∀b,g.get? b=none->X.s₀.heap.get? b=none:=λb q=>by
  cases r:X.s₀.heap.get? b with
  | none=>rfl
  | some o=>obtain⟨o',q'⟩:=gs b o r;rw[q]at q';cases q'
 have fm: ∀b∈frs X.stack,b=X.env.locals\/b∈X.fs:=λb hb=>by
  rw[hstk]at hb;unfold Cx.fs;unfold frs at hb⊢;rw[jT,hfr]at hb;exact aX.mp hb
 have hL:X.s₀.heap.get? X.env.locals=none:=kT I.ok.above;have hd: ∀b∈X.fs,∀o,s.heap.get? b=some o-> ∀vs,o.data≠ .fields vs:=λb hb o q=>by
  have fl:=I.stack;rw[hstk]at fl;obtain⟨_,o',q',n⟩:=fl.mem (b:=b) (by
   unfold Cx.fs frs at hb;rw[jT,hfr];exact aX.mpr (.inr hb))
  rw[q]at q';cases q';exact n
 have hb0:=I.base;rw[hex]at hb0;have un:=hb0.past p fm hL (none0 e ne) (λT q=>none0 T (nt T q)) hd
 have cellS: ∀c v,s.heap.IsCell c v->h'.IsCell c v:=λc v ⟨o,q1,q2⟩=>by
  obtain⟨sl,q3⟩:=p.slot c o q1 (λvs z=>by rw[q2]at z;cases z)
  exact⟨_,q3,q2⟩
 refine⟨I.ok,I.os,I.bare,by rw[hex];exact un,?_,λx c q=> ?_,I.free,I.freeC,λq hq=> ?_,I.hok.past p I.stkFree he ht,I.len⟩
 ·obtain⟨m,hn,hl⟩:=I.loc;refine⟨m,p.slot.ns hn,λi x v a b c=> ?_⟩
  obtain⟨u,r,lo⟩:=hl i x v a b c;refine⟨u,r,?_⟩;rcases lo with z| ⟨z1,c,z2,z3⟩
  ·exact .inl z
  ·exact .inr ⟨z1,c,z2,cellS c _ z3⟩
 ·obtain⟨v,z⟩:=I.cell x c q;exact⟨v,cellS c v z⟩
 ·obtain⟨z1,z2,z3,z4,z5⟩:=I.pin q hq;obtain⟨o',g1⟩:=gp q hq;refine⟨p.keep q.1 q.2 z1 (λz=> ?_) (λz=>by rw[z,ne]at g1;cases g1) (λz=>by rw[nt _ z]at g1;cases g1),z2,z3,z4,z5⟩
  rcases fm _ z with y|y
  ·exact z3 y
  ·exact z4 y
end
noncomputable abbrev Cx.inX (X:Cx)(e:Addr):Cx:={X with A:=X.A.mark (some<|.ref e),calm:=false,xe:=λ_ _=>False}
theorem Cx.Ok.inX {X:Cx}(ok:X.Ok)(e:Addr):(X.inX e).Ok:=
 ⟨ok.mod,ok.kind,ok.glob,ok.blt,ok.above,ok.inj,ok.has,ok.cab,(λz=>by cases z),ok.frames,ok.stk,ok.exf,ok.bs,ok.bsz,ok.noex,ok.exfs,ok.funs,ok.frf⟩
section
variable {X:Cx}{pins:List (Addr×Obj)}{σ:St}{H:Hp}{s:Shared}{e:Addr}
theorem Inv.inX (I:Inv X pins σ H s)(e:Addr):Inv (X.inX e) pins σ H s:=⟨I.ok.inX e,I.os,I.bare,I.base,I.loc,I.cell,I.free,I.freeC,I.pin,I.hok,I.len⟩
theorem Cx.Ok.outX {X:Cx}{Y:Cx}(okY:Y.Ok){e:Addr}(ok:(X.inX e).Ok)(hd:X.calm=true->X.A.handled=none):X.Ok:=
 ⟨ok.mod,ok.kind,ok.glob,ok.blt,ok.above,ok.inj,ok.has,ok.cab,hd,ok.frames,ok.stk,ok.exf,ok.bs,ok.bsz,ok.noex,ok.exfs,ok.funs,ok.frf⟩
theorem Inv.outX (I:Inv (X.inX e) pins σ H s)(hd:X.calm=true->X.A.handled=none):Inv X pins σ H s:=⟨I.ok.outX I.ok hd,I.os,I.bare,I.base,I.loc,I.cell,I.free,I.freeC,I.pin,I.hok,I.len⟩
theorem SP.outX {D:bJ9}{f:Flow}{s':Shared}(h:SP (X.inX e) pins D f s')(hd:X.calm=true->X.A.handled=none):SP X pins D f s':=by
 cases f with
 | next=>obtain⟨σ',H',I,q⟩:=h;exact⟨σ',H',I.outX hd,q⟩
 | brk=>obtain⟨σ',H',I,q⟩:=h;exact⟨σ',H',I.outX hd,q⟩
 | cont=>obtain⟨σ',H',I,q⟩:=h;exact⟨σ',H',I.outX hd,q⟩
 | ret u=>obtain⟨v,σ',H',I,r,q⟩:=h;exact⟨v,σ',H',I.outX hd,r,q⟩
theorem d73 {M:Model}{A:Around}{E:Value->Shared->Prop}{hp:Heap}{gn:Array GenState}{dr:Drawn}{tn:Nat}{os:OsState}{C R:Addr}{oe:Obj}{Q:Bool->Shared->Prop}
  {nm qn:Str} {N:Addr} {bs bm:List Value} {hdd:Bool} {sn:List Str} {sub:List Value} {ab:Bool} {col:Option Bool} {dd:Option Addr} {k0 k1 k2 k3 k5:Option Value} {newId:String}
  {nm' qn':Str} {N':Addr} {bs' bm':List Value} {hdd':Bool} {sn':List Str} {sub':List Value} {ab':Bool} {col':Option Bool} {dd':Option Addr} {k0' k1' k2' k3' k5':Option Value} {newId':String}
  (hC:hp.get? C=some (excClassObj nm qn C N bs bm hdd sn sub ab col dd k0 k1 k2 k3 k5 newId)) (hR:hp.get? R=some (excClassObj nm' qn' R N' bs' bm' hdd' sn' sub' ab' col' dd' k0' k1' k2' k3' k5' newId'))
  (he:hp.get? e=some oe) (hcl:oe.cls= .ref C) (hb:bm'.contains (.type "BaseException")=true) (hr:(Value.ref C::bm).contains (.ref R)=true) (hq:Q true ⟨hp,gn,dr,tn,os⟩) :
  wpAny M A (excMatches (.ref e)<|.ref R) Q E ⟨hp,gn,dr,tn,os⟩:=by
 have t1:(Value.ref R::bm').contains (.type "BaseException")=true:=by rw[aM7,hb,Bool.or_true]
 have t2:=tc_notTuple;unfold excMatches
 repeat (first
  | (with_reducible refine nI he ?_;rw[hcl])
  | with_reducible refine nI hR ?_
  | (with_reducible refine zD hR ?_;rw[t1])
  | (with_reducible refine zD hC ?_;rw[hr])
  | wp_step)
 exact hq
end
theorem bQ4.past {g h h':Heap}{fs:List Addr}{e:Addr}(n:bQ4 g e h)(p:bK5 fs e h h')(gh: ∀b o,g.get? b=some o-> ∃o',h.get? b=some o')(hf: ∀b∈fs,∀o,h'.get? b=some o-> ∀vs,o.data≠ .fields vs):bQ4 g e h':=by
 refine⟨n.he,λT q=> ?_⟩
 rcases p.tr T q with z|z|z|z
 ·obtain⟨o,vs,q1,q2⟩:=p.rcd T q;exact absurd q2 (hf T z o q1 vs)
 ·rw[z];exact n.he
 ·exact n.ht T z
 ·cases r:g.get? T with
  | none=>rfl
  | some o=>obtain⟨o',q'⟩:=gh T o r;rw[z]at q';cases q'
theorem bC1 {g h h':Heap}{fs:List Addr}{e:Addr}(n:bQ4 g e h)(p:bK5 fs e h h')(gh: ∀b o,g.get? b=some o-> ∃o',h.get? b=some o')(hf: ∀b∈fs,∀o,h.get? b=some o-> ∀vs,o.data≠ .fields vs): ∀b o,g.get? b=some o-> ∃o',h'.get? b=some o':=λb o q=>by
 obtain⟨o',q'⟩:=gh b o q
 by_cases c:b∈fs
 ·obtain⟨sl,z⟩:=p.slot b o' q' (hf b c o' q');exact⟨_,z⟩
 ·exact⟨o',p.keep b o' q' c (λz=>by rw[z,n.he]at q;cases q) λz=>by rw[n.ht b z]at q;cases q⟩
theorem dK5 {h base:Heap}{l:List Env}(f:h.FunFrames base l): ∀b∈frs l,∀o,h.get? b=some o-> ∀vs,o.data≠ .fields vs:=λb hb o q=>by
 obtain⟨_,o',q',n⟩:=f.mem (b:=b) hb;rw[q]at q';cases q';exact n
def aT0 (CX:CXT)(X:Cx)(E:XK)(pins:List (Addr×Obj))(σ:St):Prop:= ∀(H:Hp) (s:Shared) (e:Value) (s':Shared),Inv X pins σ H s->CX X.stack H s E e s'->X.xe e s'
def aY7 (K:Frag)(R C:Addr)(bmB:List Value)(newId:String):Prop:=(excIn K C bmB newId=true\/ ∃fI,aH5 K C fI bmB newId=true)/\ ∃cd,clsIn K C=some cd/\cd.mro.contains (.ref R)=true
theorem underX {K:Frag}{h:Heap}{R C:Addr}{bmB:List Value}{newId:String}(X:K.In h)(u:aY7 K R C bmB newId): ∃(nm q:Str) (N:Addr) (bs bm:List Value) (hd:Bool) (sn:List Str) (sub:List Value) (ab:Bool) (col:Option Bool) (dd:Option Addr) (k0 k1 k2 k3 k5:Option Value),
  h.get? C=some (excClassObj nm q C N bs bm hd sn sub ab col dd k0 k1 k2 k3 k5 newId)/\(Value.ref C::bm).contains (.ref R)=true:=by
 obtain⟨a,cd,hc,hr⟩:=u;have has: ∃(nm q:Str) (N:Addr) (bs bm:List Value) (hd:Bool) (sn:List Str) (sub:List Value) (ab:Bool) (col:Option Bool) (dd:Option Addr) (k0 k1 k2 k3 k5:Option Value),h.get? C=some (excClassObj nm q C N bs bm hd sn sub ab col dd k0 k1 k2 k3 k5 newId):=by
  rcases a with a| ⟨fI,a⟩
  ·obtain⟨bm,⟨⟨nm,qn,N,bs,hdd,sn,sub,ab,col,dd,k0,k1,k2,k3,k5,mN,hC,_⟩,_⟩⟩:=bW3 X a;exact⟨nm,qn,N,bs,bm,hdd,sn,sub,ab,col,dd,k0,k1,k2,k3,k5,hC⟩
  ·obtain⟨bm,⟨⟨nm,qn,N,bs,hdd,sn,sub,ab,col,dd,k0,k1,k2,k3,k5,mN,hC,_⟩,_⟩⟩:=c64 X a;exact⟨nm,qn,N,bs,bm,hdd,sn,sub,ab,col,dd,k0,k1,k2,k3,k5,hC⟩
 obtain⟨nm,qn,N,bs,bm,hdd,sn,sub,ab,col,dd,k0,k1,k2,k3,k5,hC⟩:=has;refine⟨nm,qn,N,bs,bm,hdd,sn,sub,ab,col,dd,k0,k1,k2,k3,k5,hC,?_⟩;unfold clsIn at hc;split at hc
 ·rename_i look
  have same:=X _ _ look;rw[hC]at same;cases hc
  injection same with same
  injection same with _ _ same _
  injection same with same
  rw[<-same]at hr;exact hr
 ·cases hc
section
variable {X:Cx}
def tTry (K:Frag)(R:Addr)(bmB:List Value)(newId:String)(tb:XK->TS)(th:TS):TS:=λD σ H=> ∃E,tb E D σ H/\ ∀C o H',E (.ref C) o H'->aY7 K R C bmB newId/\th D σ H'
theorem ps_try {body:List Stmt}{b0:Stmt}{suite:List Stmt}{r:Str}{rp hpos pos:Pos}{R:Addr}{B newId initId:String}{bmB:List Value}{tb:XK->TS}{th:TS}(FB:ExcBaseFacts B newId initId bmB)(hstk:X.stack=X.env::X.outer)(hfr:X.env.frame=some X.env.locals)(hex:X.ex=[])(hc:X.calm=true)
  (hbody: ∀(xe:Value->Shared->Prop) (E:XK) (pins:List (Addr×Obj)) (s:Shared) (σ:St) (H:Hp) (D:bJ9),Inv (X.wish xe) pins σ H s->aT0 (CXr X.prog X.w X.base) (X.wish xe) E pins σ->tb E D σ H->wpAny (model X.prog X.w) X.A (execs body X.env) (SP (X.wish xe) pins D) xe s)
  (hsuite: ∀a,PSs (X.inX a) (b0::suite) th) (hg:Gl X r) (hm:X.mg r=some (.ref R)) (hR:excIn X.K R bmB newId=true) (hd:(r==("__debug__":Str))=false:=by decide) :
  PS X (.Try body [.ExceptHandler (some<|.Name r rp) none (b0::suite) hpos] [] [] pos) (tTry X.K R bmB newId tb th):=by
 rintro pins s σ H D I ⟨E,hb,hx⟩;refine wpAny_Try_except ?_;have goX:aT0 (CXr X.prog X.w X.base) (X.wish λe s1=>wpAny (model X.prog X.w) X.A (noteFrame e X.env) (λ_ s2=>wpAny (model X.prog X.w) X.A (setFlight e none) (λ_ s3=>wpAny (model X.prog X.w) X.A (handleBy e X.env [.ExceptHandler (some<|.Name r rp) none (b0::suite) hpos]) (SP X pins D) X.xe s3) X.xe s2) X.xe s1) E pins σ:=by
  rintro H1 s1 e s' J ⟨a,C,o',H',rfl,ho,hbr,un,hok,⟨⟨a0,fl⟩,fe,ft⟩,nw,_,hE⟩;have J0:=J.unwish;have J1:Inv X pins σ H' s':=J0.call' ho un hok hbr (λb z=>absurd z ae)
  obtain⟨under,hth⟩:=hx C o' H' hE;have fl':FlyingW X.base X.stack a (.ref C) a0 s'.heap:=fl;have frs':=J1.ok.frames;have g0: ∀b o,s1.heap.get? b=some o-> ∃o',s'.heap.get? b=some o':=λb o q=>un.there b o q ae
  have gs: ∀b o,X.s₀.heap.get? b=some o-> ∃o',s1.heap.get? b=some o':=λb o q=>J0.base.there b o q (by rw[hex];simp)
  have gp: ∀q∈X.pn++pins,∃o',s1.heap.get? q.1=some o':=λq hq=>⟨_,(J0.pin q hq).1⟩
  show wpAny _ _ (noteFrame (.ref a) X.env) _ _ s'
  rw[hstk]at fl' frs';refine d65 frs' hfr fl' λh2 held p2=> ?_
  rw[<-hstk]at p2 held fl';have J2:=J1.past (g:=s1.heap) p2 hstk hfr hex gs gp nw.he nw.ht fe ft;have n2:=nw.past p2 g0 (dK5 held.2.2.1);have g2:=bC1 nw p2 g0 (dK5 fl'.2.2.1);have t2:=b80 J1.hok p2 J1.stkFree fe ft;refine c61 held λh3 fl3 p3=> ?_
  have J3:=J2.past (g:=s1.heap) p3 hstk hfr hex gs gp n2.he n2.ht fe t2;have n3:=n2.past p3 g2 (dK5 fl3.2.2.1);have g3:=bC1 n2 p3 g2 (dK5 held.2.2.1);have t3:=b80 J2.hok p3 J2.stkFree fe t2;obtain⟨oe,he,hcl⟩:=fl3.there;obtain⟨nm,qn,N,bs,bm,hdd,sn,sub,ab,col,dd,k0,k1,k2,k3,k5,hC,hin⟩:=underX J3.kIn under
  obtain⟨bm',⟨⟨nm',qn',N',bs',hdd',sn',sub',ab',col',dd',k0',k1',k2',k3',k5',mN',hRo,_⟩,tl'⟩⟩:=bW3 J3.kIn hR;refine wpAny_handleBy_cons (codeAny_handlers_test<|vK (X:=X.inX a) (J3.inX a) hg hm ?_ hd) (by intro q;cases q)
  refine d73 hC hRo he hcl (tl'.hasType FB.hasBase) hin ?_
  refine codeAny_handlers_suite (c61 fl3 λh4 fl4 p4=> ?_)
  have J4:=J3.past (g:=s1.heap) p4 hstk hfr hex gs gp n3.he n3.ht fe t3;exact bG (hsuite a pins _ σ H' D (J4.inX a) hth) (λf s2 q=>q.outX λ_=>J4.ok.hd hc) λ_ _ z=>z.elim
 refine bG (hbody _ E pins s σ H D (I.wish _) goX hb) (λf s1 q=> ?_) λ_ _ z=>z
 have q':=q.unwish;cases f with
 | next=>exact nL q'
 | ret v=>exact q'
 | brk=>exact q'
 | cont=>exact q'
end
end L2
end
section
namespace L2
open PySem PySem.Spec PyProof.Rows
section
variable {X:Cx}{CX:CXT}{k:Nat}{f C:Addr}{fd:FuncData}{ps:List Str}{sp:Sp}{dvs:List V}{ds:List Value}{E:XK}{x:Str}{p pos:Pos}{e:Expr}{es:List Expr}{t:TA}
theorem cW2 {pins:List (Addr×Obj)}{σ:St}{H:Hp}{s:Shared}{Q:VK}{us:List Value}{vs:List V}(M:Mk X.K C f)(F:sQ X.prog X.w X.K X.mg X.base CX k f fd ps sp)(hr:i5 (k+1) X.A)(hb:Binds X.K fd ps [])
  (hx:aT0 CX X E pins σ) (I:Inv X pins σ H s) (r:Vals vs us)
  (h: ∀x dx,H x=none->H dx=none->dx≠x->sp (.ref x::vs) (upd (upd H dx<|.own x) x<|.ins C dx []) (λv H2=>v= .non/\Q (.ref x) H2) E) :
  wpAny (model X.prog X.w) X.A (call (.ref C) us) (EP X pins σ Q) X.xe s:=by
 have hq:=h (s.heap.objs.size+1) s.heap.objs.size (I.hok.fresh<|tW _) (I.hok.fresh<|aE _) (bD<|pS _);have I2:=Inv.made (C:=C) I;have r2:Vals (V.ref (s.heap.objs.size+1)::vs) (Value.ref (s.heap.objs.size+1)::us):= .cons rfl r;have hl:(Value.ref (s.heap.objs.size+1)::us++[]).length=ps.length:=by
  have e:=r2.length;rw[F.len _ _ _ _ hq]at e;rw[jV];exact e.symm
 have bd:=hb (s:={s with heap:=(s.heap.push {cls:= .type "dict",data:= .dict #[]}).push (instObj C s.heap.objs.size)}) (Value.ref (s.heap.objs.size+1)::us) I2.kIn hl;rw[jV]at bd;refine tZ (c35 (f:=f) I.kIn M.makes M.init (gO.mp M.fn) (tU (F.run _ X.stack _ _ ⟨Value.ref (s.heap.objs.size+1)::us,[]⟩ (Value.ref (s.heap.objs.size+1)::us) _ _ E (hr.make C us [])
  (I2.env0.make C us []) bd r2 hq) λr s' hq'=> ?_))
 cases r with
 | error e=>exact hx _ _ e s' I2 hq'
 | ok fl=>
  cases fl with
  | ret u=>
   obtain⟨v,H',I3,rv,ev,q3⟩:=I2.after hq';subst ev;exact⟨rv,⟨V.ref<|s.heap.objs.size+1,H',I3,rfl,q3⟩⟩
  | next=>exact False.elim hq'
  | brk=>exact False.elim hq'
  | cont=>exact False.elim hq'
theorem dK6 {pins:List (Addr×Obj)}{σ:St}{H:Hp}{s:Shared}{Q:VK}(M:Mk X.K C f)(F:sQ X.prog X.w X.K X.mg X.base CX k f fd ps sp)(hr:i5 (k+1) X.A)(hg:Gl X x)(hm:X.mg x=some (.ref C))(hb:Binds X.K fd ps [])(hx:aT0 CX X E pins σ)
  (ha:PA X (e::es) t) (I:Inv X pins σ H s) (h:cN4 C sp [] E t σ H Q) (hdb:(x==("__debug__":Str))=false) (he:starEach (e::es) X.env=(false,eval e X.env)::starEach es X.env) (hpl:(backTo pos<|starEach es X.env).any (·.1)=false) :
  wpAny (model X.prog X.w) X.A (eval (.Call (.Name x p) (e::es) [] pos) X.env) (EP X pins σ Q) X.xe s:=by
 refine pO (vK I hg hm ?_ hdb)
 refine aM5 (h₀:=X.base) I.ok.mod.kin M.kp (thn (ha pos pins s σ H _ I h) λus s1 ⟨vs,H1,I1,r,q⟩=>⟨I1.kIn,?_⟩) he hpl
 exact cW2 M F hr hb hx I1 r λx dx a b c=>by have:=q x dx a b c;rw[jV]at this;exact this
end
end L2
namespace M
open PySem PySem.Spec PyProof.Rows L2
section
variable {X:Cx}{e:Expr}{es:List Expr}{pos:Pos}{te:UE}{K:Frag}{A:AS}{H:Hp}
def a69 (f:Str)(t:UE):UE:=λρ Q=>t ρ λb ρ1=>match b.d with
 | .obj _ ks l=>(match(ks.zip l).lookup f with
  | some d=>Q (.pu d) ρ1
  | none=>False)
 | _=>False
theorem bL.field {f:Str}{d:D}: ∀{ks:List Str} {l:List D} {vs:List V},bL K A H l vs->(ks.zip l).lookup f=some d-> ∃v,(ks.zip vs).lookup f=some v/\Rep K A H d v/\f∈ks
 | [],_,_,_,h=>by simp at h
 | _::_,[],_,_,h=>by simp at h
 | q::ks,a::l,vs,r,h=>by
  obtain⟨v,vr,rfl,r1,r2⟩:=r.uncons;rw[aM6,d4]at h;rw[aM6,d4];cases c:f==q with
  | true=>
   rw[c]at h;cases h;exact⟨v,rfl,r1,by rw[gO.mp c];simp⟩
  | false=>
   rw[c]at h;obtain⟨w,h1,h2,h3⟩:=bL.field r2 h;exact⟨w,h1,h2,bH _ h3⟩
theorem uD {f:Str}(he:PU X e te)(hb:attributeBase e f X.env (eval e X.env)=eval e X.env:=by rfl):PU X (.Attribute e f pos) (a69 f te):=
 iS (pe_fld he hb) λσ H Q ⟨C,ρ,Q0,I,h,k⟩=>⟨C,ρ,_,I,h,λb ρ1 v H1 q fz s r=>by
  have rr:=r.rep λa z=>I.avF fz z
  cases ed:b.d with
  | obj C' ks l=>
   rw[ed]at rr q;dsimp only at q;cases el:(ks.zip l).lookup f with
   | none=>rw[el]at q;exact q.elim
   | some d=>
    rw[el]at q;simp only[Rep]at rr;obtain⟨a,dx,vs,rfl,n,c,hl,rl,ok⟩:=rr;obtain⟨w,h1,h2,h3⟩:=rl.field el;exact⟨a,C',dx,ks.zip vs,w,rfl,c,ok.1,ok.2 f h3,h1,k _ ρ1 w H1 q fz s h2⟩
  | _=>rw[ed]at q;exact q.elim⟩
abbrev ΦM:=List D->(List D->Prop)->XP->Prop
def spI (K:Frag)(mg:Str->Option Value)(C:Addr)(ks:List Str)(φ:ΦM):Sp:=λvs H Q E=> ∃(x dx:Addr) (vs':List V) (A:AS) (ds:List D) (Q0:List D->Prop) (Ex:XP),vs=V.ref x::vs'/\H x=some (.ins C dx [])/\H dx=some (.own x)/\ ¬A x/\ ¬A dx/\(∀a,A a->H a≠none)/\bL K (λb=>A b\/b=x) H ds vs'/\φ ds Q0 Ex/\
 (∀l ws H',Q0 l->(∀b o,b≠x->H b=some o->H' b=some o)->H' x=some (.ins C dx<|ks.zip ws)->ks.length=ws.length->bL K (λb=>A b\/b=x) H' l ws->Q .non H')/\
 ∀n Cl es o H',Ex n es->mg n=some (.ref Cl)->(∀b o,b≠x->H b=some o->H' b=some o)->XR K A H' n es o->E (.ref Cl) o H'
structure MkX (P:Program)(w:World)(K:Frag)(mg:Str->Option Value)(base:Heap)(x:Str)(k:Nat)(ks:List Str)(φ:ΦM):Prop where
 ex: ∃C f fd ps,Mk K C f/\OkC K C ks/\sQ P w K mg base (CXr P w base) k f fd ps (spI K mg C ks φ)/\Binds K fd ps []/\mg x=some (.ref C)
theorem dR5 {C:Addr}{ks:List Str}{φ:ΦM}{t:UA}{E:XK}{C0:C0}{ρ:Ev}{σ:L2.St}{Q:VK}{Q0:Ev->List D->Prop}{Ex:Ev->XP}(ok:OkC X.K C ks)(I:EOk X.K C0 ρ σ H)(h:t ρ λds ρ1=>φ ds (Q0 ρ1) (Ex ρ1))
  (kq: ∀l ρ1 v H',Q0 ρ1 l->Frz ρ ρ1->iB H H'->Rep X.K (Av C0 ρ1 σ) H' (.obj C ks l) v->Q v H') (kx: ∀n Cl ρ1 es o H',Ex ρ1 n es->X.mg n=some (.ref Cl)->EOk X.K C0 ρ1 σ H'->XR X.K (Av C0 ρ1 σ) H' n es o->E (.ref Cl) o H') :
  cN4 C (spI X.K X.mg C ks φ) [] E (lA X.K t) σ H Q:=by
 refine⟨C0,ρ,_,I,h,λds ρ1 vs H1 q f s r x dx nx nd ne=> ?_⟩
 have I1:=(I.frz f).same s;have hA: ∀a,Av C0 ρ1 σ a->H1 a≠none:=λa z=>I1.avSome z
 have s3:iB H1 (upd (upd H1 dx<|.own x) x<|.ins C dx []):=λb o z=>by
  rw[cH<|d7 z nx,cH<|d7 z nd];exact z
 have back: ∀H',(∀b o,b≠x->upd (upd H1 dx<|.own x) x (.ins C dx []) b=some o->H' b=some o)->iB H1 H':=λH' z b o q'=>z b o (d7 q' nx) (s3 b o q')
 rw[jV];refine⟨x,dx,vs,Av C0 ρ1 σ,ds,Q0 ρ1,Ex ρ1,rfl,iR,by rw[cH ne];exact iR,λz=>hA x z nx,λz=>hA dx z nd,λa z q'=> ?_,r.mono<|mT.fresh s3 nx,q,λl ws H' q0 kp hx hl rl=>⟨rfl,?_⟩,λn Cl es o H' ex hm kp xr=> ?_⟩
 ·cases e':H1 a with
  | none=>exact hA a z e'
  | some o=>rw[s3 a o e']at q';cases q'
 ·refine kq l ρ1 _ H' q0 f (s.trans<|back H' kp) ?_
  simp only[Rep];exact⟨x,dx,ws,rfl,λz=>hA x z nx,hx,hl,rl.mono<|.sub (.refl _) λa z=> .inl z,ok⟩
 ·exact kx n Cl ρ1 es o H' ex hm (I1.same<|back H' kp) xr
def d74 (ks:List Str)(φ:ΦM)(t:UA):UE:=λρ Q=>t ρ λds ρ1=>φ ds (λl=> ∀C,Q (.pu<|.obj C ks l) ρ1) λ_ _=>False
theorem dK7 {k k':Nat}{ks:List Str}{φ:ΦM}{x:Str}{p:Pos}{t:UA}(F:MkX X.prog X.w X.K X.mg X.base x k ks φ)(hr:i5 (k'+1) X.A)(hk:k<=k')(hg:Gl X x)(ha:PUA X (e::es) t)(hdb:(x==("__debug__":Str))=false:=by decide)
  (he:starEach (e::es) X.env=(false,eval e X.env)::starEach es X.env:=by rfl) (hpl:(backTo pos<|starEach es X.env).any (·.1)=false:=by rfl):PU X (.Call (.Name x p) (e::es) [] pos) (d74 ks φ t):=by
 obtain⟨C,f,fd,ps,M,ok,G,b,m⟩:=F.ex;have hp:wG (CXr X.prog X.w X.base) X (λ_ _ _=>False):=by
  rintro pins σ H s e s' I ⟨_,_,_,_,_,_,_,_,_,_,_,_,z⟩;exact z.elim
 refine iS (dG5 M (G.mono hk) hr hg m b .nil hp ha hdb he hpl) λσ H Q ⟨C0,ρ,Q0,I,h,k⟩=> ?_
 exact dR5 (Q0:=λρ1 l=> ∀C,Q0 (.pu<|.obj C ks l) ρ1) (Ex:=λ_ _ _=>False) ok I h (λl ρ1 v H' q f s r=>k _ ρ1 v H' (q C) f s r) λn Cl ρ1 es o H' z=>z.elim
def d75 (i:Nat)(ks:List Str)(φ:ΦM)(t:UA)(names:List Str)(th:US):US:=λE ρ=>t ρ λds ρ1=>φ ds (λl=> ∀C,E.nx<|ρ1.set i<|some<|.pu<|.obj C ks l) λn _=>n∈names/\th E ρ1
theorem dK8 {k k':Nat}{ks:List Str}{φ:ΦM}{x y r:Str}{p cpos apos py rp hpos:Pos}{t:UA}{b0:Stmt}{suite:List Stmt}{th:US}{R:Addr}{B newId initId:String}{bmB:List Value}(i:Nat)(names:List Str)(FB:ExcBaseFacts B newId initId bmB)(F:MkX X.prog X.w X.K X.mg X.base x k ks φ)(hr:i5 (k'+1) X.A)(hk:k<=k')(hstk:X.stack=X.env::X.outer)(hfr:X.env.frame=some X.env.locals)(hex:X.ex=[])(hc:X.calm=true)
  (hg:Gl X x) (ha: ∀xe,PUA (X.wish xe) (e::es) t) (hN:X.N.Nodup) (hi:X.N[i]? =some y) (hy:Loc X.env.scope y) (hsuite: ∀a,rV (X.inX a) (b0::suite) th) (hgr:Gl X r) (hmr:X.mg r=some (.ref R)) (hR:excIn X.K R bmB newId=true) (hu: ∀n∈names,∀C,X.mg n=some (.ref C)->aY7 X.K R C bmB newId)
  (hl: ∀pins σ H s,Inv X pins σ H s->i<σ.length) (hdb:(x==("__debug__":Str))=false:=by decide) (hd:(r==("__debug__":Str))=false:=by decide)
  (he:starEach (e::es) X.env=(false,eval e X.env)::starEach es X.env:=by rfl) (hpl:(backTo cpos<|starEach es X.env).any (·.1)=false:=by rfl) (hs:swapsWith (.Call (.Name x p) (e::es) [] cpos) (some<|.Name y py) apos.line X.env=pure false:=by rfl) (hf:X.fn y=true\/X.env.scope.names.lookup y=some .local:=by walk_at "z") :
  PUS X (.Try [.Assign [.Name y py] (.Call (.Name x p) (e::es) [] cpos) apos] [.ExceptHandler (some<|.Name r rp) none (b0::suite) hpos] [] [] pos) (d75 i ks φ t names th):=by
 obtain⟨C,f,fd,ps,M,ok,G,b,m⟩:=F.ex;intro pins s σ H D J q;refine ps_try (R:=R) (tb:=λE=>dF5 (cN4 C (spI X.K X.mg C ks φ) [] E<|lA X.K t) (aR6 i)) (th:=lS X.K th) FB hstk hfr hex hc (λxe E pins s σ H D I pa h=> ?_) hsuite hgr hmr hR hd pins s σ H D J ?_
 ·refine tN (wpAny_Assign_Name (thn (dK6 (X:=X.wish xe) M (G.mono hk) hr hg m b pa (ha xe) I h hdb he hpl) λv s1 ⟨y',H1,I1,r1,q1⟩=> ?_) hs)
  exact xW (X:=X.wish xe) I1 hN hi hy r1 (λs2 I2=>nL ⟨_,H1,I2,q1⟩) hf
 ·obtain⟨C0,ρ,D0,I,h,k⟩:=q;refine⟨λcls _ H'=> ∃n Cl ρ1,cls=Value.ref Cl/\X.mg n=some (.ref Cl)/\n∈names/\th D0 ρ1/\EOk X.K C0 ρ1 σ H',?_,?_⟩
  ·exact dR5 (Q0:=λρ1 l=> ∀C,D0.nx<|ρ1.set i<|some<|.pu<|.obj C ks l) (Ex:=λρ1 n _=>n∈names/\th D0 ρ1) ok I h
    (λl ρ1 v H' q f s1 r=>k.nx _ _ _ (q C) ((I.frz f).store s1 (show u6 X.K (Av C0 ρ1 σ) H H' (.pu<|.obj C ks l) v from r)<|hl pins σ H s J)) λn Cl ρ1 es o H' z hm' I' _=>⟨n,Cl,ρ1,rfl,hm',z.1,z.2,I'⟩
  ·rintro Cl o H' ⟨n,Cl',ρ1,e1,hm',hn,ht,I'⟩;cases e1;exact⟨hu n hn Cl hm',C0,ρ1,D0,I',ht,k⟩
end
end M
end
section
namespace M
open PySem PySem.Spec PyProof.Rows L2
section
variable {K:Frag}{C:C0}{ρ ρ':Ev}{σ:L2.St}{H H':Hp}
theorem EOk.poke {x:Addr}{o:HO}(I:EOk K C ρ σ H)(ax:C.A0 x)(hx: ∀vs,C.H0 x≠some (.lst vs)):EOk K ⟨λb=>if b=x then some o else C.H0 b,C.A0⟩ ρ σ (upd H x o):=by
 have ne: ∀a,C.H0 a=none->a≠x:=λa z e=>by subst e;exact I.a0 a ax z
 have P:mT (Av C ρ σ) H (Av ⟨λb=>if b=x then some o else C.H0 b,C.A0⟩ ρ σ) (upd H x o):=λb u nb e=>⟨nb,by rw[cH λz=>nb (by subst z;exact .inl ax)];exact e⟩
 refine⟨I.len,?_,?_,I.inj,?_,?_,?_⟩
 ·intro i d h;obtain⟨v,h1,h2⟩:=I.pu i d h;exact⟨v,h1,h2.mono P⟩
 ·intro i l h;obtain⟨a,vs,h1,h2,h3,h4⟩:=I.ow i l h;have na:=ne a h3;exact⟨a,vs,h1,by rw[cH na];exact h2,by show(if a=x then some o else C.H0 a)=none;rw[a6 na];exact h3,h4.mono P⟩
 ·intro i l h;obtain⟨a,vs,h1,h2,h3,h4⟩:=I.bo i l h;have na:a≠x:=λz=>by subst z;exact hx vs h3
  exact⟨a,vs,h1,h2,by show(if a=x then some o else C.H0 a)=_;rw[a6 na];exact h3,h4.mono P⟩
 ·intro b u h
  by_cases c:b=x
  ·subst c;have h':(if b=b then some o else C.H0 b)=some u:=h;rw[a7 rfl]at h';rw[iR];exact h'
  ·have h':(if b=x then some o else C.H0 b)=some u:=h;rw[a6 c]at h';rw[cH c];exact I.ext b u h'
 ·intro a z;show(if a=x then some o else C.H0 a)≠none;split
  ·simp
  ·exact I.a0 a z
theorem bC2 {x Cl dx:Addr}{fs:List (Str×V)}{f:Str}{te:UE}{Q0:B->Ev->Prop}{D:bJ9}(I:EOk K C ρ σ H)(ax:C.A0 x)(hx:H x=some (.ins Cl dx fs))(h0:ρ[0]? =some (some<|.pu<|.adr x))(cl:Cls K Cl)(na:a76 K Cl f)(hf:fs.length<1000)(h:te ρ Q0)
  (k: ∀b ρ1 w H',Q0 b ρ1->ρ1[0]? =some (some<|.pu<|.adr x)->(∀a o,a≠x->H a=some o->H' a=some o)->H' x=some (.ins Cl dx<|vH f w fs)->(∃C1:C0,C1.A0=C.A0/\EOk K C1 ρ1 σ H')->Rep K C.A0 H' b.d w->(∀d v,Rep K C.A0 H d v->Rep K C.A0 H' d v)->D.nx σ H') :
  d13 K (aG3 0) (lE K te) f D σ H:=by
 refine⟨C,ρ,Q0,I,h,λb ρ1 w H1 q fz s r=> ?_⟩
 have I1:=(I.frz fz).same s;have h1:ρ1[0]? =some (some<|.pu<|.adr x):=by
  rcases fz.2 0 with z| ⟨l,z,_⟩
  ·rw[z];exact h0
  ·rw[h0]at z;cases z
 obtain⟨v,e1,e2⟩:=I1.pu 0 _ h1;simp only[Rep]at e2;subst e2;have hx1:=s _ _ hx;have nl: ∀vs,C.H0 x≠some (.lst vs):=λvs z=>by
  have:=I.ext x _ z;rw[hx]at this;cases this
 have P:mT C.A0 H1 C.A0 (upd H1 x<|.ins Cl dx<|vH f w fs):=mT.upd ax;refine⟨.ref x,e1,x,Cl,dx,fs,rfl,hx1,cl,na,hf,k b ρ1 w _ q h1 (λa o ne e=>by rw[cH ne];exact s a o e) iR ⟨⟨λb=>if b=x then some (.ins Cl dx<|vH f w fs)else C.H0 b,C.A0⟩,rfl,I1.poke (o:= .ins Cl dx (vH f w fs)) ax nl⟩ ?_ λd v r'=> ?_⟩
 ·exact((r.rep λa z=>I.avF fz z).mono<|.sub (.refl _) λa z=> .inl z).mono P
 ·exact(r'.mono<|.same s).mono P
end
section
variable {X:Cx}{E:XK}{st:Stmt}{sts:List Stmt}{t u:USX}{tS:TS}
theorem dK9 (h1:bW4 X E st t)(h2:PSs X sts tS):PSs X (st::sts) (λD=>lSX X.K X.mg E t {D with nx:=tS D}):=xX h1 h2
theorem b81 (h1:bW4 X E st t)(h2:PSs X sts (λD=>lSX X.K X.mg E u {D with nx:=tS D})):PSs X (st::sts) (λD=>lSX X.K X.mg E (λEx=>aU (t Ex) (u Ex)) {D with nx:=tS D}):=
 bA3 (xX h1 h2) λD σ H ⟨C,ρ,D0,Ex,I,h,k,kx⟩=>⟨C,ρ,{D0 with nx:=u Ex D0},Ex,I,h,⟨λρ' σ' H' q I'=>⟨C,ρ',D0,Ex,I',q,k,kx⟩,k.rt,k.bk,k.ct⟩,kx⟩
def tS3 (K:Frag)(f1 f2 f3:Str)(t1 t2 t3:UE):TS:=tSeq (d13 K (aG3 0) (lE K t1) f1) (tSeq (d13 K (aG3 0) (lE K t2) f2)<|d13 K (aG3 0) (lE K t3) f3)
end
theorem d76 {P:Program}{w:World}{K:Frag}{mg:Str->Option Value}{base:Heap}{x qual:Str}{st:Stmt}{f Cl:Addr}{fd:FuncData}{N ps:List Str}{k:Nat}{φ:ΦM}{f1 f2 f3:Str}{t1 t2 t3:UE}(F:Fun K x qual st f fd)(S:aW N ps (aD st))(ok:OkC K Cl [f1,f2,f3])(n1:f1≠f2)(n2:f1≠f3)(n3:f2≠f3)
  (len: ∀ds Q Ex,φ ds Q Ex->ds.length+1=ps.length) (hN:N≠[]) {t:USX}
  (der: ∀(cdv:Value) (A:Around) (outer:List Env) (s:Shared) (H:Hp) (E:XK),i5 k (A.deeper<|envOfC qual (aD st) s.heap.objs.size f cdv)->
   PSs (u5 (CXr P w base) P w K mg base N qual (aD st) f cdv A outer s H E) (dZ st) (λD=>lSX K mg E t {D with nx:=tS3 K f1 f2 f3 t1 t2 t3 D}))
  (rd: ∀a ds Q Ex,φ ds Q Ex->t Ex {nx:=λρ=>ρ[0]? =some (some<|.pu<|.adr a)/\t1 ρ λb1 ρ1=>t2 ρ1 λb2 ρ2=>t3 ρ2 λb3 _=>Q [b1.d,b2.d,b3.d],rt:=λ_=>False} (init N (.adr a::ds))) :
  sQ P w K mg base (CXr P w base) (k+1) f fd ps (spI K mg Cl [f1,f2,f3] φ):=by
 obtain⟨oc,od,kV,doc,pm,an,cdv,ct,osl,rfl,lk,hcd⟩:=F.ex;refine d18 lk hcd S (λvs H Q E h=> ?_) λA outer s H vs Q E hr h=> ?_
 ·obtain⟨x,dx,vs',A,ds,Q0,Ex,rfl,_,_,_,_,_,r,h,_⟩:=h;have:=len ds Q0 Ex h;rw[eO,<-r.length];exact this
 ·obtain⟨x,dx,vs',A',ds,Q0,Ex,rfl,hx,hdx,nx,nd,hA,r,h,q,qx⟩:=h;have hA2: ∀a,(A' a\/a=x)->H a≠none:=λa z=>by
   rcases z with z|rfl
   ·exact hA a z
   ·rw[hx];simp
  have r2:bL K (λb=>A' b\/b=x) H (.adr x::ds) (.ref x::vs'):= .cons (by simp only[Rep]) r
  refine⟨_,der cdv A outer s H E hr,⟨H,λb=>A' b\/b=x⟩,init N (.adr x::ds),_,Ex,bV0 hA2 r2,rd x ds Q0 Ex h,⟨λρ σ H' z I=> ?_,λ_ _ _ z=>z.elim,λ_ _ _ z=>z.elim,λ_ _ _ z=>z.elim⟩,λn Cl' es o H' ex hm sm xr=>qx n Cl' es o H' ex hm (λb o _ e=>sm b o e) (xr.mono<|.sub (.refl _) λa z=> .inl z)⟩
  obtain⟨z0,z⟩:=z;have hx':H' x=some (.ins Cl dx []):=I.ext x _ hx;refine bC2 (C:=⟨H,λb=>A' b\/b=x⟩) I (.inr rfl) hx' z0 ok.1 (ok.2 f1 ae) ac z ?_
  rintro b1 ρ1 w1 H1 z1 z0 k1 x1 ⟨C1,a1,I1⟩ r1 m1;refine bC2 (C:=C1) I1 (by rw[a1];exact .inr rfl) x1 z0 ok.1 (ok.2 f2 ae) (show 1<1000 by decide) z1 ?_
  rintro b2 ρ2 w2 H2 z2 z0 k2 x2 ⟨C2,a2,I2⟩ r2 m2;refine bC2 (C:=C2) I2 (by rw[a2,a1];exact .inr rfl) x2 z0 ok.1 (ok.2 f3 ae) (by simp[vH,n1]) z2 ?_
  rintro b3 ρ3 w3 H3 z3 z0 k3 x3 ⟨C3,a3,I3⟩ r3 m3;rw[a1]at m2 r2;rw[a2,a1]at m3 r3;refine q [b1.d,b2.d,b3.d] [w1,w2,w3] H3 z3 (λb o ne e=>k3 b o ne (k2 b o ne<|k1 b o ne<|I.ext b o e)) ?_ rfl (.cons (m3 _ _<|m2 _ _ r1)<|.cons (m3 _ _ r2)<|.cons r3 .nil)
  rw[x3];simp[vH,n1,n2,n3]
noncomputable def bW8 (s:Stmt):List Stmt:=match s with
 | .ClassDef _ _ _ b _ _ _ _ _ _ _=>b
 | _=>[]
section
variable {P:Program}{w:World}{K:Frag}{mg:Str->Option Value}{base:Heap}
theorem cP3 {C fI:Addr}{od an:Option Addr}{osl:Array (Option Value)}{kV doc pm cdv ct:Value}{nm qual:Str}{st:Stmt}{x0 x1 x2 f1 f2:Str}{p1 p2 p3 p4 p5 p6 p7 p8:Pos}
  (l:K.lookup fI=some ⟨.type "function",od,.func<|fnOf nm qual (kA st) (dZ st) (aD st) .none kV doc pm an cdv ct,osl⟩) (c:codeIn K cdv qual=true) (k:keepIn K (.ref fI)=true)
  (hb:dZ st=[.Assign [.Attribute (.Name x0 p1) f1 p2] (.Name x1 p3) p4,.Assign [.Attribute (.Name x0 p5) f2 p6] (.Name x2 p7) p8]) (S:aW [x0,x1,x2] [x0,x1,x2] (aD st))
  (l0:(aD st).names.lookup x0=some .local) (l1:(aD st).names.lookup x1=some .local) (l2:(aD st).names.lookup x2=some .local) (d0:(x0==("__debug__":Str))=false) (d1:(x1==("__debug__":Str))=false) (d2:(x2==("__debug__":Str))=false)
  (bd: ∀(kV doc pm:Value) (an:Option Addr) (cdv ct:Value) (us:List Value),us.length=[x0,x1,x2].length->bindArgs (fnOf nm qual (kA st) (dZ st) (aD st) .none kV doc pm an cdv ct) ⟨us,[]⟩=pure ([x0,x1,x2].zip us))
  {cd:ClassData} (hc:clsIn K C=some cd) (hm:uB cd.mro=true) (hd:cd.hasDict=true) (sa:findIn K (.ref C) "__setattr__"=some (some<|.builtin "object.__setattr__")) (n1:findIn K (.ref C) f1=some none) (n2:findIn K (.ref C) f2=some none) :
  c63 K C fI (fnOf nm qual (kA st) (dZ st) (aD st) .none kV doc pm an cdv ct) f1 f2:=
 ⟨⟨_,od,nm,qual,kA st,aD st,kV,doc,pm,an,cdv,ct,osl,x0,x1,x2,p1,p2,p3,p4,p5,p6,p7,p8,by rw[hb],l,rfl,c,S,l0,l1,l2,d0,d1,d2,(aX8 (st:=st) l c k).binds bd⟩,⟨cd,hc,hm,hd⟩,sa,n1,n2⟩
theorem aY8 {R C:Addr}{bmB:List Value}{newId:String}{cd:ClassData}(h:excIn K C bmB newId=true\/ ∃fI,aH5 K C fI bmB newId=true)(hc:clsIn K C=some cd)(hm:cd.mro.contains (.ref R)=true):aY7 K R C bmB newId:=⟨h,cd,hc,hm⟩
theorem Fn.mkA {x y qual:Str}{st:Stmt}{f:Addr}{fd:FuncData}{N ps:List Str}{k:Nat}{φ:Φ}(F:Fun K y qual st f fd)(m:mg x=some (.ref f))(b:Binds K fd ps [])(S:aW N ps (aD st))
  (len: ∀ds Q,φ ds Q->ds.length=ps.length) {t:US}
  (der: ∀(cdv:Value) (A:Around) (outer:List Env) (s:Shared) (H:Hp) (E:XK),i5 k (A.deeper<|envOfC qual (aD st) s.heap.objs.size f cdv)->rV (u5 CX0 P w K mg base N qual (aD st) f cdv A outer s H E).nox (dZ st) t)
  (rd: ∀ds Q,φ ds Q->t {nx:=λ_=>Q (.pu .non),rt:=Q} (init N ds)):Fn P w K mg base x ps (k+1) φ:=
 ⟨f,fd,bV1 F S len λcdv A outer s H E hr=>⟨t,der cdv A outer s H E hr,rd⟩,b,F.kp,m⟩
end
end M
end
section
open PySem L2 M
local macro_rules| `(tactic| walk_at "u")=> `(tactic| simp only[c53,gSlT,d59,bQ1,gAny,bK3,D.isN,cH5,uRevL,uExt,uRevI,cH3,bW7,aS9,bW6,aU,bT,cY,pA,jA,gA,uOp,uC,aB,b29,aV,c43,uV,uIx,gIx,kO,pB,aQ,a9,aK,kF,i6,aO3,oC,rD,hX,M.gSub,hZ,aO4,oJ,dI0,gI2,sS,jH,isB,B.d,cU5,uOr,dH3,d25,uOrV,d26,cC,gB,cF6,c44,uSl,jG,i7,gSl,cF9,gMax,gMin,aY0,cX,aE4,dI2,g1,g2,dI1,bA8,uIf,d38,dI9,aS2,cF5,mV,d8,mU,gS,aS0,c48,c55,dJ4,cO9,gR,dI6,rE,a04,dI7,bind_some,Option.bind_none,Option.map_some,Option.map_none,Option.join,
 tD,b95,b96,b97,eO,nF,fW,nP,pV,aN1,aK5,bZ,eG,reduceCtorEq])
namespace M
def a87:Φ:=λds Q=> ∃c k p:Int,ds=[.int c,.int k,.int p]/\0<=k/\k<4294967296/\0<p/\ ∀r:Int,0<=r->r<p->Q (.pu<|.int r)
def bC3:US:=(aU (bT 3<|uOp oJ (uOp hZ (uOp hX (uOp hX (uOp hX (aB 0)<|uOp hZ (uOp hZ (uC<|.int 7)<|aB 1)<|aB 1)<|uOp hZ (uC<|.int 13)<|aB 1)<|uC<|.int 5)<|uC<|.int 48271)<|uC<|.int 2147483647)<|aU (bT 3<|uOp oJ (uOp hZ (aB 3)<|aB 3)<|uC<|.int 2147483629)<|cY<|uOp oJ (uOp hZ (aB 3)<|uC<|.int 39373)<|aB 2)
theorem dE (i:Int){j:Int}(h:0<j):i.fmod j=i%j:=Int.fmod_eq_emod_of_nonneg i (Int.le_of_lt h)
theorem l7 (i:Int){j:Int}(h:0<j):i.fdiv j=i/j:=Int.fdiv_eq_ediv_of_nonneg i (Int.le_of_lt h)
theorem cmR {i j:Int}(h1: -18446744073709551616<j)(h2:j<18446744073709551616):cE2 i j\/(Sm i/\Sm j):= .inl (.inr ⟨h1,h2⟩)
theorem cmL {i j:Int}(h1: -18446744073709551616<i)(h2:i<18446744073709551616):cE2 i j\/(Sm i/\Sm j):= .inl (.inl ⟨h1,h2⟩)
theorem d77: ∀ds Q,a87 ds Q->bC3 {nx:=λ_=>Q (.pu .non),rt:=Q} (init ["c","k","p","f"] ds):=by
 rintro ds Q ⟨c,k,p,rfl,h0,h1,hp,h⟩;unfold bC3;show(aU _ _:US) _ [some<|.pu<|.int c,some<|.pu<|.int k,some<|.pu<|.int p,none];walk_at "u";rw[dE _ (by decide:(0:Int)<2147483647),dE _ (by decide:(0:Int)<2147483629),dE _ hp]
 refine⟨cmL ac ac,cmR aa aa,cmL ac ac,cmR ac ac,ac,cmR aa aa,ac,cmR ac ac,aa,?_⟩
 exact h _ (bY _ aa) (bX _ hp)
theorem bJ {ui:UI}{g:UG}{tb:US}{D:UD}{ρ:Ev}(n:Nat)(it:Nat->M.D)(ρ1:Ev)(hui: ∀Q:Nat->(Nat->M.D)->Ev->Prop,Q n it ρ1->ui ρ Q)(Pv:Nat->Ev->Prop)(h0:Pv 0 ρ1)
  (hs: ∀i ρ,i<n->Pv i ρ->g (.pu<|it i) ρ λρ2=>tb {D with nx:=Pv (i+1),ct:=Pv (i+1),bk:=D.nx} ρ2) (hd: ∀ρ,Pv n ρ->D.nx ρ):jD ui g tb D ρ:=hui _ ⟨Pv,h0,hs,hd⟩
theorem cP4 {ws:List Int}{i:Nat}(h:i<ws.length):atI (ws.map D.int) (0+(i:Int))=some (.int ws[i]):=by
 rw[bI];exact cS (by rw[b7,aO h];rfl)
def Below (xs ws:List Int):Prop:=xs.length=ws.length/\ ∀(j:Nat) (x w:Int),xs[j]? =some x->ws[j]? =some w->0<=x/\x<w
theorem cpl {i j:Int}(h1:0<=j)(h2:j<=1000000)(h3:i.natAbs<2^64):dF8 i j:=⟨h1,h2,h3⟩
def rG:Φ:=λds Q=> ∃(c:Int) (ws:List Int) (p:Int),ds=[.int c,.lst<|ws.map .int,.int p]/\ws.length<=1000/\0<p/\(∀w∈ws,0<w/\w<18446744073709551616)/\ ∀xs:List Int,Below xs ws->Q (.ow<|xs.map .int)
def bC4:US:=(aU (bT 3<|uC<|.int 0)<|aU (jA (gA<|uOp (sS λi j=>decide (j<=i)) (aB 0)<|uOp dI0 (uC<|.int 10)<|uC<|.int 18) (bT 3<|uOp M.gSub (aB 0)<|uOp dI0 (uC<|.int 10)<|uC<|.int 18) gB)<|aU (bT 4<|kF aK)<|aU (jD (gS<|a9 (kO<|aV 1) aK) (cC 5)<|jA (gA<|uOp (sS λi j=>decide (j<i)) (aB 3)<|uC<|.int 1) (aU (aO3 4<|uOp oJ (aB 3)<|uIx (aV 1)<|aB 5)<|bT 3<|uOp aO4 (aB 3)<|uIx (aV 1)<|aB 5)<|aO3 4<|uOp oJ (aQ a87<|a9 (aB 0)<|a9 (aB 5)<|a9 (aB 2) aK)<|uIx (aV 1)<|aB 5)<|pA 4)
theorem bC5 {i:Int}(h1: -18446744073709551616<i)(h2:i<18446744073709551616):Sm i:=by
 unfold Sm;have h3:i.natAbs<18446744073709551616:=aa
 exact aY h3 af
theorem bC6 {xs ws:List Int}{x:Int}(h: ∀(j:Nat) (x w:Int),xs[j]? =some x->ws[j]? =some w->0<=x/\x<w)(hl:xs.length<ws.length)(h0:0<=x)(h1:x<ws[xs.length]) :
  ∀(j:Nat) (y w:Int),(xs++[x])[j]? =some y->ws[j]? =some w->0<=y/\y<w:=by
 intro j y w e1 e2
 by_cases hj:j<xs.length
 ·rw[gH hj]at e1;exact h j y w e1 e2
 ·rw[gU ad]at e1
  by_cases hj':j=xs.length
  ·subst hj';simp at e1;subst e1;rw[aO hl]at e2;cases e2;exact⟨h0,h1⟩
  ·have:j-xs.length≠0:=ad
   cases e:j-xs.length with
   | zero=>lia
   | succ n=>rw[e]at e1;simp at e1
theorem d78: ∀ds Q,rG ds Q->bC4 {nx:=λ_=>Q (.pu .non),rt:=Q} (init ["c","w","p","l","f","k"] ds):=by
 rintro ds Q ⟨c,ws,p,rfl,hlen,hp,hw,h⟩;unfold bC4;have tail: ∀left:Int,(aU (bT 4<|kF aK) (aU (jD (gS<|a9 (kO<|aV 1) aK) (cC 5)<|jA (gA<|uOp (sS λi j=>decide (j<i)) (aB 3)<|uC<|.int 1) (aU (aO3 4<|uOp oJ (aB 3)<|uIx (aV 1)<|aB 5)<|bT 3<|uOp aO4 (aB 3)<|uIx (aV 1)<|aB 5)<|aO3 4<|uOp oJ (aQ a87<|a9 (aB 0)<|a9 (aB 5)<|a9 (aB 2) aK)<|uIx (aV 1)<|aB 5)<|pA 4):US)
   {nx:=λ_=>Q (.pu .non),rt:=Q} [some<|.pu<|.int c,some<|.pu<|.lst<|ws.map .int,some<|.pu<|.int p,some<|.pu<|.int left,none,none]:=by
  intro left;rw[aU];walk_at "u";refine⟨ac,?_⟩
  refine bJ ws.length (λi=> .int (0+i)) [some<|.pu<|.int c,some<|.pu<|.lst<|ws.map .int,some<|.pu<|.int p,some<|.pu<|.int left,some<|.ow [],none] ?_
   (λi ρ=> ∃(l:Int) (xs:List Int) (kk:Option B),ρ=[some<|.pu<|.int c,some<|.pu<|.lst<|ws.map .int,some<|.pu<|.int p,some<|.pu<|.int l,some<|.ow<|xs.map .int,kk]/\xs.length=i/\ ∀(j:Nat) (x w:Int),xs[j]? =some x->ws[j]? =some w->0<=x/\x<w)
   ⟨left,[],none,rfl,rfl,λj x w e=>by simp at e⟩ ?_ ?_
  ·intro Q q;simp only[gS];walk_at "u";rw[aG];refine⟨⟨ad,ad⟩,?_⟩
   rw[cP];exact q
  ·rintro i ρ hi ⟨l,xs,kk,rfl,hl,hb⟩;subst hl;obtain⟨w0,w1⟩:=hw _ (bS hi);walk_at "u";refine⟨ac,?_⟩
   by_cases hc:1<l
   ·rw[a7 hc];simp only[cP4 hi];rw[dE _ w0,l7 _ w0];refine⟨ad,?_,⟨ad,bC5 ad w1⟩,_,xs++[l%ws[xs.length]],_,by rw[bV];rfl,ae,bC6 hb hi (bY _ ad)<|bX _ w0⟩
    rw[aG];exact aY hi (aM hlen ac)
   ·rw[a6 hc];refine⟨c,(0+(xs.length:Int)),p,rfl,ad,ad,hp,λr r0 r1=> ?_⟩
    simp only[cP4 hi];rw[dE _ w0];refine⟨ad,?_,l,xs++[r%ws[xs.length]],_,by rw[bV];rfl,ae,bC6 hb hi (bY _ ad)<|bX _ w0⟩
    rw[aG];exact aY hi (aM hlen ac)
  ·rintro ρ ⟨l,xs,kk,rfl,hl,hb⟩;walk_at "u";exact h xs ⟨hl,hb⟩
 show(aU _ _:US) _ [some<|.pu<|.int c,some<|.pu<|.lst<|ws.map .int,some<|.pu<|.int p,none,none,none]
 refine(show dF8 10 18/\(if decide ((10:Int)^(18:Int).toNat<=c)=true then _ else _)from⟨cpl ac ac ac,?_⟩)
 split
 ·exact⟨cpl ac ac ac,tail _⟩
 ·exact tail _
theorem aT1 {d:D}{l:List D}:atI (d::l) 0=some d:=cS (j:=0) rfl
theorem aT2 (k:Nat)(z:Int):(replicate k [D.int z]).flatten=(replicate k z).map .int:=by
 induction k with
 | zero=>rfl
 | succ k ih=>rw[jU,nG,ih,jU];rfl
def aT3:Φ:=λds Q=> ∃(ns:List Int) (k:Int),ds=[.rol<|ns.map .int,.int k]/\ns.length<=63/\0<=k/\k<4294967296/\ ∀r:Int,Q (.pu<|.int r)
def bW9:US:=(aU (jA (gA<|uOp (jH false) (kO<|aV 0)<|uC<|.int 0) (cY<|uOp hZ (uC<|.int 7919)<|uOp hX (aB 1)<|uC<|.int 1) gB)<|aU (jA (gA<|uOp (sS λi j=>decide (i<j)) (aB 1)<|kO<|aV 0) (cY<|uIx (aV 0)<|aB 1) gB)<|cY<|uOp hX (uIx (aV 0)<|uOp oJ (aB 1)<|kO<|aV 0)<|uOp hZ (uC<|.int 104729)<|aB 1)
theorem d79 {ns:List Int}{k:Int}(h0:0<=k)(h1:k<ns.length): ∃z,atI (ns.map D.int) k=some (.int z):=by
 obtain⟨i,rfl⟩: ∃i:Nat,k=(i:Int):=⟨k.toNat,ad⟩
 have hi:i<ns.length:=ad
 exact⟨ns[i],cS (by rw[b7,aO hi];rfl)⟩
theorem dL0: ∀ds Q,aT3 ds Q->bW9 {nx:=λ_=>Q (.pu .non),rt:=Q} (init ["s","k"] ds):=by
 rintro ds Q ⟨ns,k,rfl,hl,k0,k1,h⟩;unfold bW9;show(aU _ _:US) _ [some<|.pu<|.rol<|ns.map .int,some<|.pu<|.int k];walk_at "u";rw[aG];split
 ·exact⟨cmL ac ac,h _⟩
 ·split
  ·obtain⟨z,hz⟩:=d79 (ns:=ns) k0 ad
   rw[hz];exact h z
  ·refine⟨ad,?_⟩
   rw[dE _ ad]
   obtain⟨z,hz⟩:=d79 (ns:=ns) (k:=k%ns.length) (bY _ ad) (bX _ ad)
   rw[hz];exact⟨cmL ac ac,h _⟩
def bC7:Φ:=λds Q=> ∃i:Int,ds=[.int i]/\Q (.pu<|.bl true)
def bC8:US:=(cY<|d25 (aQ dI2<|a9 (aB 0)<|a9 (uC<|.ty "int") aK)<|d26<|aQ dI2<|a9 (aB 0)<|a9 (uC<|.ty "bool") aK)
theorem d80: ∀ds Q,bC7 ds Q->bC8 {nx:=λ_=>Q (.pu .non),rt:=Q} (init ["f"] ds):=by
 rintro ds Q ⟨i,rfl,h⟩;unfold bC8;show(cY _:US) _ [some<|.pu<|.int i];walk_at "u"
 simpa using h
theorem bC9:bootBuiltins "abs"=some (.builtin "abs"):=af
theorem bt_max:bootBuiltins "max"=some (.builtin "max"):=af
theorem bt_min:bootBuiltins "min"=some (.builtin "min"):=af
theorem aH6:bootBuiltins "isinstance"=some (.builtin "isinstance"):=af
theorem bX0:bootBuiltins "int"=some (.type "int"):=af
theorem dL1:bootBuiltins "bool"=some (.type "bool"):=af
theorem fE:bootBuiltins "tuple"=some (.type "tuple"):=af
theorem b82:bootBuiltins "list"=some (.type "list"):=af
theorem dL2: ∀ds Q,bP0 ds Q->ds.length=1:=by rintro ds Q ⟨i,rfl,_⟩;rfl
theorem iV (t:UE)(D:UD)(ρ:Ev):cY t D ρ=t ρ (λb _=>D.rt b):=rfl
theorem eK (φ:Φ)(t:UA)(ρ:Ev)(Q:B->Ev->Prop):aQ φ t ρ Q=t ρ λds ρ1=>φ ds λb=>Q b ρ1:=rfl
theorem dG (t:UE)(u:UA)(ρ:Ev)(Q:List D->Ev->Prop):a9 t u ρ Q=t ρ λx ρ1=>u ρ1 λxs ρ2=>Q (x.d::xs) ρ2:=rfl
theorem aR (t u:US)(D:UD)(ρ:Ev):aU t u D ρ=t {D with nx:=u D} ρ:=rfl
theorem lN (i:Nat)(t:UE)(D:UD)(ρ:Ev):bT i t D ρ=t ρ λb ρ1=>D.nx (ρ1.set i<|some b):=rfl
theorem eV {js:List Nat}{cap:List (Option Nat)}{last t0:Nat}{ui:UI}{te:UE}{ρ:Ev}{Q:B->Ev->Prop}(n:Nat)(it:Nat->D)(ρ1:Ev)(hui: ∀Q:Nat->(Nat->D)->Ev->Prop,Q n it ρ1->ui ρ Q)(hn:n<=1000000)
  (G:Option B->List D->Ev) (x0:Option B) (h0:rE (a04 ρ1 js) cap last=G x0 []) (h1: ∀x l b,(G x l).set t0 (some b)=G (some b) l) (h1': ∀x l,t0< (G x l).length) (h2: ∀x l (Q:List D->Prop),Q l->oC (G x l) last Q) (h3: ∀x l l',(G x l).set last (some<|.ow l')=G x l')
  (f:Nat->D) (hte: ∀i l (Q':B->Ev->Prop),i<n->Q' (.pu<|f i) (G (some<|.pu<|it i) l)->te (G (some<|.pu<|it i) l) Q') (hq:Q (.ow<|(List.range n).map f) (a04 ρ1 js)) :
  dS js cap last ui (cC t0) (λρ Q=>Q true ρ) te ρ Q:=by
 refine hui _ ⟨λi ρ'=> ∃x,ρ'=G x ((List.range i).map f),⟨x0,h0⟩,?_,?_⟩
 ·rintro i ρ' hi ⟨x,rfl⟩;refine⟨h1' _ _,?_⟩;rw[h1];dsimp only;rw[a7 rfl];refine hte i _ _ hi (h2 _ _ _ ⟨?_,some<|.pu<|it i,?_⟩)
  ·rw[aG,kX];exact aY hi (aM hn ac)
  ·rw[h3,bW,bV];rfl
 ·rintro ρ' ⟨x,rfl⟩;exact h2 _ _ _ hq
noncomputable def aJ (r:List Int):D:= .tup (r.map .int)
noncomputable def bX1 (t:List (List Int)):D:= .tup (t.map aJ)
theorem bD0 (l:List D)(i:Nat)(h:i<=l.length):cutD l none (some (i:Int))=l.take i:=by
 unfold cutD;rw[HT.sIx_none,HT.sIx_nat,nN h];simp
theorem uE (l:List D)(i:Nat)(h:i<=l.length):cutD l (some (i:Int)) none=l.drop i:=by
 unfold cutD;rw[HT.sIx_none,HT.sIx_nat,nN h];rw[aL0 (by rw[nK];exact aE _)]
def a10:Φ:=λds Q=> ∃(t:List (List Int)) (i:Nat),ds=[bX1 t,.int (i:Int)]/\i<t.length/\2<=t.length/\t.length<=1000/\(∀r∈t,1<=r.length)/\Q (.pu<|bX1<|(t.eraseIdx i).map List.tail)
def a11:US:=(cY<|aQ cX<|a9 (dS [] [none,none] 1 (gR<|uOp hX (uSl (aV 0) i7<|jG<|aB 1)<|uSl (aV 0) (jG<|uOp hX (aB 1)<|uC<|.int 1) i7) (cC 0) (λρ Q=>Q true ρ)<|uSl (aV 0) (jG<|uC<|.int 1) i7) aK)
theorem bX2: ∀ds Q,a10 ds Q->a11 {nx:=λ_=>Q (.pu .non),rt:=Q} (init ["t","i"] ds):=by
 rintro ds Q ⟨t,i,rfl,hi,h2,h1000,hr,h⟩;unfold a11;show(cY _:US) _ [some<|.pu<|bX1 t,some<|.pu<|.int (i:Int)];have hl:(t.map aJ).length=t.length:=aG _;have e1:cutD (t.map aJ) none (some (i:Int))=(t.take i).map aJ:=by rw[bD0 _ _ ad,j4]
 have e2:cutD (t.map aJ) (some<|(i:Int)+1) none=(t.drop<|i+1).map aJ:=by
  have:=uE (t.map aJ) (i+1) ad
  rw[pW]
  exact_mod_cast this
 have e3:(t.take i).map aJ++(t.drop<|i+1).map aJ=(t.eraseIdx i).map aJ:=by rw[<-bV,<-List.eraseIdx_eq_take_drop_succ]
 have le:(t.eraseIdx i).length=t.length-1:=aJ8 hi;rw[iV,eK,dG];refine eV (t0:=0) ((t.eraseIdx i).map aJ).length (λk=>((t.eraseIdx i).map aJ).getD k .non) [some<|.pu<|bX1 t,some<|.pu<|.int (i:Int)] ?_ (by rw[aG];lia)
  (λx l=>[x,some<|.ow l]) none rfl (λ_ _ _=>rfl) (λ_ _=>cQ _) (λ_ _ _ q=>q) (λ_ _ _=>rfl) (λk=>aJ (((t.eraseIdx i).getD k []).tail)) ?_ ?_
 ·intro Q' q;simp only[gR,bX1];walk_at "u";refine⟨?_,?_,?_,?_⟩
  ·rw[hl,HT.sIx_none,HT.sIx_nat];lia
  ·rw[hl,HT.sIx_none];have:HT.sIx t.length 0 (some<|(i:Int)+1)=min (i+1) t.length:=by exact_mod_cast HT.sIx_nat t.length 0 (i+1)
   rw[this];lia
  ·rw[e1,e2,aG,aG,pT,nK];exact aM (show _<=2000 by lia) ac
  ·rw[e1,e2,e3];exact q
 ·intro k l Q' hk q;rw[aG]at hk;have ek:((t.eraseIdx i).map aJ).getD k .non=aJ ((t.eraseIdx i).getD k []):=by
   rw[aI,aI,b7,aO hk];rfl
  have hm:1<=((t.eraseIdx i).getD k []).length:=by
   rw[aI,aO hk];exact hr _ (yW<|bS hk)
  rw[ek]at q⊢;generalize (t.eraseIdx i).getD k []=r at hm q;simp only[aJ]at q⊢;walk_at "u";have lr:(r.map D.int).length=r.length:=aG _;have ec:cutD (r.map D.int) (some 1) none=r.tail.map D.int:=by
   have:=uE (r.map D.int) 1 ad
   rw[show((1:Nat):Int)=1 from rfl]at this
   rw[this,<-pW,drop_one]
  refine⟨?_,by rw[ec];exact q⟩
  rw[lr];have:HT.sIx r.length 0 (some 1)=min 1 r.length:=HT.sIx_nat r.length 0 1;rw[this];lia
 ·have em:(List.range ((t.eraseIdx i).map aJ).length).map (λk=>aJ (((t.eraseIdx i).getD k []).tail))=((t.eraseIdx i).map List.tail).map aJ:=by
   rw[aG];apply kY
   ·simp
   ·intro k h1 h2;simp at h1;simp[h1,aI]
  rw[em];exact h
noncomputable def gC:Nat->List (List Int)->Int
 | 0,_=>0
 | n+1,t=>if t.length=1 then(t.getD 0 []).getD 0 0 else((List.range t.length).map λi=>(if i%2=0 then 1 else -1)*(t.getD i []).getD 0 0*gC n ((t.eraseIdx i).map List.tail)).sum
structure Sq (n:Nat)(t:List (List Int)):Prop where
 pos:1<=t.length
 le:t.length<=n
 row: ∀r∈t,r.length=t.length
 small: ∀r∈t,∀x∈r,x.natAbs<2^2000
def gD (n:Nat):Φ:=λds Q=> ∃t:List (List Int),ds=[bX1 t]/\Sq n t/\Q (.pu<|.int<|gC n t)
def bD1 (gD:Φ):US:=(aU (jA (gA<|uOp (jH false) (kO<|aV 0)<|uC<|.int 1) (cY<|uIx (uV<|uIx (aV 0)<|uC<|.int 0)<|uC<|.int 0) gB)<|aU (bT 1<|uC<|.int 0)<|aU (bT 2<|uC<|.int 1)<|aU (jD (gS<|a9 (kO<|aV 0) aK) (cC 3)<|aU (c44 1 (gI2 λi j Q=>Q (.pu<|.int<|i+j))<|uOp hZ (uOp hZ (aB 2)<|uIx (uV<|uIx (aV 0)<|aB 3)<|uC<|.int 0)<|aQ gD<|a9 (aQ a10<|a9 (aB 0)<|a9 (aB 3) aK) aK)<|bT 2<|rD<|aB 2)<|pA 1)
theorem aE7 (n:Nat): ∀ds Q,gD n ds Q->ds.length=1:=by rintro ds Q ⟨a,rfl,_⟩;rfl
theorem Sq.less {n:Nat}{t:List (List Int)}{i:Nat}(h:Sq (n+1) t)(h2:t.length≠1)(hi:i<t.length):Sq n ((t.eraseIdx i).map List.tail):=by
 have le:(t.eraseIdx i).length=t.length-1:=aJ8 hi;have hp:=h.pos;have hl:=h.le;refine⟨by rw[aG];lia,by rw[aG];lia,λr hr=> ?_,λr hr x hx=> ?_⟩
 ·obtain⟨r',hr',rfl⟩:=dM.mp hr;rw[aG,List.length_tail,h.row r'<|yW hr',le]
 ·obtain⟨r',hr',rfl⟩:=dM.mp hr;exact h.small r' (yW hr') x (List.mem_of_mem_tail hx)
theorem aY9 (f:Nat->Int)(b:Nat): ∀n:Nat,(∀i,i<n->(f i).natAbs<=b)->(((List.range n).map f).sum).natAbs<=n*b
 | 0,_=>ae
 | n+1,h=>by
  rw[bW,bV,aO1];have h1:=aY9 f b n λi hi=>h i (kW hi)
  have h2:=h n (pS n);have h3:((List.map f [n]).sum)=f n:=ae
  rw[h3,Nat.succ_mul];omega
theorem aZ0: ∀(n:Nat) (t:List (List Int)),n<=4->Sq n t->(gC n t).natAbs<=2^(2010*n)
 | 0,t,_,h=>by have:=h.pos;have:=h.le;lia
 | n+1,t,hn,h=>by
  have entry: ∀i,i<t.length->((t.getD i []).getD 0 0).natAbs<=2^2000:=λi hi=>by
   have eg:t.getD i []=t[i]:=by rw[aI,aO hi];rfl
   rw[eg];have hr:=h.row _ (bS hi);have hp:=h.pos;have h0:0< (t[i]).length:=ad
   rw[aI,aO h0];exact nS (h.small _ (bS hi) _<|bS h0)
  unfold gC;split
  ·have:=entry 0 (by have:=h.pos;lia)
   exact aM this (iD ac ad)
  ·rename_i h1
   refine aM (aY9 _ (2^2000*2^(2010*n)) _ λi hi=> ?_) ?_
   ·rw[fL,fL];have e1:(if i%2=0 then(1:Int)else -1).natAbs=1:=by split<;>rfl
    rw[e1,one_mul];exact j2 (entry i hi) (aZ0 n _ ad<|h.less h1 hi)
   ·have hl:=h.le;have e:2^(2010*(n+1))=2^10*(2^2000*2^(2010*n)):=by
     rw[<-j8,<-j8];congr 1;lia
    rw[e];exact aL6 _ ad
theorem Sm.pow {i:Int}{k:Nat}(h:i.natAbs<=2^k)(hk:k<9000):Sm i:=nE h (aL7 ac hk)
theorem b83 {t:List (List Int)}{i:Nat}(h:i<t.length):atI (t.map aJ) (0+(i:Int))=some (aJ<|t.getD i []):=by
 rw[bI];refine cS ?_;rw[b7,aO h,aI,aO h];rfl
theorem a88 {r:List Int}(h:0<r.length):atI (r.map D.int) 0=some (.int<|r.getD 0 0):=by
 refine cS (j:=0) ?_
 rw[b7,aO h,aI,aO h];rfl
theorem aT4 (n:Nat)(hn:n<4): ∀ds Q,gD (n+1) ds Q->bD1 (gD n) {nx:=λ_=>Q (.pu .non),rt:=Q} (init ["t","o","s","i"] ds):=by
 rintro ds Q ⟨t,rfl,sq,h⟩;have hp:=sq.pos;have hle:=sq.le;have lt:(t.map aJ).length=t.length:=aG _;have lrow: ∀i,i<t.length->0< (t.getD i []).length:=λi hi=>by
  rw[aI,aO hi];have:=sq.row _ (bS hi);show 0< (t[i]).length
  lia
 unfold bD1;show(aU _ _:US) _ [some<|.pu<|.tup<|t.map aJ,none,none,none];walk_at "u";rw[lt];split
 ·rename_i h1
  have h1':t.length=1:=ad
  have:=b83 (t:=t) (i:=0) ad
  rw[show(0:Int)+((0:Nat):Int)=0 from rfl]at this
  rw[this];simp only[aJ];rw[a88<|lrow 0 ad]
  unfold gC at h;rw[a7 h1']at h;exact h
 ·rename_i h1
  have h1':t.length≠1:=ad
  unfold gC at h;rw[a6 h1']at h;refine bJ t.length (λi=> .int (0+i)) [some<|.pu<|.tup<|t.map aJ,some<|.pu<|.int 0,some<|.pu<|.int 1,none] ?_ (λi ρ=> ∃x,ρ=[some<|.pu<|.tup<|t.map aJ,some<|.pu<|.int ((List.range i).map λi=>(if i%2=0 then 1 else -1)*(t.getD i []).getD 0 0*gC n ((t.eraseIdx i).map List.tail)).sum,some<|.pu<|.int<|if i%2=0 then 1 else -1,x]) ?_ ?_ ?_
  ·intro Q' q;simp only[gS];walk_at "u";rw[lt];refine⟨⟨ad,ad⟩,?_⟩
   rw[cP];exact q
  ·exact⟨none,rfl⟩
  ·rintro i ρ hi ⟨x,rfl⟩;walk_at "u";refine⟨ac,?_⟩
   rw[b83 hi];simp only[aJ];rw[a88<|lrow i hi];have sg:Sm (if i%2=0 then(1:Int)else -1):=by split<;>exact bC5 ac ac
   have eg:t.getD i []=t[i]:=by rw[aI,aO hi];rfl
   have en:((t.getD i []).getD 0 0).natAbs<=2^2000:=by
    have h0:=lrow i hi;rw[eg]at h0⊢;rw[aI,aO h0];exact nS (sq.small _ (bS hi) _<|bS h0)
   have se:Sm ((t.getD i []).getD 0 0):=Sm.pow en ac
   refine⟨.inr ⟨sg,se⟩,t,i,by rw[bI];rfl,hi,ad,ad,λr hr=>by rw[sq.row r hr];exact hp,?_⟩
   refine⟨_,rfl,sq.less h1' hi,?_⟩
   have sd:Sm (gC n<|(t.eraseIdx i).map List.tail):=Sm.pow (aZ0 n _ ad<|sq.less h1' hi) ad
   have sp:Sm ((if i%2=0 then(1:Int)else -1)*(t.getD i []).getD 0 0):=by
    refine Sm.pow (k:=2000) ?_ ac
    rw[fL];have e1:(if i%2=0 then(1:Int)else -1).natAbs=1:=by split<;>rfl
    rw[e1,one_mul];exact en
   walk_at "u"
   refine⟨.inr ⟨sp,sd⟩,some<|.pu<|.int<|0+(i:Int),?_⟩
   have e2: -(if i%2=0 then(1:Int)else -1)=(if(i+1)%2=0 then 1 else -1):=by
    by_cases q:i%2=0
    ·rw[a7 q,a6 ad]
    ·rw[a6 q,a7 ad];rfl
   rw[e2,bW,bV,aO1];simp
  ·rintro ρ ⟨x,rfl⟩;walk_at "u";exact h
noncomputable def iJ (p:List Int)(k:Nat)(sums:List Int):Int:=
 -(((List.range<|min (k-1)<|p.length-1).map λi=>p.getD (p.length-1-(i+1)) 0*sums.getD (k-(i+1)) 0).sum+(if k<=p.length-1 then(k:Int)*p.getD (p.length-1-k) 0 else 0))
noncomputable def cR (p:List Int):Nat->List Int
 | 0=>[((p.length-1:Nat):Int)]
 | k+1=>cR p k++[iJ p (k+1)<|cR p k]
theorem qE (p:List Int): ∀k,(cR p k).length=k+1
 | 0=>rfl
 | k+1=>by unfold cR;rw[bN,qE p k];rfl
structure b84 (p:List Int):Prop where
 lo:3<=p.length
 hi:p.length<=5
 small: ∀x∈p,x.natAbs<=499
theorem fY {l:List Int}{b:Nat}(h: ∀x∈l,x.natAbs<=b)(i:Nat):(l.getD i 0).natAbs<=b:=by
 rw[aI];cases e:l[i]? with
 | none=>exact dN _
 | some x=>exact h x (zB e)
theorem a12 {p:List Int}(hp:b84 p): ∀k,k<=6-> ∀x∈cR p k,x.natAbs<=2^(15*k+3)
 | 0,_,x,hx=>by
  have:=hp.hi;have e:x=((p.length-1:Nat):Int):=by simpa[cR]using hx
  rw[e,Int.natAbs_natCast];have:(2:Nat)^(15*0+3)=8:=rfl;omega
 | k+1,hk,x,hx=>by
  have ih:=a12 hp k aa
  have ep:(2:Nat)^(15*(k+1)+3)=32768*2^(15*k+3):=by
   rw[show 15*(k+1)+3=15+(15*k+3)by omega,j8]
  have hb:8<=2^(15*k+3):=by
   rw[j8];have:1<=2^(15*k):=Nat.one_le_two_pow;omega
  unfold cR at hx;rcases bM.mp hx with hx|hx
  ·have:=ih x hx;omega
  ·have e:x=iJ p (k+1) (cR p k):=by simpa using hx
   rw[e];unfold iJ;rw[natAbs_neg];have hl:=hp.hi;have s1:=aY9 (λi=>p.getD (p.length-1-(i+1)) 0*(cR p k).getD (k+1-(i+1)) 0) (499*2^(15*k+3)) (min (k+1-1)<|p.length-1) λi _=>by
    rw[fL];exact j2 (fY hp.small _) (fY ih _)
   have s2:(if k+1<=p.length-1 then((k+1:Nat):Int)*p.getD (p.length-1-(k+1)) 0 else 0).natAbs<=4*499:=by
    split
    ·rw[fL,Int.natAbs_natCast];exact j2 aa (fY hp.small _)
    ·exact dN _
   have s3:min (k+1-1) (p.length-1)*(499*2^(15*k+3))<=4*(499*2^(15*k+3)):=aL6 _ aa
   have s4:=aN3 (((List.range<|min (k+1-1)<|p.length-1).map λi=>p.getD (p.length-1-(i+1)) 0*(cR p k).getD (k+1-(i+1)) 0).sum) (if k+1<=p.length-1 then((k+1:Nat):Int)*p.getD (p.length-1-(k+1)) 0 else 0)
   omega
def uF:Φ:=λds Q=> ∃(p:List Int) (m:Nat),ds=[aJ p,.int (m:Int)]/\b84 p/\1<=m/\m<=7/\Q (.ow<|(cR p<|m-1).map .int)
def uG:US:=(aU (bT 2<|uOp M.gSub (kO<|aV 0)<|uC<|.int 1)<|aU (bT 3<|kF<|a9 (aB 2) aK)<|aU (jD (aS0<|a9 (uC<|.int 1)<|a9 (aB 1) aK) (cC 4)<|aU (bT 5<|aQ dI9<|a9 (dS [2,4] [none,some 0,some 2,some 3,some 4,none] 5 (aS0<|a9 (uC<|.int 1)<|a9 (uOp hX (aQ gMin<|a9 (uOp M.gSub (aB 4)<|uC<|.int 1)<|a9 (aB 2) aK)<|uC<|.int 1) aK) (cC 0) (λρ Q=>Q true ρ)<|uOp hZ (uIx (aV 1)<|uOp M.gSub (aB 2)<|aB 0)<|uIx (aV 3)<|uOp M.gSub (aB 4)<|aB 0) aK)<|aU (jA (gA<|uOp (sS λi j=>decide (i<=j)) (aB 4)<|aB 2) (c44 5 (gI2 λi j Q=>Q (.pu<|.int<|i+j))<|uOp hZ (aB 4)<|uIx (aV 0)<|uOp M.gSub (aB 2)<|aB 4) gB)<|aO3 3<|rD<|aB 5)<|pA 3)
theorem a89 {ns:List Int}{k:Nat}(h:k<ns.length):atI (ns.map D.int) (k:Int)=some (.int<|ns.getD k 0):=by
 refine cS ?_
 rw[b7,aO h,aI,aO h];rfl
theorem bD2: ∀ds Q,uF ds Q->uG {nx:=λ_=>Q (.pu .non),rt:=Q} (init ["p","m","n","s","k","t"] ds):=by
 rintro ds Q ⟨p,m,rfl,hp,m1,m7,h⟩;have hlo:=hp.lo;have hhi:=hp.hi;have lp:(p.map D.int).length=p.length:=aG _;unfold uG;show(aU _ _:US) _ [some<|.pu<|.tup<|p.map .int,some<|.pu<|.int (m:Int),none,none,none,none];rw[aR,lN];walk_at "u";rw[lp];refine⟨ac,?_⟩
 have en:(p.length:Int)-1=((p.length-1:Nat):Int):=ad
 rw[en];refine bJ (m-1) (λi=> .int (1+i)) [some<|.pu<|.tup<|p.map .int,some<|.pu<|.int (m:Int),some<|.pu<|.int ((p.length-1:Nat):Int),some<|.ow<|(cR p 0).map .int,none,none] ?_
  (λi ρ=> ∃x4 x5,ρ=[some<|.pu<|.tup<|p.map .int,some<|.pu<|.int (m:Int),some<|.pu<|.int ((p.length-1:Nat):Int),some<|.ow<|(cR p i).map .int,x4,x5]) ⟨none,none,rfl⟩ ?_ ?_
 ·intro Q' q;simp only[aS0];walk_at "u";refine⟨ad,?_⟩
  rw[show((m:Int)-1).toNat=m-1 by lia]
  exact q
 ·rintro i ρ hi ⟨x4,x5,rfl⟩;have bn:=a12 hp i ad
  refine⟨by show 4<6;decide,?_⟩
  dsimp only[set_cons_succ,set_cons_zero];rw[aR,lN,eK,dG];refine eV (t0:=0) (min i<|p.length-1) (λj=> .int (1+j)) [some<|.pu<|.tup<|p.map .int,some<|.pu<|.int (m:Int),some<|.pu<|.int ((p.length-1:Nat):Int),some<|.ow<|(cR p i).map .int,some<|.pu<|.int<|1+(i:Int),x5] ?_ ad
   (λx l=>[x,some<|.pu<|.tup<|p.map .int,some<|.pu<|.int ((p.length-1:Nat):Int),some<|.bo<|(cR p i).map .int,some<|.pu<|.int<|1+(i:Int),some<|.ow l]) none rfl (λ_ _ _=>rfl) (λ_ _=>cQ _) (λ_ _ _ q=>q) (λ_ _ _=>rfl)
   (λj=> .int (p.getD (p.length-1-(j+1)) 0*(cR p i).getD (i+1-(j+1)) 0)) ?_ ?_
  ·intro Q' q;simp only[aS0];walk_at "u";have e:(if((p.length-1:Nat):Int)<1+(i:Int)-1 then((p.length-1:Nat):Int)else 1+(i:Int)-1)=((min i (p.length-1):Nat):Int):=by split<;>lia
   rw[e];refine⟨ad,?_⟩
   rw[show(((min i (p.length-1):Nat):Int)+1-1).toNat=min i (p.length-1)by lia]
   exact q
  ·intro j l Q' hj q;have hj1:j<i:=ad
   have hj2:j<p.length-1:=ad
   walk_at "u"
   rw[show((p.length-1:Nat):Int)-(1+(j:Int))=((p.length-1-(j+1):Nat):Int)by lia,show 1+(i:Int)-(1+(j:Int))=((i+1-(j+1):Nat):Int)by lia]
   rw[a89 ad,a89 (by rw[qE];lia)]
   exact⟨.inr ⟨Sm.pow (k:=9) (aM (fY hp.small _) ac) ac,Sm.pow (fY bn _) ad⟩,q⟩
  ·have es:((List.range<|min i<|p.length-1).map λj=>D.int (p.getD (p.length-1-(j+1)) 0*(cR p i).getD (i+1-(j+1)) 0))=((List.range<|min i<|p.length-1).map λj=>p.getD (p.length-1-(j+1)) 0*(cR p i).getD (i+1-(j+1)) 0).map D.int:=by
    rw[fX];rfl
   rw[es];generalize hT:((List.range<|min i<|p.length-1).map λj=>p.getD (p.length-1-(j+1)) 0*(cR p i).getD (i+1-(j+1)) 0)=T
   walk_at "u"
   rw[bP4];dsimp only;have last: ∀z:Int,z= -(iJ p (i+1)<|cR p i)->(cR p i).map D.int++[D.int<|-z]=(cR p<|i+1).map D.int:=λz hz=>by
    rw[hz]
    conv=>rhs;unfold cR
    rw[bV];simp
   have lz:((cR p i).map D.int).length<sizeLine:=by
    rw[aG,qE];exact aY (show _<100 by lia) ac
   by_cases hk:i+1<=p.length-1
   ·rw[a7 ad]
    rw[show((p.length-1:Nat):Int)-(1+(i:Int))=((p.length-1-(i+1):Nat):Int)by lia,a89 ad]
    have hz1:T.sum+(1+(i:Int))*p.getD (p.length-1-(i+1)) 0= -(iJ p (i+1)<|cR p i):=by
     unfold iJ;rw[Int.neg_neg,a7 hk,<-hT];rw[show i+1-1=i from rfl,show((i+1:Nat):Int)=1+(i:Int)by lia]
    dsimp only;rw[last _ hz1];exact⟨.inr ⟨bC5 ad ad,Sm.pow (k:=9) (aM (fY hp.small _) ac) ac⟩,lz,_,_,rfl⟩
   ·rw[a6 ad]
    have hz1:T.sum= -(iJ p (i+1)<|cR p i):=by
     unfold iJ;rw[Int.neg_neg,a6 hk,<-hT,iG];rfl
    rw[last _ hz1];exact⟨lz,_,_,rfl⟩
 ·rintro ρ ⟨x4,x5,rfl⟩;walk_at "u";exact h
theorem cI4: ∀ds Q,¬gD 0 ds Q:=by
 rintro ds Q ⟨t,rfl,sq,_⟩;have:=sq.pos;have:=sq.le;omega
theorem d81 (t:UE)(D:UD)(ρ:Ev):aS2 t D ρ=t ρ (λ_ ρ1=>D.nx ρ1):=rfl
structure fF (p:List Int):Prop where
 ok:b84 p
 one: ∃q,p=q++[1]
noncomputable def c65 (c:Int):Bool:=decide ((if c<0 then -c else c)<=499)
noncomputable def dL3 (p:List Int):Bool:=decide (3<=p.length)&&(decide (p.length<=5)&&(decide (p.getD (p.length-1) 0=1)&&p.all c65))
theorem aZ1: ∀(q:List Int) (x:Int),(q++[x]).getD ((q++[x]).length-1) 0=x:=λq x=>by
 rw[bN,aI,gU ae]
 simp
theorem d82 (p:List Int):dL3 p=true↔fF p:=by
 unfold dL3;simp only[dW,fW,eS];constructor
 ·rintro⟨h1,h2,h3,h4⟩;refine⟨⟨h1,h2,λx hx=> ?_⟩,?_⟩
  ·have:=tM (h4 x hx);split at this<;>lia
  ·rcases List.eq_nil_or_concat p with rfl| ⟨q,x,rfl⟩
   ·simp at h1
   ·rw[List.concat_eq_append]at h3⊢;rw[aZ1]at h3;exact⟨q,by rw[h3]⟩
 ·intro h;refine⟨h.ok.lo,h.ok.hi,?_,λx hx=>jW ?_⟩
  ·obtain⟨q,rfl⟩:=h.one;exact aZ1 q 1
  ·have:=h.ok.small x hx;split<;>lia
theorem cW3 {p:List Int}(h:0<p.length):atI (p.map D.int) (-1)=some (.int<|p.getD (p.length-1) 0):=by
 rcases List.eq_nil_or_concat p with rfl| ⟨q,x,rfl⟩
 ·simp at h
 ·rw[List.concat_eq_append,aZ1,bV];exact d21 _ _
def oN:Φ:=λds Q=> ∃p:List Int,ds=[aJ p]/\p.length<=1000/\Q (.pu<|.bl<|dL3 p)
def uH:US:=(cY<|aQ d38<|a9 (dS [] [none,none] 1 (gR<|aB 0) (cC 0) (λρ Q=>Q true ρ)<|uOp (sS λi j=>decide (i<=j)) (aQ cF9<|a9 (aB 0) aK)<|uC<|.int 499) aK)
def oO:US:=(aU (jA (uOr (gA<|uOp (sS λi j=>decide (i<j)) (kO<|aV 0)<|uC<|.int 3)<|uOr (gA<|uOp (sS λi j=>decide (j<i)) (kO<|aV 0)<|uC<|.int 5)<|gA<|uOp (jH true) (uIx (aV 0)<|rD<|uC<|.int 1)<|uC<|.int 1) (cY<|uC<|.bl false) gB) uH)
theorem aT5: ∀ds Q,oN ds Q->oO {nx:=λ_=>Q (.pu .non),rt:=Q} (init ["r"] ds):=by
 rintro ds Q ⟨p,rfl,hn,h⟩;have lp:(p.map D.int).length=p.length:=aG _;unfold oO;simp only[aJ];show(aU _ _:US) _ [some<|.pu<|.tup<|p.map .int];rw[aR];walk_at "u";rw[lp];unfold dL3 at h
 by_cases h3:(p.length:Int)<3
 ·rw[a7 h3];rw[gK ad]at h
  exact h
 rw[a6 h3];rw[jW<|show 3<=p.length by lia,Bool.true_and]at h
 by_cases h5:(5:Int)< (p.length:Int)
 ·rw[a7 h5];rw[gK<|show ¬p.length<=5 by lia]at h
  exact h
 rw[a6 h5];rw[jW<|show p.length<=5 by lia,Bool.true_and]at h
 rw[cW3 ad]
 dsimp only
 by_cases h1:p.getD (p.length-1) 0=1
 ·rw[jW h1,Bool.true_and]at h;rw[a6 λz=>z h1]
  unfold uH;rw[iV,eK,dG];refine eV (t0:=0) p.length (λk=>(p.map D.int).getD k .non) [some<|.pu<|.tup<|p.map .int] ?_ ad (λx l=>[x,some<|.ow l]) none rfl (λ_ _ _=>rfl) (λ_ _=>cQ _) (λ_ _ _ q=>q) (λ_ _ _=>rfl) (λk=> .bl (c65<|p.getD k 0)) ?_ ?_
  ·intro Q' q;simp only[gR];walk_at "u";rw[lp];exact q
  ·intro k l Q' hk q;have ek:(p.map D.int).getD k .non= .int (p.getD k 0):=by
    rw[aI,b7,aI,aO hk];rfl
   rw[ek]at q⊢;walk_at "u";exact q
  ·have e:((List.range p.length).map λk=>D.bl (c65<|p.getD k 0))=(p.map c65).map D.bl:=by
    rw[fX];refine kY ae λi h1 h2=> ?_
    simp at h1
    simp[h1]
   rw[e];walk_at "u";rw[a05];show Q (.pu<|.bl<|(p.map c65).all id);rw[List.all_map];exact h
 ·rw[gK h1]at h;rw[a7 h1];exact h
def i4:Φ:=λds Q=> ∃p:List Int,ds=[aJ p]/\fF p/\Q (.pu .non)
def mD:US:=(jA (dH3<|gA<|aQ oN<|a9 (aB 0) aK) (λ_ _=>False) gB)
theorem aG5: ∀ds Q,i4 ds Q->mD {nx:=λ_=>Q (.pu .non),rt:=Q} (init ["r"] ds):=by
 rintro ds Q ⟨p,rfl,hp,h⟩;have hi:=hp.ok.hi;unfold mD;show(jA _ _ _:US) _ [some<|.pu<|aJ p];walk_at "u";refine⟨p,rfl,ad,?_⟩
 rw[(d82 p).mpr hp]
 simpa using h
noncomputable def cJ (p:List Int):List (List Int):=(List.range<|p.length-1).map λi=>((cR p<|2*(p.length-1)-2).drop i).take (p.length-1)
def a13:Φ:=λds Q=> ∃p:List Int,ds=[aJ p]/\fF p/\Q (.pu<|.int<|gC 4<|cJ p)
def a14:US:=(aU (aS2<|aQ i4<|a9 (aB 0) aK)<|aU (bT 1<|uOp M.gSub (kO<|aV 0)<|uC<|.int 1)<|aU (bT 2<|aQ uF<|a9 (aB 0)<|a9 (uOp M.gSub (uOp hZ (uC<|.int 2)<|aB 1)<|uC<|.int 1) aK)<|cY<|aQ (gD 4)<|a9 (aQ cX<|a9 (dS [1] [none,some 2,some 1,none] 3 (gS<|a9 (aB 1) aK) (cC 0) (λρ Q=>Q true ρ)<|aQ cX<|a9 (uSl (aV 1) (jG<|aB 0)<|jG<|uOp hX (aB 0)<|aB 2) aK) aK) aK)
theorem bQ7 {p:List Int}(hp:b84 p):Sq 4 (cJ p):=by
 have hlo:=hp.lo;have hhi:=hp.hi;have bn:=a12 hp (2*(p.length-1)-2) aa
 have nl:=qE p (2*(p.length-1)-2);have hl:(cJ p).length=p.length-1:=by unfold cJ;simp
 refine⟨aa,aa,λr hr=> ?_,λr hr x hx=> ?_⟩
 ·unfold cJ at hr;obtain⟨i,hi,rfl⟩:=dM.mp hr;have:=dX.mp hi;rw[hl,pT,nK,nl];omega
 ·unfold cJ at hr;obtain⟨i,hi,rfl⟩:=dM.mp hr;refine nE (bn x<|List.mem_of_mem_drop<|List.mem_of_mem_take hx) ?_;exact aL7 ac aa
theorem cP5 (l:List D)(i n:Nat)(h:i+n<=l.length):cutD l (some (i:Int)) (some ((i+n:Nat):Int))=(l.drop i).take n:=by
 unfold cutD;rw[HT.sIx_nat,HT.sIx_nat,nN<|show i<=l.length by lia,nN h]
 congr 1
 lia
theorem bX3: ∀ds Q,a13 ds Q->a14 {nx:=λ_=>Q (.pu .non),rt:=Q} (init ["p","n","s"] ds):=by
 rintro ds Q ⟨p,rfl,hp,h⟩;have hlo:=hp.ok.lo;have hhi:=hp.ok.hi;have lp:(p.map D.int).length=p.length:=aG _;have en:(p.length:Int)-1=((p.length-1:Nat):Int):=ad
 have nl:=qE p (2*(p.length-1)-2);have fin:(cY (aQ (gD 4)<|a9 (aQ cX<|a9 (dS [1] [none,some 2,some 1,none] 3 (gS<|a9 (aB 1) aK) (cC 0) (λρ Q=>Q true ρ)<|aQ cX<|a9 (uSl (aV 1) (jG<|aB 0)<|jG<|uOp hX (aB 0)<|aB 2) aK) aK) aK):US) {nx:=λ_=>Q (.pu .non),rt:=Q}
   [some<|.pu<|.tup<|p.map .int,some<|.pu<|.int ((p.length-1:Nat):Int),some<|.ow<|(cR p<|2*(p.length-1)-2).map .int]:=by
  rw[iV,eK,dG,eK,dG];refine eV (t0:=0) (p.length-1) (λi=> .int (0+i)) [some<|.pu<|.tup<|p.map .int,some<|.pu<|.int ((p.length-1:Nat):Int),some<|.ow<|(cR p<|2*(p.length-1)-2).map .int] ?_ ad
   (λx l=>[x,some<|.bo<|(cR p<|2*(p.length-1)-2).map .int,some<|.pu<|.int ((p.length-1:Nat):Int),some<|.ow l]) none rfl (λ_ _ _=>rfl) (λ_ _=>cQ _) (λ_ _ _ q=>q) (λ_ _ _=>rfl)
   (λi=>aJ (((cR p<|2*(p.length-1)-2).drop i).take<|p.length-1)) ?_ ?_
  ·intro Q' q;simp only[gS];walk_at "u";refine⟨ad,?_⟩
   rw[cP];exact q
  ·intro i l Q' hi q;walk_at "u";have e:cutD ((cR p<|2*(p.length-1)-2).map D.int) (some<|0+(i:Int)) (some<|0+(i:Int)+((p.length-1:Nat):Int))=(((cR p<|2*(p.length-1)-2).drop i).take<|p.length-1).map D.int:=by
    rw[bI,show(i:Int)+((p.length-1:Nat):Int)=((i+(p.length-1):Nat):Int)by lia,cP5 _ _ _ (by rw[aG,nl];lia),j4,pW]
   rw[e];exact q
  ·simp only[cX,g1,B.d,aK,pB];refine⟨cJ p,?_,bQ7 hp.ok,h⟩;unfold bX1 cJ;rw[fX];rfl
 unfold a14;show(aU _ _:US) _ [some<|.pu<|.tup<|p.map .int,none,none];rw[aR,d81,eK,dG];simp only[aB,b29,aK,B.d,tD];refine⟨p,rfl,hp,?_⟩;rw[aR,lN];simp only[uOp,kO,aV,c43,uC,pB,M.gSub,gI2,B.d,tD,lp,b97,b96,en];rw[aR,lN,eK];simp only[a9,aK,uOp,aB,b29,uC,M.gSub,hZ,gI2,B.d,tD,b95];refine⟨cmL ac ac,?_⟩
 refine⟨p,2*(p.length-1)-1,?_,hp.ok,ad,ad,?_⟩
 ·rw[show(2:Int)*((p.length-1:Nat):Int)-1=((2*(p.length-1)-1:Nat):Int)by lia];rfl
 ·rw[show 2*(p.length-1)-1-1=2*(p.length-1)-2 by lia]
  exact fin
noncomputable def one4 (e d c b:Int):Int:=12*e-3*b*d+c*c
noncomputable def two4 (e d c b:Int):Int:=72*c*e+9*b*c*d-27*d*d-27*b*b*e-2*c*c*c
noncomputable def dL4:List Int->Int
 | [c0,c1,_]=>c1*c1-4*c0
 | [d,c,b,_]=>b*b*c*c-4*c*c*c-4*b*b*b*d-27*d*d+18*b*c*d
 | [e,d,c,b,_]=>(4*one4 e d c b*one4 e d c b*one4 e d c b-two4 e d c b*two4 e d c b).fdiv 27
 | _=>0
theorem fF.cases {p:List Int}(h:fF p):(∃a b:Int,p=[a,b,1]/\a.natAbs<=499/\b.natAbs<=499)\/(∃a b c:Int,p=[a,b,c,1]/\a.natAbs<=499/\b.natAbs<=499/\c.natAbs<=499)\/
  ∃a b c d:Int,p=[a,b,c,d,1]/\a.natAbs<=499/\b.natAbs<=499/\c.natAbs<=499/\d.natAbs<=499:=by
 obtain⟨q,rfl⟩:=h.one;have lo:=h.ok.lo;have hi:=h.ok.hi;have sm: ∀x∈q,x.natAbs<=499:=λx hx=>h.ok.small x (tH _ hx)
 rw[bN,yY]at lo hi
 match q,lo,hi,sm with
 | [a,b],_,_,sm=>exact .inl ⟨a,b,rfl,sm a ae,sm b ae⟩
 | [a,b,c],_,_,sm=>exact .inr (.inl ⟨a,b,c,rfl,sm a ae,sm b ae,sm c ae⟩)
 | [a,b,c,d],_,_,sm=>exact .inr (.inr ⟨a,b,c,d,rfl,sm a ae,sm b ae,sm c ae,sm d ae⟩)
 | [],lo,_,_=>simp at lo
 | [_],lo,_,_=>simp at lo
 | _::_::_::_::_::_,_,hi,_=>simp at hi
noncomputable def cW4 (a b c:Int):Int:=1*a*c+(-1*b*b+0)
noncomputable def dL5 (s t u v w:Int):Int:=1*s*cW4 u v w+(-1*t*(1*t*w+(-1*v*u+0))+(1*u*(1*t*v+(-1*u*u+0))+0))
theorem hk2 (c b:Int):gC 4 (cJ [c,b,1])=cW4 2 (-(0+1*b)) (-((b* -(0+1*b)+0)+2*c)):=by kernel_rfl
theorem id2 (c0 c1:Int):gC 4 (cJ [c0,c1,1])=c1*c1-4*c0:=by
 rw[hk2];unfold cW4;grind
noncomputable def bX4 (b:Int):Int:= -(0+1*b)
noncomputable def bX5 (c b:Int):Int:= -((b*bX4 b+0)+2*c)
noncomputable def c66 (d c b:Int):Int:= -((b*bX5 c b+(c*bX4 b+0))+3*d)
noncomputable def hkNd (d c b:Int):Int:= -((b*c66 d c b+(c*bX5 c b+(d*bX4 b+0)))+0)
theorem hk3 (d c b:Int):gC 4 (cJ [d,c,b,1])=dL5 3 (bX4 b) (bX5 c b) (c66 d c b) (hkNd d c b):=by kernel_rfl
theorem id3 (d c b:Int):gC 4 (cJ [d,c,b,1])=b*b*c*c-4*c*c*c-4*b*b*b*d-27*d*d+18*b*c*d:=by
 rw[hk3];unfold dL5 cW4 hkNd c66 bX5 bX4;grind
noncomputable def dL6 (e d c b:Int):Int:= -((b*c66 d c b+(c*bX5 c b+(d*bX4 b+0)))+4*e)
noncomputable def hkMe (e d c b:Int):Int:= -((b*dL6 e d c b+(c*c66 d c b+(d*bX5 c b+(e*bX4 b+0))))+0)
noncomputable def hkMf (e d c b:Int):Int:= -((b*hkMe e d c b+(c*dL6 e d c b+(d*c66 d c b+(e*bX5 c b+0))))+0)
noncomputable def hkD4 (s0 s1 s2 s3 s4 s5 s6:Int):Int:=1*s0*dL5 s2 s3 s4 s5 s6+(-1*s1*(1*s1*cW4 s4 s5 s6+(-1*s3*(1*s2*s6+(-1*s5*s3+0))+(1*s4*(1*s2*s5+(-1*s4*s3+0))+0)))+(1*s2*(1*s1*(1*s3*s6+(-1*s5*s4+0))+(-1*s2*(1*s2*s6+(-1*s5*s3+0))+(1*s4*(1*s2*s4+(-1*s3*s3+0))+0)))+(-1*s3*(1*s1*(1*s3*s5+(-1*s4*s4+0))+(-1*s2*(1*s2*s5+(-1*s4*s3+0))+(1*s3*(1*s2*s4+(-1*s3*s3+0))+0)))+0)))
theorem hk4 (e d c b:Int):gC 4 (cJ [e,d,c,b,1])=hkD4 4 (bX4 b) (bX5 c b) (c66 d c b) (dL6 e d c b) (hkMe e d c b) (hkMf e d c b):=by kernel_rfl
theorem id4 (e d c b:Int):27*gC 4 (cJ [e,d,c,b,1])=4*(12*e-3*b*d+c*c)*(12*e-3*b*d+c*c)*(12*e-3*b*d+c*c)-(72*c*e+9*b*c*d-27*d*d-27*b*b*e-2*c*c*c)*(72*c*e+9*b*c*d-27*d*d-27*b*b*e-2*c*c*c):=by
 rw[hk4];unfold hkD4 dL5 cW4 hkMf hkMe dL6 c66 bX5 bX4;grind
noncomputable def rts3 (a b c:Int):List Int:=[-(a*b*c),a*b+a*c+b*c,-a-b-c]
noncomputable def sqIn (rs:List Int)(i:Nat)(t:Int):Nat->Int
 | 0=>t
 | j+1=>sqIn rs i t j*(rs.getD i 0-rs.getD j 0)*(rs.getD i 0-rs.getD j 0)
noncomputable def sqK (rs:List Int):Nat->Int
 | 0=>1
 | i+1=>sqIn rs i (sqK rs i) i
noncomputable def okR (q rs:List Int):Bool:=(q.all λx=>decide (x.natAbs<=499))&&decide (dL4 (q++[1])=sqK rs rs.length)
noncomputable def sh3 (a b c s:Int):List Int:=[a+s*b+s*s*c+s*s*s,b+2*s*c+3*s*s,c+3*s]
noncomputable def sh4 (a b c d s:Int):List Int:=[a+s*b+s*s*c+s*s*s*d+s*s*s*s,b+2*s*c+3*s*s*d+4*s*s*s,c+3*s*d+6*s*s,d+4*s]
noncomputable def dL7 (row:List Int)(r:Int):Nat->List Int
 | 0=>0::row
 | k+1=>(dL7 row r k).set k ((dL7 row r k).getD k 0-r*row.getD k 0)
noncomputable def dR6 (rs:List Int):List Int:=rs.foldl (λrow r=>dL7 row r row.length) [1]
theorem fr3 (a b c:Int):dR6 [a,b,c]=rts3 a b c++[1]:=by
 simp[dR6,dL7,rts3]
 grind
noncomputable def aZ2 (row:List Int)(s:Int):Nat->List Int
 | 0=>row
 | k+1=>(aZ2 row s k).set (row.length-2-k) ((aZ2 row s k).getD (row.length-2-k) 0+s*(aZ2 row s k).getD (row.length-1-k) 0)
noncomputable def shK (p:List Int)(s:Int):Nat->List Int
 | 0=>p
 | low+1=>aZ2 (shK p s low) s (p.length-1-low)
theorem she3 (a b c s:Int):shK [a,b,c,1] s 3=sh3 a b c s++[1]:=by
 simp[shK,aZ2,sh3]
 grind
theorem she4 (a b c d s:Int):shK [a,b,c,d,1] s 4=sh4 a b c d s++[1]:=by
 simp[shK,aZ2,sh4]
 grind
theorem bD3 {js:List Nat}{cap:List (Option Nat)}{last t0 t1:Nat}{ui:UI}{te:UE}{ρ:Ev}{Q:B->Ev->Prop}(n:Nat)(i1 i2:Nat->D)(ρ1:Ev)(hui: ∀Q:Nat->(Nat->D)->Ev->Prop,Q n (λi=> .tup [i1 i,i2 i]) ρ1->ui ρ Q)(hn:n<=1000000)
  (G:Option B->Option B->List D->Ev) (x0 y0:Option B) (h0:rE (a04 ρ1 js) cap last=G x0 y0 []) (h1: ∀x y l b c,((G x y l).set t0<|some b).set t1 (some c)=G (some b) (some c) l) (h1': ∀x y l,t0< (G x y l).length/\t1< (G x y l).length)
  (h2: ∀x y l (Q:List D->Prop),Q l->oC (G x y l) last Q) (h3: ∀x y l l',(G x y l).set last (some<|.ow l')=G x y l')
  (f:Nat->D) (hte: ∀i l (Q':B->Ev->Prop),i<n->Q' (.pu<|f i) (G (some<|.pu<|i1 i) (some<|.pu<|i2 i) l)->te (G (some<|.pu<|i1 i) (some<|.pu<|i2 i) l) Q') (hq:Q (.ow<|(List.range n).map f) (a04 ρ1 js)) :
  dS js cap last ui (mV<|d8 t0<|d8 t1 mU) (λρ Q=>Q true ρ) te ρ Q:=by
 refine hui _ ⟨λi ρ'=> ∃x y,ρ'=G x y ((List.range i).map f),⟨x0,y0,h0⟩,?_,?_⟩
 ·rintro i ρ' hi ⟨x,y,rfl⟩;refine⟨(h1' _ _ _).1,by rw[eE];exact(h1' _ _ _).2,rfl,?_⟩
  rw[h1];dsimp only;rw[a7 rfl];refine hte i _ _ hi (h2 _ _ _ _ ⟨?_,some<|.pu<|i1 i,some<|.pu<|i2 i,?_⟩)
  ·rw[aG,kX];exact aY hi (aM hn ac)
  ·rw[h3,bW,bV];rfl
 ·rintro ρ' ⟨x,y,rfl⟩;exact h2 _ _ _ _ hq
noncomputable def rwF (n:Nat)(f:Nat->Int):List Int:=(List.range n).map f
theorem mY (n:Nat)(f:Nat->Int):(rwF n f).length=n:=by simp[rwF]
theorem aT6 {n i:Nat}{f:Nat->Int}(h:i<n):(rwF n f)[i]? =some (f i):=by simp[rwF,h]
theorem aZ (n:Nat)(f:Nat->Int):((rwF n f).map D.int).length=n:=by simp[rwF]
theorem gE {n i:Nat}{f:Nat->Int}(h:i<n):((rwF n f).map D.int)[i]? =some (.int<|f i):=by simp[rwF,h]
theorem rH {n i:Nat}{f:Nat->Int}(h:i<n):((rwF n f).map D.int).getD i .non= .int (f i):=by rw[aI,gE h];rfl
theorem mI {n i:Nat}{f:Nat->Int}(h:i<n):atI ((rwF n f).map D.int) (i:Int)=some (.int<|f i):=cS (gE h)
theorem b85 {n j:Nat}{f:Nat->Int}{v:Int}(h:j<n):((rwF n f).map D.int).set j (.int v)=(rwF n λx=>if x=j then v else f x).map D.int:=by
 apply nJ
 intro k
 by_cases hk:k<n
 ·rw[gE hk]
  by_cases e:j=k
  ·subst e;rw[iI (by rw[aZ];exact hk),a7 rfl]
  ·rw[get_set_ne e,gE hk,a6 λz=>e z.symm]
 ·rw[fK (by rw[eE,aZ];omega),fK (by rw[aZ];omega)]
theorem iO {n:Nat}{f g:Nat->Int}(h: ∀i,i<n->f i=g i):rwF n f=rwF n g:=by
 unfold rwF;apply zE;intro i hi;exact h i (dX.mp hi)
theorem bX6 (r:List Int):r=rwF r.length (λj=>r.getD j 0):=by
 apply nJ
 intro k
 by_cases hk:k<r.length
 ·rw[aT6 hk,aO hk,aI,aO hk];rfl
 ·rw[fK aa,fK (by rw[mY];omega)]
theorem uI (n:Nat)(f:Nat->Int):(List.range n).map (λk=>D.int (f k))=(rwF n f).map D.int:=by
 unfold rwF;rw[fX];rfl
noncomputable def tbF (n m:Nat)(t:Nat->Nat->Int):List D:=(List.range n).map λi=>aJ (rwF m<|t i)
theorem mZ (n m:Nat)(t:Nat->Nat->Int):(tbF n m t).length=n:=by simp[tbF]
theorem aE8 {n m i:Nat}{t:Nat->Nat->Int}(h:i<n):(tbF n m t)[i]? =some (aJ<|rwF m<|t i):=by simp[tbF,h]
theorem d83 {n m i:Nat}{t:Nat->Nat->Int}(h:i<n):atI (tbF n m t) (i:Int)=some (aJ<|rwF m<|t i):=cS (aE8 h)
theorem c67 (n m:Nat)(t:Nat->Nat->Int)(f:Nat->Int):tbF n m t++[aJ<|rwF m f]=tbF (n+1) m (λi=>if i=n then f else t i):=by
 unfold tbF;rw[bW,bV]
 congr 1
 ·apply zE
  intro i hi;have:=dX.mp hi;show _=aJ (rwF m<|if i=n then f else t i);rw[a6 aa]
 ·simp
theorem bX7 {n i:Nat}(h:i<n):ixN n (i:Int)=some i:=by
 unfold ixN;have h2:(i:Int)< (n:Int):=aa
 simp[h,h2]
theorem bX8 (g:D->D->(B->Prop)->Prop)(ta tb:UE)(ρ:Ev)(Q:B->Ev->Prop):uOp g ta tb ρ Q=ta ρ λx ρ1=>tb ρ1 λy ρ2=>g x.d y.d λb=>Q b ρ2:=rfl
theorem dL8 (c:UT)(t u:US)(E:UD)(ρ:Ev):jA c t u E ρ=c ρ λb ρ1=>if b=true then t E ρ1 else u E ρ1:=rfl
theorem aT7 {ρ:Ev}{i:Nat}{d:D}{Q:B->Ev->Prop}(h:ρ[i]? =some (some<|.pu d)):aB i ρ Q=Q (.pu d) ρ:=by unfold aB b29;rw[h]
theorem c68: ∀r:List Int,pdL (r.map D.int)=some (r.map PyData.int)
 | []=>by simp[pdL]
 | a::r=>by simp[pdL,pd,c68 r]
theorem d84 (r:List Int):pd (aJ r)=some (.tuple<|r.map .int):=by simp[aJ,pd,c68]
theorem c69: ∀r:List Int,PyData.depthAll (r.map PyData.int)=0
 | []=>by simp[PyData.depthAll]
 | a::r=>by simp[PyData.depthAll,PyData.depth,c69 r]
theorem dL9 (r:List Int):(PyData.tuple<|r.map .int).depth<=60:=by simp[PyData.depth,c69]
theorem dM0 (a b:List Int):(PyData.tuple<|a.map .int).eqv (.tuple<|b.map .int)=decide (a=b):=by simp only[PyData.eqv];exact PySem.W.ked_eqvAll a b
theorem d85 {neg:Bool}{a b:List Int}{Q:B->Prop}(h:Q (.pu<|.bl<|neg ^^ decide (a=b))):gEqD neg (aJ a) (aJ b) Q:=⟨_,_,d84 a,d84 b,dL9 a,by rw[dM0];exact h⟩
noncomputable def gF (f:Nat->Int):Nat->Nat
 | 0=>0
 | n+1=>if f n=0 then gF f n else n+1
theorem sT (f:Nat->Int): ∀n,gF f n<=n
 | 0=>aE _
 | n+1=>by
  unfold gF;split
  ·have:=sT f n;lia
  ·exact aE _
theorem bQ8 (f:Nat->Int): ∀n,gF f n=0\/f (gF f n-1)≠0
 | 0=> .inl rfl
 | n+1=>by
  unfold gF;split
  ·exact bQ8 f n
  ·rename_i h
   exact .inr (by simpa using h)
theorem aE9 (f:Nat->Int): ∀n m,gF f n<=m->m<n->f m=0
 | n+1,m,h1,h2=>by
  unfold gF at h1;split at h1
  ·rename_i h
   by_cases e:m=n
   ·rw[e];exact h
   ·exact aE9 f n m h1 ad
  ·lia
theorem vO {f:Nat->Int}{k:Nat}: ∀{n:Nat},k<=n->(∀m,k<=m->m<n->f m=0)->(k=0\/f (k-1)≠0)->gF f n=k
 | 0,h,_,_=>by have:k=0:=ad
               rw[this];rfl
 | n+1,h,hz,hl=>by
  unfold gF
  by_cases e:k=n+1
  ·subst e;rw[a6];rcases hl with h0|h0
   ·lia
   ·simpa using h0
  ·rw[a7<|hz n ad ad]
   exact vO ad (λm h1 h2=>hz m h1 ad) hl
theorem bD4 {f g:Nat->Int}: ∀{n:Nat},(∀m,m<n->f m=g m)->gF f n=gF g n
 | 0,_=>rfl
 | n+1,h=>by
  unfold gF;rw[h n<|pS n,bD4 λm hm=>h m (kW hm)]
theorem bD5 (n k:Nat)(f:Nat->Int)(h:k<=n):(rwF n f).take k=rwF k f:=by
 unfold rwF;rw[<-j4,List.take_range,nN h]
def a90:Φ:=λds Q=> ∃(n:Nat) (f:Nat->Int),ds=[aJ<|rwF n f]/\n<=1000/\Q (.pu<|aJ<|rwF (gF f n) f)
def bD6:US:=(aU (bT 1<|kO<|aV 0)<|aU (aX9 (cU5 (gA<|uOp (sS λi j=>decide (j<i)) (aB 1)<|uC<|.int 0)<|gA<|uOp (jH false) (uIx (aV 0)<|uOp M.gSub (aB 1)<|uC<|.int 1)<|uC<|.int 0)<|c44 1 (gI2 λi j Q=>Q (.pu<|.int<|i-j))<|uC<|.int 1)<|cY<|c53 (aB 0) i7<|jG<|aB 1)
theorem d86: ∀ds Q,a90 ds Q->bD6 {nx:=λ_=>Q (.pu .non),rt:=Q} (init ["r","s"] ds):=by
 rintro ds Q ⟨n,f,rfl,hn,h⟩;unfold bD6;simp only[aJ];show(aU _ _:US) _ [some<|.pu<|.tup<|(rwF n f).map .int,none];rw[aR];walk_at "u";rw[aZ];refine⟨λm ρ=>ρ=[some<|.pu<|.tup<|(rwF n f).map .int,some<|.pu<|.int (m:Int)]/\m<=n/\gF f m=gF f n,⟨n,rfl,aE _,rfl⟩,?_⟩
 rintro m ρ ⟨rfl,hm,hc⟩;walk_at "u";have fin:gF f m=m->Q (.pu<|.tup<|cutD ((rwF n f).map D.int) none<|some (m:Int)):=λe=>by
  rw[bD0 _ _ (by rw[aZ];exact hm),<-j4,bD5 _ _ _ hm]
  rw[<-hc,e]at h;exact h
 split
 ·rename_i h0
  obtain⟨m',rfl⟩: ∃m',m=m'+1:=⟨m-1,ad⟩
  rw[show((m'+1:Nat):Int)-1=(m':Int)by lia,mI<|show m'<n by lia]
  dsimp only;split
  ·rename_i h1
   refine⟨m',ad,?_,ad,?_⟩
   ·simp
   ·rw[<-hc];show _=if f m'=0 then gF f m' else m'+1;rw[a7 h1]
  ·rename_i h1
   refine fin ?_
   show(if f m'=0 then gF f m' else m'+1)=m'+1
   rw[a6 h1]
 ·have:m=0:=ad
  subst this;exact fin rfl
noncomputable def shF (b:Nat->Int)(n m:Nat):Int:=if n<=m then b (m-n)else 0
noncomputable def divS (b:Nat->Int)(d n:Nat)(f:Nat->Int):Nat->Int:=λm=>f m-f (n+d)*shF b n m
noncomputable def divL (b:Nat->Int)(d:Nat):Nat->(Nat->Int)->Nat->Int
 | 0,f=>f
 | n+1,f=>divL b d n (divS b d n f)
noncomputable def divQ (b:Nat->Int)(d:Nat):Nat->(Nat->Int)->Nat->Int
 | 0,_=>λ_=>0
 | n+1,f=>λx=>if x=n then f (n+d)else divQ b d n (divS b d n f) x
structure d87 (L d a e:Nat)(f b:Nat->Int):Prop where
 L9:L<=100
 d9:d<=100
 one:b d=1
 beyond: ∀j,d<j->b j=0
 fb: ∀m,m<L->(f m).natAbs<=2^a
 bb: ∀j,(b j).natAbs<=2^e
 room:a+(e+1)*L<8000
 e8:e<8000
theorem cI5 {b f:Nat->Int}{d n a e L:Nat}(hn:n+d<L)(hf: ∀m,m<L->(f m).natAbs<=2^a)(hb: ∀j,(b j).natAbs<=2^e): ∀m,m<L->(divS b d n f m).natAbs<=2^(a+(e+1)):=by
 intro m hm;unfold divS;have h1:=hf m hm;have h2:=hf (n+d) hn;have h3:(shF b n m).natAbs<=2^e:=by
  unfold shF;split
  ·exact hb _
  ·simp
 have h4:(f (n+d)*shF b n m).natAbs<=2^a*2^e:=by rw[fL];exact j2 h2 h3
 have h5:=zG (f m) (f (n+d)*shF b n m);have e1:2^(a+(e+1))=2^a*2^e+2^a*2^e:=by rw[<-pX,zS,j8];lia
 have h6:2^a<=2^a*2^e:=Nat.le_mul_of_pos_right _ (Nat.pow_pos ac)
 lia
theorem bQ9 (k:Nat):(replicate k [D.int 0]).flatten=(rwF k λ_=>0).map .int:=by
 rw[aT2]
 congr 1
 apply kY<;>simp[rwF]
def fP:Φ:=λds Q=> ∃(L d a e:Nat) (f b:Nat->Int),ds=[aJ<|rwF L f,aJ<|rwF (d+1) b]/\d87 L d a e f b/\
 Q (.pu<|.tup [aJ<|rwF (gF (divQ b d (L-d) f)<|L-d)<|divQ b d (L-d) f,aJ<|rwF (gF (divL b d (L-d) f) L)<|divL b d (L-d) f])
def vP:US:=(cY<|i6<|a9 (aQ a90<|a9 (aQ cX<|a9 (aB 5) aK) aK)<|a9 (aQ a90<|a9 (aQ cX<|a9 (aB 4) aK) aK) aK)
def vQ:US:=(aU (jD (c55<|a9 (aB 3) aK) (cC 6)<|aU (bT 7<|uIx (aV 4)<|uOp hX (aB 6)<|aB 2)<|aU (bA8 5 (aB 7)<|aB 6)<|jD (cO9<|a9 (aB 1) aK) (mV<|d8 8<|d8 9 mU)<|d49 4 (λi j=>i-j) (uOp hX (aB 6)<|aB 8)<|uOp hZ (aB 7)<|aB 9) vP)
def qF:US:=(aU (bT 2<|uOp M.gSub (kO<|aV 1)<|uC<|.int 1)<|aU (bT 3<|aQ gMax<|a9 (uC<|.int 0)<|a9 (uOp M.gSub (kO<|aV 0)<|aB 2) aK)<|aU (bT 4<|aQ aE4<|a9 (aB 0) aK)<|aU (bT 5<|uOp hZ (kF<|a9 (uC<|.int 0) aK)<|aB 3) vQ)
theorem aZ3: ∀ds Q,fP ds Q->qF {nx:=λ_=>Q (.pu .non),rt:=Q} (init ["f","g","d","s","l","q","a","m","j","c"] ds):=by
 rintro ds Q ⟨L,d,a,e,f,b,rfl,ok,h⟩;have L9:=ok.L9;have d9:=ok.d9;have room:=ok.room;unfold qF;simp only[aJ]at h⊢;show(aU _ _:US) _ [some<|.pu<|.tup<|(rwF L f).map .int,some<|.pu<|.tup<|(rwF (d+1) b).map .int,none,none,none,none,none,none,none,none];walk_at "u";rw[aZ,aZ];obtain⟨N,hN⟩: ∃N:Nat,N=L-d:=⟨_,rfl⟩;have e1:((d+1:Nat):Int)-1=(d:Int):=ad
 have e2:(if(L:Int)-(d:Int)>0 then(L:Int)-(d:Int)else 0)=(N:Int):=by split<;>lia
 rw[e1,e2,cP,bQ9];refine⟨ac,⟨ad,ad,aM (show 1*N<=100 by lia) ac⟩,?_⟩
 unfold vQ;rw[aR];rw[<-hN]at h;refine bJ N (λk=> .int (((N:Int))-1-k)) [some<|.pu<|.tup<|(rwF L f).map .int,some<|.pu<|.tup<|(rwF (d+1) b).map .int,some<|.pu<|.int (d:Int),some<|.pu<|.int (N:Int),some<|.ow<|(rwF L f).map .int,some<|.ow<|(rwF N λ_=>0).map .int,none,none,none,none] ?_
  (λk ρ=> ∃g q z6 z7 z8 z9,ρ=[some<|.pu<|.tup<|(rwF L f).map .int,some<|.pu<|.tup<|(rwF (d+1) b).map .int,some<|.pu<|.int (d:Int),some<|.pu<|.int (N:Int),some<|.ow<|(rwF L g).map .int,some<|.ow<|(rwF N q).map .int,z6,z7,z8,z9]/\
   divL b d (N-k) g=divL b d N f/\(∀x,x<N->divQ b d N f x=if x<N-k then divQ b d (N-k) g x else q x)/\ ∀m,m<L->(g m).natAbs<=2^(a+(e+1)*k))
  ⟨f,λ_=>0,none,none,none,none,rfl,rfl,λx hx=>by rw[tV,a7 hx],λm hm=>by simpa using ok.fb m hm⟩ ?_ ?_
 ·intro Q' q;walk_at "u";refine⟨⟨ad,ad⟩,?_⟩
  rw[cP];exact q
 ·rintro k ρ hk ⟨g,q,z6,z7,z8,z9,rfl,hL,hQ,hb⟩;obtain⟨i,hi⟩: ∃i:Nat,i=N-1-k:=⟨_,rfl⟩;have ei:(N:Int)-1-(k:Int)=(i:Int):=ad
  have hiN:i<N:=ad
  have hid:i+d<L:=ad
  rw[ei];have c1:(i:Int)+(d:Int)=((i+d:Nat):Int):=ad
  walk_at "u"
  rw[c1,mI hid];dsimp only;rw[aZ,bX7 hiN];dsimp only;rw[b85 hiN];refine⟨ae,?_⟩
  have smg:Sm (g<|i+d):=Sm.pow (hb _ hid) (by
   have:(e+1)*k<=(e+1)*L:=tK _ ad
   lia)
  refine bJ (d+1) (λj=> .tup [.int (j:Int),((rwF (d+1) b).map D.int).getD j .non]) [some<|.pu<|.tup<|(rwF L f).map .int,some<|.pu<|.tup<|(rwF (d+1) b).map .int,some<|.pu<|.int (d:Int),some<|.pu<|.int (N:Int),some<|.ow<|(rwF L g).map .int,some<|.ow<|(rwF N λx=>if x=i then g (i+d)else q x).map .int,some<|.pu<|.int (i:Int),some<|.pu<|.int<|g<|i+d,z8,z9] ?_
   (λj ρ=> ∃z8 z9,ρ=[some<|.pu<|.tup<|(rwF L f).map .int,some<|.pu<|.tup<|(rwF (d+1) b).map .int,some<|.pu<|.int (d:Int),some<|.pu<|.int (N:Int),some<|.ow<|(rwF L λm=>if m<i+j then divS b d i g m else g m).map .int,some<|.ow<|(rwF N λx=>if x=i then g (i+d)else q x).map .int,some<|.pu<|.int (i:Int),some<|.pu<|.int<|g<|i+d,z8,z9]) ⟨z8,z9,?_⟩ ?_ ?_
  ·intro Q' qq;walk_at "u";rw[aZ];exact qq
  ·have:(rwF L λm=>if m<i+0 then divS b d i g m else g m)=rwF L g:=by
    apply iO
    intro m hm
    by_cases c:m<i+0
    ·rw[a7 c];unfold divS shF;rw[a6 ad]
     lia
    ·rw[a6 c]
   rw[this]
  ·rintro j ρ hj ⟨z8,z9,rfl⟩;rw[rH hj];have hij:i+j<L:=ad
   have c2:(i:Int)+(j:Int)=((i+j:Nat):Int):=ad
   simp only[d49];walk_at "u";rw[c2,aZ];refine⟨ae,ae,trivial,_,i+j,g<|i+j,rfl,bX7 hij,by rw[gE hij,a6 ad],.inr ⟨smg,Sm.pow (ok.bb j) (by have:=ok.e8;lia)⟩,_,rfl,some<|.pu<|.int (j:Int),some<|.pu<|.int<|b j,?_⟩
   rw[b85 hij];have:(rwF L λx=>if x=i+j then g (i+j)-g (i+d)*b j else if x<i+j then divS b d i g x else g x)=rwF L λm=>if m<i+(j+1)then divS b d i g m else g m:=by
    apply iO
    intro m hm
    by_cases c:m=i+j
    ·subst c;rw[a7 rfl,a7 ad]
     unfold divS shF;rw[a7 ad,show i+j-i=j by lia]
    ·rw[a6 c]
     by_cases c3:m<i+j
     ·rw[a7 c3,a7 ad]
     ·rw[a6 c3,a6 ad]
   rw[this]
  ·rintro ρ ⟨z8,z9,rfl⟩;have eg:(rwF L λm=>if m<i+(d+1)then divS b d i g m else g m)=rwF L (divS b d i g):=by
    apply iO
    intro m hm
    by_cases c:m<i+(d+1)
    ·rw[a7 c]
    ·rw[a6 c];unfold divS shF;rw[a7 ad,ok.beyond _ ad]
     lia
   rw[eg];have en:N-k=i+1:=ad
   have en2:N-(k+1)=i:=ad
   rw[en]at hL hQ;refine⟨_,_,_,_,_,_,rfl,by rw[en2];exact hL,λx hx=> ?_,?_⟩
   ·rw[en2,hQ x hx]
    by_cases c:x<i
    ·rw[a7 c,a7 ad]
     show(if x=i then _ else divQ b d i (divS b d i g) x)=_
     rw[a6 ad]
    ·rw[a6 c]
     by_cases c2:x=i
     ·subst c2;rw[a7 ad,a7 rfl]
      show(if x=x then _ else _)=_
      rw[a7 rfl]
     ·rw[a6 ad,a6 c2]
   ·have:=cI5 hid hb ok.bb;rw[show a+(e+1)*(k+1)=a+(e+1)*k+(e+1)by rw[zT];lia]
    exact this
 ·rintro ρ ⟨g,q,z6,z7,z8,z9,rfl,hL,hQ,hb⟩;dsimp only;unfold vP;rw[j7]at hL hQ;have hg:g=divL b d N f:=hL;have hq: ∀x,x<N->divQ b d N f x=q x:=λx hx=>by rw[hQ x hx,a6 ad]
  walk_at "u"
  refine⟨N,q,rfl,ad,?_⟩
  refine⟨L,g,rfl,ad,?_⟩
  walk_at "u"
  refine⟨ac,?_⟩
  have e3:gF (divQ b d N f) N=gF q N:=bD4 λm hm=>hq m hm
  have e4:rwF (gF q N) (divQ b d N f)=rwF (gF q N) q:=iO λm hm=>hq m (by have:=sT q N;lia)
  rw[e3,e4,<-hg]at h;exact h
noncomputable def conv (u b:Nat->Int):Nat->Nat->Int
 | 0,_=>0
 | n+1,m=>conv u b n m+u n*shF b n m
theorem oF {u b:Nat->Int}{d:Nat}(hb: ∀j,d<j->b j=0): ∀(n m:Nat),n+d<=m->conv u b n m=0
 | 0,m,_=>rfl
 | n+1,m,h=>by
  show conv u b n m+u n*shF b n m=0
  rw[oF hb n m ad]
  unfold shF;rw[a7 ad,hb _ ad]
  lia
theorem c70 {u b low:Nat->Int}{d:Nat}(h1:b d=1)(hb: ∀j,d<j->b j=0)(hl: ∀m,d<=m->low m=0): ∀(n:Nat),divL b d n (λm=>conv u b n m+low m)=low/\ ∀x,x<n->divQ b d n (λm=>conv u b n m+low m) x=u x
 | 0=>⟨by funext m;show 0+low m=low m;lia,λx hx=>ad⟩
 | n+1=>by
  have top:conv u b (n+1) (n+d)+low (n+d)=u n:=by
   show conv u b n (n+d)+u n*shF b n (n+d)+low (n+d)=u n
   rw[oF hb n _<|aE _,hl _ ad]
   unfold shF;rw[a7 ad,show n+d-n=d by lia,h1]
   lia
  have st:divS b d n (λm=>conv u b (n+1) m+low m)=λm=>conv u b n m+low m:=by
   funext m
   show(conv u b (n+1) m+low m)-(conv u b (n+1) (n+d)+low (n+d))*shF b n m=_
   rw[top];show conv u b n m+u n*shF b n m+low m-u n*shF b n m=_
   lia
  obtain⟨i1,i2⟩:=c70 (u:=u) h1 hb hl n;refine⟨?_,λx hx=> ?_⟩
  ·show divL b d n (divS b d n _)=low
   rw[st];exact i1
  ·show(if x=n then _ else divQ b d n (divS b d n _) x)=u x
   rw[st]
   by_cases c:x=n
   ·rw[a7 c,c];exact top
   ·rw[a6 c];exact i2 x ad
theorem b34 {n:Nat}{f:Nat->Int}(h:0<n):atI ((rwF n f).map D.int) (-1)=some (.int<|f<|n-1):=by
 unfold L2.atI;have e:ixN ((rwF n f).map D.int).length (-1)=some (n-1):=by
  unfold ixN;rw[aZ,a6 ac,a7 ad]
  congr 1
  lia
 rw[e];exact gE ad
theorem cI6 {f:Nat->Int}{n:Nat}(hf: ∀m,n<=m->f m=0): ∀m,gF f n<=m->f m=0:=λm hm=>by
 by_cases c:m<n
 ·exact aE9 f n m hm c
 ·exact hf m ad
noncomputable def md (p:Int)(f:Nat->Int):Nat->Int:=λj=>f j%p
noncomputable def bD7 (c p:Int):Nat->Int
 | 0=>1
 | n+1=>bD7 c p n*c%p
theorem bD8 {c p:Int}(hp:2<=p): ∀n,0<=bD7 c p n/\bD7 c p n<p
 | 0=>⟨by show(0:Int)<=1;lia,by show(1:Int)<p;lia⟩
 | n+1=>⟨bY _ ad,bX _ ad⟩
structure Pr (p:Int):Prop where
 lo:2<=p
 hi:p<200
 inv: ∀c:Int,0<c->c<p->bD7 c p (p.toNat-2)*c%p=1
def Cg (p:Int)(f g:Nat->Int):Prop:= ∀m,f m%p=g m%p
theorem Cg.divS {p:Int}{b f g:Nat->Int}{d n:Nat}(h:Cg p f g):Cg p (divS b d n f) (divS b d n g):=λm=>by
 show(f m-f (n+d)*shF b n m)%p=(g m-g (n+d)*shF b n m)%p
 have h1:=h m;have h2:f (n+d)*shF b n m%p=g (n+d)*shF b n m%p:=by rw[gL,h<|n+d,<-gL]
 rw[zU,h1,h2,<-zU]
theorem Cg.divL {p:Int}{b:Nat->Int}{d:Nat}: ∀(n:Nat) {f g:Nat->Int},Cg p f g->Cg p (divL b d n f) (divL b d n g)
 | 0,_,_,h=>h
 | n+1,_,_,h=>Cg.divL n h.divS
theorem Cg.divQ {p:Int}{b:Nat->Int}{d:Nat}: ∀(n:Nat) {f g:Nat->Int},Cg p f g->Cg p (divQ b d n f) (divQ b d n g)
 | 0,_,_,h=>λ_=>rfl
 | n+1,f,g,h=>λx=>by
  show(if x=n then f (n+d)else M.divQ b d n (M.divS b d n f) x)%p=(if x=n then g (n+d)else M.divQ b d n (M.divS b d n g) x)%p
  by_cases c:x=n
  ·rw[a7 c,a7 c];exact h _
  ·rw[a6 c,a6 c];exact Cg.divQ n h.divS x
theorem b35 {b:Nat->Int}{d:Nat}: ∀(n:Nat) (f:Nat->Int) (x:Nat),n<=x->divQ b d n f x=0
 | 0,_,_,_=>rfl
 | n+1,f,x,h=>by
  show(if x=n then f (n+d)else divQ b d n (divS b d n f) x)=0
  rw[a6 ad]
  exact b35 n _ x ad
theorem b86 {p:Int}{u u' b b':Nat->Int}(h: ∀i j,u' i*b' j%p=u i*b j%p): ∀n,Cg p (conv u' b' n) (conv u b n)
 | 0,_=>rfl
 | n+1,m=>by
  show(conv u' b' n m+u' n*shF b' n m)%p=(conv u b n m+u n*shF b n m)%p
  have h1:=b86 h n m;have h2:u' n*shF b' n m%p=u n*shF b n m%p:=by
   unfold shF
   by_cases c:n<=m
   ·rw[a7 c,a7 c];exact h _ _
   ·rw[a6 c,a6 c,bO,bO]
  rw[iH,h1,h2,<-iH]
theorem c71 {u b:Nat->Int}{d U:Nat}(hb: ∀j,d<j->b j=0):conv u b (U+1) (U+d)=u U*b d:=by
 show conv u b U (U+d)+u U*shF b U (U+d)=_
 rw[oF hb U _<|aE _];unfold shF;rw[a7 ad,show U+d-U=d by lia]
 lia
theorem d88 {p t:Int}{B0 u low A:Nat->Int}{d U n:Nat}(hp:2<=p)(hB: ∀j,d<j->B0 j=0)(hU:U=0\/u (U-1)≠0)(uR: ∀j,0<=u j/\u j<p)(uz: ∀j,U<=j->u j=0)(lz: ∀j,d<=j->low j=0)(lR: ∀j,0<=low j/\low j<p)
  (ht:t*B0 d%p=1) (hA: ∀m,A m=(conv u B0 U m+low m)%p) (hn:U+d<=n) :
  let b:=λj=>t*B0 j%p
  let LA:=gF A n
  LA<=U+d/\(∀j,t*divQ b d (LA-d) A j%p=u j)/\(∀j,divL b d (LA-d) A j%p=low j)/\(∀m,LA<=m->divL b d (LA-d) A m%p=0):=by
 intro b LA;have b1:b d=1:=ht;have bz: ∀j,d<j->b j=0:=λj hj=>by
  show t*B0 j%p=0
  rw[hB j hj,bO,dL]
 have tc: ∀x:Int,t*(B0 d*x)%p=x%p:=λx=>by
  rw[<-nR,gL,ht,zY,j5]
 have cg:Cg p A (λm=>conv (λi=>B0 d*u i) b U m+low m):=λm=>by
  rw[hA m,j5];have:=b86 (p:=p) (u:=u) (b:=B0) (u':=λi=>B0 d*u i) (b':=b) (λi j=>by
   show B0 d*u i*(t*B0 j%p)%p=u i*B0 j%p
   rw[gL,j5,<-gL];have e:B0 d*u i*(t*B0 j)=t*(B0 d*(u i*B0 j)):=by
    simp only[gY,Int.mul_left_comm,nR]
   rw[e,tc]) U m
  show(conv u B0 U m+low m)%p=(conv (λi=>B0 d*u i) b U m+low m)%p
  rw[iH,<-this,<-iH]
 obtain⟨e1,e2⟩:=c70 (u:=λi=>B0 d*u i) (low:=low) b1 bz lz U
 have Az: ∀m,U+d<=m->A m=0:=λm hm=>by
  rw[hA m,oF hB U m hm,lz m ad]
  exact dL _
 have hL:(U=0/\LA<=d)\/(0<U/\LA=U+d):=by
  have hle:LA<=U+d:=by
   rcases bQ8 A n with h|h
   ·show gF A n<=U+d
    lia
   ·exact yV λq=>h (Az _ (by show U+d<=LA-1;lia))
  by_cases c:U=0
  ·exact .inl ⟨c,ad⟩
  ·refine .inr ⟨ad,?_⟩
   refine vO hn (λm m1 m2=>Az m m1) (.inr λq=> ?_)
   obtain⟨U',rfl⟩: ∃U',U=U'+1:=⟨U-1,ad⟩
   rw[show U'+1+d-1=U'+d by lia,hA,c71 hB,lz _ ad,iG]at q
   have h1:=tc (u U');rw[gL,show B0 d*u U'=u U'*B0 d from gY _ _,q,bO,dL,dU (uR _).1 (uR _).2]at h1
   rcases hU with h|h
   ·lia
   ·exact h (by simpa using h1.symm)
 have hN:LA-d=U:=ad
 have r: ∀j,divL b d U A j%p=low j:=λj=>by
  rw[Cg.divL U cg j,e1,dU (lR j).1 (lR j).2]
 refine⟨ad,λj=> ?_,λj=>by rw[hN];exact r j,λm hm=> ?_⟩
 ·rw[hN]
  by_cases c:j<U
  ·have h1:=Cg.divQ (b:=b) (d:=d) U cg j;rw[e2 j c]at h1;rw[gL,h1,<-gL];show t*(B0 d*u j)%p=u j;rw[tc,dU (uR _).1 (uR _).2]
  ·rw[b35 U A j ad,uz j ad,bO,dL]
 ·rw[hN];rcases hL with⟨h1,h2⟩| ⟨h1,h2⟩
  ·subst h1;show A m%p=0;rw[cI6 (λm hm=>Az m ad) m hm]
   exact dL _
  ·rw[r m];exact lz m ad
def jB:Φ:=λds Q=> ∃(n:Nat) (f:Nat->Int) (p:Int),ds=[aJ<|rwF n f,.int p]/\n<=1000/\0<p/\Q (.pu<|aJ<|rwF (gF (md p f) n)<|md p f)
def wL:US:=(cY<|aQ a90<|a9 (aQ cX<|a9 (dS [1] [none,some 1,none] 2 (gR<|aB 0) (cC 0) (λρ Q=>Q true ρ)<|uOp oJ (aB 0)<|aB 1) aK) aK)
theorem dM1 (Q:B->Ev->Prop)(n:Nat)(f:Nat->Int)(p:Int)(hn:n<=1000)(hp:0<p)(k:Nat->D)(rT:Ev)(x0:D)(hx:x0=aJ (rwF n f)\/x0= .lst ((rwF n f).map .int))(h:Q (.ow<|(rwF n<|md p f).map .int) (some (.pu x0)::some (.pu<|.int p)::rT)) :
  (dS [1] [none,some 1,none] 2 (gR<|aB 0) (cC 0) (λρ Q=>Q true ρ) (uOp oJ (aB 0)<|aB 1):UE) (some (.pu x0)::some (.pu<|.int p)::rT) Q:=by
 refine eV (t0:=0) n (λk=>((rwF n f).map D.int).getD k .non) (some (.pu x0)::some (.pu<|.int p)::rT) ?_ ad (λx l=>[x,some<|.pu<|.int p,some<|.ow l]) none rfl (λ_ _ _=>rfl) (λ_ _=>cQ _) (λ_ _ _ q=>q) (λ_ _ _=>rfl) (λk=> .int (md p f k)) ?_ ?_
 ·intro Q' q;rcases hx with rfl|rfl
  ·simp only[aJ]at q⊢;walk_at "u";rw[aZ];exact q
  ·walk_at "u"
   rw[aZ];exact q
 ·intro k l Q' hk q;rw[rH hk]at q⊢;walk_at "u";refine⟨ad,?_⟩
  rw[dE _ hp];exact q
 ·rw[uI];exact h
theorem bK6: ∀ds Q,jB ds Q->wL {nx:=λ_=>Q (.pu .non),rt:=Q} (init ["r","p"] ds):=by
 rintro ds Q ⟨n,f,p,rfl,hn,hp,h⟩;unfold wL;show(cY _:US) _ [some<|.pu<|aJ<|rwF n f,some<|.pu<|.int p];rw[iV,eK,dG,eK,dG];refine dM1 _ n f p hn hp (λ_=> .non) [] _ (.inl rfl) ?_
 walk_at "u"
 exact⟨n,md p f,rfl,hn,h⟩
theorem cI7 (u b:Nat->Int)(i N:Nat):(rwF N λm=>if m<i+0 then conv u b (i+1) m else conv u b i m)=rwF N (conv u b i):=by
 apply iO
 intro m hm
 by_cases c:m<i+0
 ·rw[a7 c];show conv u b i m+u i*shF b i m=_;unfold shF;rw[a6 ad]
  lia
 ·rw[a6 c]
theorem cI8 {u b:Nat->Int}{i V N:Nat}(hz: ∀j,V<=j->b j=0):(rwF N λm=>if m<i+V then conv u b (i+1) m else conv u b i m)=rwF N (conv u b (i+1)):=by
 apply iO
 intro m hm
 by_cases c:m<i+V
 ·rw[a7 c]
 ·rw[a6 c];show _=conv u b i m+u i*shF b i m;unfold shF;rw[a7 ad,hz _ ad]
  lia
theorem cI9 (u b:Nat->Int)(i j N:Nat):(rwF N λx=>if x=i+j then conv u b i (i+j)+u i*b j else if x<i+j then conv u b (i+1) x else conv u b i x)=rwF N λm=>if m<i+(j+1)then conv u b (i+1) m else conv u b i m:=by
 apply iO
 intro m hm
 by_cases c:m=i+j
 ·subst c;rw[a7 rfl,a7 ad]
  show _=conv u b i (i+j)+u i*shF b i (i+j)
  unfold shF;rw[a7 ad,show i+j-i=j by lia]
 ·rw[a6 c]
  by_cases c3:m<i+j
  ·rw[a7 c3,a7 ad]
  ·rw[a6 c3,a6 ad]
theorem aT8 {u b:Nat->Int}{U:Nat}: ∀n,(∀j,U<=j->j<n->u j=0)->U<=n-> ∀m,conv u b n m=conv u b U m
 | 0,h,h2,m=>by rw[show U=0 by lia]
 | n+1,h,h2,m=>by
  by_cases c:U=n+1
  ·rw[c]
  ·show conv u b n m+u n*shF b n m=_
   rw[h n ad ad,aT8 n (λj a c=>h j a ad) ad m]
   lia
theorem md_nat {p:Int}(h1:2<=p)(h2:p<200)(f:Nat->Int)(j:Nat):(md p f j).natAbs<=2^8:=by
 unfold md;have a1:=bY (f j) (show p≠0 by lia)
 have a2:=bX (f j) (show 0<p by lia)
 show _<=256
 lia
def vR:Φ:=λds Q=> ∃(n:Nat) (f:Nat->Int) (k p:Int),ds=[aJ<|rwF n f,.int k,.int p]/\n<=1000/\0<=k/\k<200/\0<p/\Q (.pu<|aJ<|rwF (gF (λj=>k*f j%p) n) λj=>k*f j%p)
def a91:US:=(cY<|aQ jB<|a9 (aQ cX<|a9 (dS [1] [none,some 1,none] 2 (gR<|aB 0) (cC 0) (λρ Q=>Q true ρ)<|uOp hZ (aB 1)<|aB 0) aK)<|a9 (aB 2) aK)
theorem c72: ∀ds Q,vR ds Q->a91 {nx:=λ_=>Q (.pu .non),rt:=Q} (init ["f","k","p"] ds):=by
 rintro ds Q ⟨n,f,k,p,rfl,hn,k0,k9,hp,h⟩;unfold a91;show(cY _:US) _ [some<|.pu<|aJ<|rwF n f,some<|.pu<|.int k,some<|.pu<|.int p];rw[iV,eK,dG,eK,dG]
 refine eV (t0:=0) n (λi=>((rwF n f).map D.int).getD i .non) [some<|.pu<|aJ<|rwF n f,some<|.pu<|.int k,some<|.pu<|.int p] ?_ ad (λx l=>[x,some<|.pu<|.int k,some<|.ow l]) none rfl (λ_ _ _=>rfl) (λ_ _=>cQ _) (λ_ _ _ q=>q) (λ_ _ _=>rfl) (λi=> .int (k*f i)) ?_ ?_
 ·intro Q' q;simp only[aJ]at q⊢;walk_at "u";rw[aZ];exact q
 ·intro i l Q' hk q;rw[rH hk]at q⊢;walk_at "u";exact⟨cmL ad ad,q⟩
 ·rw[uI];walk_at "u";exact⟨n,λi=>k*f i,p,rfl,hn,hp,h⟩
def rX:Φ:=λds Q=> ∃c p:Int,ds=[.int c,.int p]/\0<=c/\c<p/\2<=p/\p<200/\Q (.pu<|.int<|bD7 c p<|p.toNat-2)
def rY:US:=(aU (bT 2<|uC<|.int 1)<|aU (jD (gS<|a9 (uOp M.gSub (aB 1)<|uC<|.int 2) aK) (cC 3)<|bT 2<|uOp oJ (uOp hZ (aB 2)<|aB 0)<|aB 1)<|pA 2)
theorem b55: ∀ds Q,rX ds Q->rY {nx:=λ_=>Q (.pu .non),rt:=Q} (init ["c","p","v","s"] ds):=by
 rintro ds Q ⟨c,p,rfl,c0,c1,p2,p9,h⟩;unfold rY;show(aU _ _:US) _ [some<|.pu<|.int c,some<|.pu<|.int p,none,none];walk_at "u";refine bJ (p.toNat-2) (λk=> .int (0+k)) [some<|.pu<|.int c,some<|.pu<|.int p,some<|.pu<|.int 1,none] ?_
  (λk ρ=> ∃z,ρ=[some<|.pu<|.int c,some<|.pu<|.int p,some<|.pu<|.int<|bD7 c p k,z]) ⟨none,rfl⟩ ?_ ?_
 ·intro Q' q;walk_at "u";refine⟨⟨ad,ad⟩,?_⟩
  rw[show(p-2).toNat=p.toNat-2 by lia]
  exact q
 ·rintro k ρ hk ⟨z,rfl⟩;have:=bD8 (c:=c) p2 k;walk_at "u";refine⟨ae,cmL ad ad,ad,some<|.pu<|.int<|0+(k:Int),?_⟩
  rw[dE _ ad]
  rfl
 ·rintro ρ ⟨z,rfl⟩;walk_at "u";exact h
def rZ:Φ:=λds Q=> ∃(n k d:Nat) (f g:Nat->Int) (p:Int),ds=[aJ<|rwF n f,aJ<|rwF k g,.int p]/\n<=50/\k<=50/\Pr p/\(∀j,k<=j->g j=0)/\d<k/\(∀j,d<j->md p g j=0)/\md p g d≠0/\
 ∀t,t*md p g d%p=1->0<=t->t<p->
  let b:=λj=>t*md p g j%p
  let LA:=gF (md p f) n
  let q:=divQ b d (LA-d) (md p f)
  let r:=divL b d (LA-d) (md p f)
  Q (.pu<|.tup [aJ<|rwF (gF (λj=>t*q j%p)<|gF q<|LA-d) λj=>t*q j%p,aJ<|rwF (gF (md p r)<|gF r LA)<|md p r])
def yC:US:=(cY<|i6<|a9 (aQ vR<|a9 (aB 5)<|a9 (aB 4)<|a9 (aB 2) aK)<|a9 (aQ jB<|a9 (aB 6)<|a9 (aB 2) aK) aK)
def qG:US:=(aU (cF5 (aQ fP<|a9 (aQ jB<|a9 (aB 0)<|a9 (aB 2) aK)<|a9 (aQ vR<|a9 (aB 3)<|a9 (aB 4)<|a9 (aB 2) aK) aK)<|mV<|d8 5<|d8 6 mU) yC)
def sA:US:=(aU (bT 3<|aQ jB<|a9 (aB 1)<|a9 (aB 2) aK)<|aU (bT 4<|aQ rX<|a9 (uIx (aV 3)<|rD<|uC<|.int 1)<|a9 (aB 2) aK) qG)
theorem b56: ∀ds Q,rZ ds Q->sA {nx:=λ_=>Q (.pu .non),rt:=Q} (init ["a","b","p","l","t","q","r"] ds):=by
 rintro ds Q ⟨n,k,d,f,g,p,rfl,hn,hk,pp,gz,dk,dz,d0,h⟩;have p2:=pp.lo;have p9:=pp.hi;unfold sA;show(aU _ _:US) _ [some<|.pu<|aJ<|rwF n f,some<|.pu<|aJ<|rwF k g,some<|.pu<|.int p,none,none,none,none];have ed:gF (md p g) k=d+1:=vO ad (λm m1 m2=>dz m ad) (.inr<|by simpa using d0)
 have c1:=bY (g d) (show p≠0 by lia)
 have c2:=bX (g d) (show 0<p by lia)
 have c3:0<md p g d:=by
  have:md p g d=g d%p:=rfl
  lia
 have tR:=bD8 (c:=md p g d) p2 (p.toNat-2);have ht:=pp.inv _ c3 c2;generalize et:bD7 (md p g d) p (p.toNat-2)=t at tR ht;have bA: ∀j,0<=t*md p g j%p/\t*md p g j%p<p:=λj=>⟨bY _ ad,bX _ ad⟩
 have hc:gF (λj=>t*md p g j%p) (d+1)=d+1:=vO (aE _) (λm a b=>ad) (.inr (by
  show t*md p g d%p≠0
  rw[ht];decide))
 have LA9:=sT (md p f) n;have low:aJ (rwF (gF (md p g) k)<|md p g)= .tup ((rwF (d+1)<|md p g).map .int):=by rw[ed];rfl
 walk_at "u"
 refine⟨k,g,p,rfl,ad,ad,?_⟩
 rw[low];walk_at "u";rw[b34 ad]
 walk_at "u"
 refine⟨md p g d,p,rfl,ad,c2,p2,p9,?_⟩
 rw[et];show qG _ [some<|.pu<|aJ<|rwF n f,some<|.pu<|aJ<|rwF k g,some<|.pu<|.int p,some<|.pu<|aJ<|rwF (d+1)<|md p g,some<|.pu<|.int t,none,none];unfold qG;walk_at "u";refine⟨n,f,p,rfl,ad,ad,?_⟩
 refine⟨d+1,md p g,t,p,rfl,ad,ad,ad,ad,?_⟩
 rw[hc];refine⟨gF (md p f) n,d,8,8,md p f,λj=>t*md p g j%p,rfl,⟨ad,ad,ht,λj hj=>by
  show t*md p g j%p=0
  rw[dz j hj,bO,dL],λm _=>md_nat p2 p9 f m,λj=>by
   have:=bA j;show(t*md p g j%p).natAbs<=256
   lia,ad,ac⟩,?_⟩
 have hh:=h t ht tR.1 tR.2;have q9:=sT (divQ (λj=>t*md p g j%p) d (gF (md p f) n-d)<|md p f) (gF (md p f) n-d)
 have r9:=sT (divL (λj=>t*md p g j%p) d (gF (md p f) n-d)<|md p f) (gF (md p f) n)
 simp only[]at hh;walk_at "u";refine⟨ae,ae,trivial,?_⟩
 unfold yC;walk_at "u";refine⟨_,_,t,p,rfl,ad,ad,ad,ad,?_⟩
 refine⟨_,_,p,rfl,ad,ad,?_⟩
 walk_at "u"
 exact⟨ac,hh⟩
theorem aT9 {js:List Nat}{cap:List (Option Nat)}{last t0:Nat}{ui:UI}{tt:UT}{te:UE}{ρ:Ev}{Q:B->Ev->Prop}(n:Nat)(it:Nat->D)(ρ1:Ev)(hui: ∀Q:Nat->(Nat->D)->Ev->Prop,Q n it ρ1->ui ρ Q)(hn:n<=1000)
  (G:Option B->List D->Ev) (x0:Option B) (h0:rE (a04 ρ1 js) cap last=G x0 []) (h1: ∀x l b,(G x l).set t0 (some b)=G (some b) l) (h1': ∀x l,t0< (G x l).length) (h2: ∀x l (Q:List D->Prop),Q l->oC (G x l) last Q) (h3: ∀x l l',(G x l).set last (some<|.ow l')=G x l')
  (c:Nat->Bool) (f:Nat->D) (htt: ∀i l (Q':Bool->Ev->Prop),i<n->Q' (c i) (G (some<|.pu<|it i) l)->tt (G (some<|.pu<|it i) l) Q')
  (hte: ∀i l (Q':B->Ev->Prop),i<n->Q' (.pu<|f i) (G (some<|.pu<|it i) l)->te (G (some<|.pu<|it i) l) Q') (hq:Q (.ow<|((List.range n).filter c).map f) (a04 ρ1 js)) :
  dS js cap last ui (cC t0) tt te ρ Q:=by
 refine hui _ ⟨λi ρ'=> ∃x,ρ'=G x (((List.range i).filter c).map f),⟨x0,h0⟩,?_,?_⟩
 ·rintro i ρ' hi ⟨x,rfl⟩;refine⟨h1' _ _,?_⟩;rw[h1];dsimp only;refine htt i _ _ hi ?_
  by_cases hc:c i=true
  ·rw[a7 hc];refine hte i _ _ hi (h2 _ _ _ ⟨?_,some<|.pu<|it i,?_⟩)
   ·rw[aG];exact nE (List.length_filter_le ..) (by rw[kX];exact aY hi (aM hn ac))
   ·rw[h3,bW,List.filter_append,bV];simp[hc];rfl
  ·rw[a6 hc];refine⟨some<|.pu<|it i,?_⟩;rw[bW,List.filter_append,bV];simp[hc]
 ·rintro ρ' ⟨x,rfl⟩;exact h2 _ _ _ hq
theorem d89 {ns:List Int}{k:Int}(h0:0<=k)(h1:k<ns.length): ∃z∈ns,atI (ns.map D.int) k=some (.int z):=by
 obtain⟨i,rfl⟩: ∃i:Nat,k=(i:Int):=⟨k.toNat,ad⟩
 have hi:i<ns.length:=ad
 exact⟨ns[i],bS hi,cS (by rw[b7,aO hi];rfl)⟩
noncomputable def prB (i k:Nat):Bool:=if(2:Int)+(i:Int)=2+(k:Int)then true else !decide (((2:Int)+(i:Int))%(2+(k:Int))=0)
noncomputable def prC (i:Nat):Bool:=((List.range 13).map<|prB i).all id
noncomputable def prL:List Int:=((List.range 198).filter prC).map λi:Nat=>(2:Int)+(i:Int)
theorem c73 {c p:Nat}(hp:2<=p): ∀n,bD7 (c:Int) (p:Int) n=((c^n%p:Nat):Int)
 | 0=>by
  show(1:Int)=_
  rw[Nat.pow_zero,Nat.mod_eq_of_lt ad]
  rfl
 | n+1=>by
  show bD7 (c:Int) (p:Int) n*(c:Int)%(p:Int)=_
  rw[c73 hp n,<-aO0,<-Int.natCast_emod,zS,Nat.mod_mul_mod]
theorem pr_all:prL.all (λp=>decide (2<=p)&&decide (p<200)&&(List.range p.toNat).all λc=>decide (c=0)||decide (c^(p.toNat-2)%p.toNat*c%p.toNat=1))=true:=af
theorem aZ4:prL.length=46:=af
theorem a15 {p:Int}(h:p∈prL):Pr p:=by
 have h1:=eS.mp pr_all p h;simp only[dW,fW,eS,dX,zN]at h1;obtain⟨⟨a,b⟩,c⟩:=h1;refine⟨a,b,λx x0 x1=> ?_⟩
 obtain⟨q,rfl⟩: ∃q:Nat,p=(q:Int):=⟨p.toNat,ad⟩
 obtain⟨y,rfl⟩: ∃y:Nat,x=(y:Int):=⟨x.toNat,ad⟩
 have h2:=c y ad
 rw[cP]at h2⊢;rw[c73 ad,<-aO0,<-Int.natCast_emod]
 rcases h2 with h2|h2
 ·lia
 ·rw[h2];rfl
noncomputable def T_SMALL_PRIMES:List Int:=[2,3,5,7,11,13,17,19,23,29,31,37,41,43,47,53,59,61,67,71,73,79,83,89,97,101,103,107,109,113,127,131,137,139,149,151,157,163,167,173,179,181,191,193,197,199]
theorem tp_ok: ∀p∈T_SMALL_PRIMES,2<=p/\p<200:=af
theorem bX9:T_SMALL_PRIMES.length=46:=rfl
def kN:Φ:=λds Q=>ds=[]/\Q (.ow<|T_SMALL_PRIMES.map .int)
def oP:US:=(cY<|aQ aE4<|a9 (uC<|.tup<|T_SMALL_PRIMES.map .int) aK)
theorem aU0: ∀ds Q,kN ds Q->oP {nx:=λ_=>Q (.pu .non),rt:=Q} (init [] ds):=by
 rintro ds Q ⟨rfl,h⟩;unfold oP;show(cY _:US) _ [];walk_at "u";exact h
theorem d90:prL=T_SMALL_PRIMES:=af
noncomputable def ps (f:Nat->Int)(z:Int):Nat->Int
 | 0=>0
 | n+1=>ps f z n+f n*z^n
noncomputable def hor (f:Nat->Int)(n:Nat)(z:Int):Nat->Int
 | 0=>0
 | k+1=>hor f n z k*z+f (n-1-k)
theorem d91 (f:Nat->Int)(n:Nat)(z:Int): ∀k,k<=n->hor f n z k*z^(n-k)+ps f z (n-k)=ps f z n
 | 0,_=>by show(0:Int)*_+_=_;rw[gM,bI];rfl
 | k+1,h=>by
  have ih:=d91 f n z k ad
  obtain⟨m,hm⟩: ∃m,n-k=m+1:=⟨n-k-1,ad⟩
  have e1:n-(k+1)=m:=ad
  have e2:n-1-k=m:=ad
  rw[hm]at ih;show(hor f n z k*z+f (n-1-k))*z^(n-(k+1))+ps f z (n-(k+1))=_;rw[e1,e2,<-ih];show _=hor f n z k*z^(m+1)+(ps f z m+f m*z^m);rw[jY,zZ];have e3:hor f n z k*z*z^m=hor f n z k*(z^m*z):=by rw[nR,gY z]
  lia
theorem dM2 (f:Nat->Int)(n:Nat)(z:Int):hor f n z n=ps f z n:=by
 have:=d91 f n z n (aE _);rw[j7]at this;have e:hor f n z n*z^0+ps f z 0=hor f n z n:=by
  show hor f n z n*z^0+0=_
  rw[d5,jZ,iG]
 lia
theorem bR0 {f:Nat->Int}{n a b:Nat}{z:Int}(hf: ∀j,(f j).natAbs<=2^a)(hz:z.natAbs<=2^b): ∀k,(hor f n z k).natAbs<=2^(a+(b+1)*k)
 | 0=>by simp[hor]
 | k+1=>by
  show(hor f n z k*z+f (n-1-k)).natAbs<=_
  have ih:=bR0 (n:=n) hf hz k;have h1:(hor f n z k*z).natAbs<=2^(a+(b+1)*k)*2^b:=by rw[fL];exact j2 ih hz
  have h2:=hf (n-1-k);have h3:=aN3 (hor f n z k*z) (f<|n-1-k);have e1:2^(a+(b+1)*(k+1))=2^(a+(b+1)*k)*2^b+2^(a+(b+1)*k)*2^b:=by
   rw[zT,<-pX,<-pX,zS,j8 2 (a+(b+1)*k) b];lia
  have h4:2^a<=2^(a+(b+1)*k)*2^b:=by
   rw[<-j8];exact iD ac ad
  lia
theorem d92 (f g:Nat->Int)(z:Int): ∀n,ps (λj=>f j+g j) z n=ps f z n+ps g z n
 | 0=>rfl
 | n+1=>by
  show ps (λj=>f j+g j) z n+(f n+g n)*z^n=ps f z n+f n*z^n+(ps g z n+g n*z^n)
  rw[d92 f g z n,zZ]
  lia
theorem bD9 (c:Int)(f:Nat->Int)(z:Int): ∀n,ps (λj=>c*f j) z n=c*ps f z n
 | 0=>by show(0:Int)=c*0;rw[bO]
 | n+1=>by
  show ps (λj=>c*f j) z n+c*f n*z^n=c*(ps f z n+f n*z^n)
  rw[bD9 c f z n,a00,nR]
theorem aZ5 {f:Nat->Int}{z:Int}{n:Nat}: ∀m,n<=m->(∀j,n<=j->j<m->f j=0)->ps f z m=ps f z n
 | 0,h,_=>by rw[show n=0 by lia]
 | m+1,h,hz=>by
  by_cases c:n=m+1
  ·rw[c]
  ·show ps f z m+f m*z^m=_
   rw[hz m ad ad,gM,iG]
   exact aZ5 m ad λj a b=>hz j a ad
theorem bR1 (b:Nat->Int)(z:Int)(U:Nat): ∀n,n<=U->ps (shF b U) z n=0
 | 0,_=>rfl
 | n+1,h=>by
  show ps (shF b U) z n+shF b U n*z^n=0
  rw[bR1 b z U n aa]
  unfold shF;rw[a6 aa,gM]
  rfl
theorem bE0 (b:Nat->Int)(z:Int)(U:Nat): ∀m,ps (shF b U) z (U+m)=z^U*ps b z m
 | 0=>by rw[Nat.add_zero,bR1 b z U U<|aE _];show(0:Int)=z^U*0;rw[bO]
 | m+1=>by
  show ps (shF b U) z (U+m)+shF b U (U+m)*z^(U+m)=z^U*(ps b z m+b m*z^m)
  rw[bE0 b z U m];unfold shF;rw[a7 ad,show U+m-U=m by lia,Int.pow_add,a00,Int.mul_left_comm]
theorem cP6 {u b:Nat->Int}{z:Int}{V:Nat}(hb: ∀j,V<=j->b j=0): ∀U N,U+V<=N->ps (conv u b U) z N=ps u z U*ps b z V
 | 0,N,_=>by
  have:ps (conv u b 0) z N=0:=by
   have e:ps (conv u b 0) z N=ps (conv u b 0) z 0:=aZ5 N (dN _) λ_ _ _=>rfl
   rw[e];rfl
  rw[this];show(0:Int)=0*_;rw[gM]
 | U+1,N,h=>by
  have e:conv u b (U+1)=λm=>conv u b U m+u U*shF b U m:=rfl
  rw[e,d92 (conv u b U) λm=>u U*shF b U m,cP6 hb U N ad,bD9]
  obtain⟨m,rfl⟩: ∃m,N=U+m:=⟨N-U,ad⟩
  rw[bE0,aZ5 (n:=V) m ad λj a _=>hb j a]
  show _=(ps u z U+u U*z^U)*ps b z V
  rw[zZ,nR<|u U]
structure HorOk (n a b:Nat)(f:Nat->Int)(z:Int):Prop where
 fb: ∀j,(f j).natAbs<=2^a
 zb:z.natAbs<=2^b
 room:a+(b+1)*n<8000
 b8:b<8000
 n9:n<=200
def sU:Φ:=λds Q=> ∃(n a b:Nat) (f:Nat->Int) (z:Int),ds=[aJ<|rwF n f,.int z]/\HorOk n a b f z/\Q (.pu<|.int<|ps f z n)
def a16:US:=(aU (bT 2<|uC<|.int 0)<|aU (jD (d59<|a9 (aB 0) aK) (cC 3)<|bT 2<|uOp hX (uOp hZ (aB 2)<|aB 1)<|aB 3)<|pA 2)
theorem bY0: ∀ds Q,sU ds Q->a16 {nx:=λ_=>Q (.pu .non),rt:=Q} (init ["f","z","v","c"] ds):=by
 rintro ds Q ⟨n,a,b,f,z,rfl,ok,h⟩;unfold a16;simp only[aJ];show(aU _ _:US) _ [some<|.pu<|.tup<|(rwF n f).map .int,some<|.pu<|.int z,none,none];walk_at "u";refine bJ n (λk=>((rwF n f).map D.int).getD (n-1-k) .non) [some<|.pu<|.tup<|(rwF n f).map .int,some<|.pu<|.int z,some<|.pu<|.int 0,none] ?_
  (λk ρ=> ∃c,ρ=[some<|.pu<|.tup<|(rwF n f).map .int,some<|.pu<|.int z,some<|.pu<|.int<|hor f n z k,c]) ⟨none,rfl⟩ ?_ ?_
 ·intro Q' q;walk_at "u";rw[aZ];exact q
 ·rintro k ρ hk ⟨c,rfl⟩;rw[rH aa]
  walk_at "u"
  have room:=ok.room;have:(b+1)*k<=(b+1)*n:=tK _ aa
  exact⟨ae,.inr ⟨Sm.pow (bR0 ok.fb ok.zb k) aa,Sm.pow ok.zb (by have:=ok.b8;omega)⟩,_,rfl⟩
 ·rintro ρ ⟨c,rfl⟩;walk_at "u";rw[dM2];exact h
theorem cP7 (f g:Nat->Int)(n m:Nat):shF (λj=>f j+g j) n m=shF f n m+shF g n m:=by
 unfold shF;dsimp only;split<;>lia
theorem dM3 (c:Int)(f:Nat->Int)(n m:Nat):shF (λj=>c*f j) n m=c*shF f n m:=by
 unfold shF;dsimp only;split
 ·rfl
 ·rw[bO]
theorem shF_sh (h:Nat->Int)(n k m:Nat):shF (shF h n) k m=shF h (n+k) m:=by
 unfold shF
 by_cases c:k<=m
 ·rw[a7 c]
  by_cases d:n<=m-k
  ·rw[a7 d,a7 ad,show m-k-n=m-(n+k)by lia]
  ·rw[a6 d,a6 ad]
 ·rw[a6 c,a6 ad]
theorem bR2 (f g b:Nat->Int)(m:Nat): ∀n,conv (λj=>f j+g j) b n m=conv f b n m+conv g b n m
 | 0=>rfl
 | n+1=>by
  show conv (λj=>f j+g j) b n m+(f n+g n)*shF b n m=conv f b n m+f n*shF b n m+(conv g b n m+g n*shF b n m)
  rw[bR2 f g b m n,zZ]
  lia
theorem bR3 (c:Int)(f b:Nat->Int)(m:Nat): ∀n,conv (λj=>c*f j) b n m=c*conv f b n m
 | 0=>by show(0:Int)=c*0;rw[bO]
 | n+1=>by
  show conv (λj=>c*f j) b n m+c*f n*shF b n m=c*(conv f b n m+f n*shF b n m)
  rw[bR3 c f b m n,a00,nR]
theorem c74 (f b:Nat->Int)(k m:Nat): ∀n,conv (shF f k) b (k+n) m=shF (conv f b n) k m
 | 0=>by
  have e: ∀j,j<=k->conv (shF f k) b j m=0:=by
   intro j
   induction j with
   | zero=>intro _;rfl
   | succ j ih=>
    intro hj;show conv (shF f k) b j m+shF f k j*shF b j m=0;rw[ih ad]
    unfold shF;rw[a6 ad,gM]
    rfl
  rw[Nat.add_zero,e k<|aE _];unfold shF;split<;>rfl
 | n+1=>by
  show conv (shF f k) b (k+n) m+shF f k (k+n)*shF b (k+n) m=shF (λm=>conv f b n m+f n*shF b n m) k m
  rw[c74 f b k m n,cP7,dM3,shF_sh,add_comm n k]
  congr 2
  unfold shF;rw[a7 ad,show k+n-k=n by lia]
theorem bE1 {u b c:Nat->Int}{V:Nat}(hb: ∀j,V<=j->b j=0)(m:Nat): ∀U,conv u (conv b c V) U m=conv (conv u b U) c (U+V) m
 | 0=>by
  have e: ∀n,conv (conv u b 0) c n m=0:=by
   intro n
   induction n with
   | zero=>rfl
   | succ n ih=>
    show conv (conv u b 0) c n m+0*shF c n m=0
    rw[ih,gM];rfl
  rw[e];rfl
 | U+1=>by
  show conv u (conv b c V) U m+u U*shF (conv b c V) U m=conv (λm=>conv u b U m+u U*shF b U m) c (U+1+V) m
  rw[bR2,bR3,bE1 hb m U];have z1: ∀j,U+V<=j->j<U+1+V->conv u b U j=0:=λj h1 h2=>by
   have: ∀i,V<i+1->b i=0:=λi hi=>hb i ad
   by_cases v:V=0
   ·subst v;have e:b=λ_=>0:=funext λj=>hb j (dN _)
    rw[e];have nul: ∀n,conv u (λ_=>0) n j=0:=by
     intro n
     induction n with
     | zero=>rfl
     | succ n ih=>
      show conv u (λ_=>0) n j+u n*shF (λ_=>0) n j=0
      rw[ih];unfold shF;split<;>rw[bO]<;>rfl
    exact nul U
   ·exact oF (d:=V-1) (λi hi=>hb i ad) U j ad
  rw[aT8 (u:=conv u b U) (b:=c) (U:=U+V) (U+1+V) z1 ad]
  have z2: ∀j,U+V<=j->j<U+1+V->shF b U j=0:=λj h1 h2=>by
   unfold shF;rw[a7 ad]
   exact hb _ ad
  rw[aT8 (u:=shF b U) (b:=c) (U:=U+V) (U+1+V) z2 ad,c74]
theorem aZ6 (u f g:Nat->Int)(m:Nat): ∀n,conv u (λj=>f j+g j) n m=conv u f n m+conv u g n m
 | 0=>rfl
 | n+1=>by
  show conv u (λj=>f j+g j) n m+u n*shF (λj=>f j+g j) n m=conv u f n m+u n*shF f n m+(conv u g n m+u n*shF g n m)
  rw[aZ6 u f g m n,cP7,a00]
  lia
theorem aU1 {u:Nat->Int}{n:Nat}(c:Int)(k:Nat)(hu: ∀j,n<=j->u j=0)(m:Nat):conv u (λj=>if j=k then c else 0) n m=c*shF u k m:=by
 have e: ∀n,conv u (λj=>if j=k then c else 0) n m=if k<=m/\m-k<n then c*u (m-k)else 0:=by
  intro n
  induction n with
  | zero=>rw[a6 aa];rfl
  | succ n ih=>
   show conv u (λj=>if j=k then c else 0) n m+u n*shF (λj=>if j=k then c else 0) n m=_
   have sh:shF (λj=>if j=k then c else 0) n m=if n<=m/\m-n=k then c else 0:=by
    unfold shF;dsimp only
    by_cases h3:n<=m
    ·rw[a7 h3]
     by_cases h4:m-n=k
     ·rw[a7 h4,a7 ⟨h3,h4⟩]
     ·rw[a6 h4,a6 λz=>h4 z.2]
    ·rw[a6 h3,a6 λz=>h3 z.1]
   rw[ih,sh]
   by_cases h1:k<=m/\m-k<n
   ·rw[a7 h1,a6<|show ¬(n<=m/\m-n=k)by omega,a7<|show k<=m/\m-k<n+1 by omega,bO,iG]
   ·rw[a6 h1]
    by_cases h2:k<=m/\m-k=n
    ·rw[a7<|show n<=m/\m-n=k by omega,a7<|show k<=m/\m-k<n+1 by omega,h2.2,bI,gY]
    ·rw[a6<|show ¬(n<=m/\m-n=k)by omega,a6<|show ¬(k<=m/\m-k<n+1)by omega,bO]
     rfl
 rw[e n];unfold shF
 by_cases h1:k<=m
 ·rw[a7 h1]
  by_cases h2:m-k<n
  ·rw[a7 ⟨h1,h2⟩]
  ·rw[a6 aa,hu _ aa,bO]
 ·rw[a6 h1,a6 aa,bO]
theorem bR4 {u b:Nat->Int}{U V:Nat}(hu: ∀j,U<=j->u j=0)(hb: ∀j,V<=j->b j=0)(m:Nat):conv u b U m=conv b u V m:=by
 have e: ∀n,conv u b n m=conv b (λj=>if j<n then u j else 0) V m:=by
  intro n
  induction n with
  | zero=>
   have:(λj=>if j<0 then u j else 0)=λj=>if j=0 then(0:Int)else 0:=funext λj=>ae
   rw[this,aU1 0 0 hb,gM];rfl
  | succ n ih=>
   have:(λj=>if j<n+1 then u j else 0)=λj=>(if j<n then u j else 0)+(if j=n then u n else 0):=funext λj=>by
    by_cases h1:j<n
    ·rw[a7 ad,a7 h1,a6 ad,iG]
    ·by_cases h2:j=n
     ·subst h2;rw[a7 ad,a6 h1,a7 rfl,bI]
     ·rw[a6 ad,a6 h1,a6 h2];rfl
   rw[this,aZ6 b (λj=>if j<n then u j else 0) λj=>if j=n then u n else 0,aU1 _ _ hb,<-ih]
   rfl
 rw[e U]
 congr 1
 funext j
 by_cases h:j<U
 ·rw[a7 h]
 ·rw[a6 h,hu j ad]
theorem emL (a b p:Int):a%p*b%p=a*b%p:=by rw[gL,j5,<-gL]
theorem emR (a b p:Int):a*(b%p)%p=a*b%p:=by rw[gL,j5,<-gL]
structure MP (p:Int)(n:Nat)(f:Nat->Int):Prop where
 top:f n=1
 hi: ∀j,n<j->f j=0
 rng: ∀j,0<=f j/\f j<p
theorem MP.z {p:Int}{n:Nat}{f:Nat->Int}(h:MP p n f): ∀j,n+1<=j->f j=0:=λj hj=>h.hi j hj
noncomputable def tm (p:Int)(a b:Nat×(Nat->Int)):Nat×(Nat->Int):=(a.1+b.1,md p<|conv a.2 b.2 (a.1+1))
theorem c75 {p:Int}(u b:Nat->Int)(n m:Nat):conv (md p u) b n m%p=conv u b n m%p:=b86 (λi j=>by show u i%p*b j%p=_;rw[emL]) n m
theorem d93 {p:Int}(u b:Nat->Int)(n m:Nat):conv u (md p b) n m%p=conv u b n m%p:=b86 (λi j=>by show u i*(b j%p)%p=_;rw[emR]) n m
theorem MP.tm {p:Int}{a b:Nat×(Nat->Int)}(hp:2<=p)(ha:MP p a.1 a.2)(hb:MP p b.1 b.2):MP p (M.tm p a b).1 (M.tm p a b).2:=by
 refine⟨?_,λj hj=> ?_,λj=>⟨bY _ ad,bX _ ad⟩⟩
 ·show conv a.2 b.2 (a.1+1) (a.1+b.1)%p=1
  rw[c71 hb.hi,ha.top,hb.top];exact dU ac ad
 ·show conv a.2 b.2 (a.1+1) j%p=0
  have hj':a.1+b.1<j:=hj;rw[oF (d:=b.1) hb.hi (a.1+1) j ad,dL]
theorem a92 {p:Int}{a b c:Nat×(Nat->Int)}(hb: ∀j,b.1<j->b.2 j=0):tm p a (tm p b c)=tm p (tm p a b) c:=by
 refine j9 (pX _ _ _).symm (funext λm=> ?_)
 show conv a.2 (md p<|conv b.2 c.2 (b.1+1)) (a.1+1) m%p=conv (md p<|conv a.2 b.2 (a.1+1)) c.2 (a.1+b.1+1) m%p
 rw[d93,c75,bE1 (V:=b.1+1) (λj hj=>hb j hj) m<|a.1+1]
 rw[aT8 (u:=conv a.2 b.2 (a.1+1)) (b:=c.2) (U:=a.1+b.1+1) (a.1+1+(b.1+1)) (λj h1 h2=>oF (d:=b.1) hb (a.1+1) j ad) ad]
theorem aF0 {p:Int}{a b:Nat×(Nat->Int)}(ha: ∀j,a.1<j->a.2 j=0)(hb: ∀j,b.1<j->b.2 j=0):tm p a b=tm p b a:=by
 refine j9 (add_comm _ _) (funext λm=> ?_)
 show conv a.2 b.2 (a.1+1) m%p=conv b.2 a.2 (b.1+1) m%p
 rw[bR4 (U:=a.1+1) (V:=b.1+1) (λj hj=>ha j hj) λj hj=>hb j hj]
noncomputable def cZ:Nat×(Nat->Int):=(0,λj=>if j=0 then 1 else 0)
theorem MP.one {p:Int}(hp:2<=p):MP p cZ.1 cZ.2:=⟨rfl,λj hj=>a6 (by have:0<j:=hj;lia),λj=>by show 0<=(if j=0 then(1:Int)else 0)/\(if j=0 then(1:Int)else 0)<p;split<;>lia⟩
theorem bE2 {p:Int}{a:Nat×(Nat->Int)}(ha:MP p a.1 a.2):tm p cZ a=a:=by
 refine j9 (Nat.zero_add _) (funext λm=> ?_)
 show(0+(if(0:Nat)=0 then(1:Int)else 0)*shF a.2 0 m)%p=a.2 m
 rw[a7 rfl,zY,bI];unfold shF;rw[a7<|dN _,tV];exact dU (ha.rng m).1 (ha.rng m).2
noncomputable def jC (c:Int):Nat×(Nat->Int):=(1,λj=>if j=0 then c else if j=1 then 1 else 0)
theorem MP.lin {p c:Int}(hp:2<=p)(h0:0<=c)(h1:c<p):MP p (jC c).1 (jC c).2:=⟨rfl,λj hj=>by
  have:1<j:=hj;show(if j=0 then c else if j=1 then 1 else 0)=0;rw[a6 ad,a6 ad],λj=>by
  show 0<=(if j=0 then c else if j=1 then 1 else 0)/\(if j=0 then c else if j=1 then 1 else 0)<p
  split
  ·lia
  ·split<;>lia⟩
noncomputable def va (p:Int)(a:Nat×(Nat->Int))(z:Int):Int:=ps a.2 z (a.1+1)%p
theorem d94 (p:Int)(f:Nat->Int)(z:Int): ∀n,ps (md p f) z n%p=ps f z n%p
 | 0=>rfl
 | n+1=>by
  show(ps (md p f) z n+f n%p*z^n)%p=(ps f z n+f n*z^n)%p
  rw[iH,d94 p f z n,emL,<-iH]
theorem cP8 {p:Int}{a b:Nat×(Nat->Int)}(hb: ∀j,b.1<j->b.2 j=0)(z:Int):va p (tm p a b) z=va p a z*va p b z%p:=by
 show ps (md p<|conv a.2 b.2 (a.1+1)) z (a.1+b.1+1)%p=ps a.2 z (a.1+1)%p*(ps b.2 z (b.1+1)%p)%p
 rw[d94,<-gL];have h:=cP6 (u:=a.2) (b:=b.2) (z:=z) (V:=b.1+1) (λj hj=>hb j hj) (a.1+1) (a.1+1+(b.1+1)) (aE _)
 rw[<-h,aZ5 (n:=a.1+b.1+1) (a.1+1+(b.1+1)) ad λj h1 h2=>oF (d:=b.1) hb (a.1+1) j ad]
noncomputable def hqA (c:Int)(f:Nat->Int)(n:Nat):Nat->Int
 | 0=>f n
 | k+1=>f (n-1-k)-c*hqA c f n k
noncomputable def hq (c:Int)(f:Nat->Int)(n:Nat):Nat->Int:=λj=>if j<n then hqA c f n (n-1-j)else 0
theorem cP9 {c:Int}{f:Nat->Int}{n:Nat}(hf: ∀j,n<j->f j=0)(j:Nat)(hj:1<=j):f j=hq c f n (j-1)+c*hq c f n j:=by
 unfold hq
 by_cases h1:j<n
 ·rw[a7<|show j-1<n by lia,a7 h1,show n-1-(j-1)=(n-1-j)+1 by lia]
  show f j=f (n-1-(n-1-j))-c*hqA c f n (n-1-j)+c*hqA c f n (n-1-j)
  rw[show n-1-(n-1-j)=j by lia]
  lia
 ·by_cases h2:j=n
  ·subst h2;rw[a7<|show j-1<j by lia,a6 h1,show j-1-(j-1)=0 by lia,bO,iG]
   rfl
  ·rw[a6<|show ¬j-1<n by lia,a6 h1,hf j ad,bO]
   rfl
theorem dR7 {c:Int}{f:Nat->Int}{n:Nat}(hf: ∀j,n<j->f j=0): ∀m,ps f (-c) (m+1)=f 0-c*hq c f n 0+c*hq c f n m*(-c)^m
 | 0=>by
  show 0+f 0*(-c)^0=_
  rw[d5,jZ,jZ]
  lia
 | m+1=>by
  show ps f (-c) (m+1)+f (m+1)*(-c)^(m+1)=_
  rw[dR7 hf m,cP9 (c:=c) hf (m+1) ad,gW,jY]
  grind
theorem hq_at {c:Int}{f:Nat->Int}{n:Nat}(hf: ∀j,n<j->f j=0):ps f (-c) (n+1)=f 0-c*hq c f n 0:=by
 rw[dR7 hf n];have:hq c f n n=0:=by unfold hq;rw[a6<|dI _]
 rw[this,bO,gM,iG]
theorem c76 {u:Nat->Int}{n:Nat}(c:Int)(hu: ∀j,n<=j->u j=0)(m:Nat):conv u (jC c).2 n m=c*u m+(if m=0 then 0 else u (m-1)):=by
 have e:(jC c).2=λj=>(if j=0 then c else 0)+(if j=1 then 1 else 0):=funext λj=>by
  show(if j=0 then c else if j=1 then 1 else 0)=_
  by_cases h0:j=0
  ·subst h0;simp
  ·rw[a6 h0,a6 h0,bI]
 rw[e,aZ6 u (λj=>if j=0 then c else 0) λj=>if j=1 then 1 else 0,aU1 c 0 hu,aU1 1 1 hu,zY]
 unfold shF;rw[a7<|dN _,tV]
 congr 1
 by_cases h0:m=0
 ·rw[a7 h0,a6 ad]
 ·rw[a6 h0,a7 ad]
theorem dM4 {c:Int}{f:Nat->Int}{n:Nat}(hf: ∀j,n<j->f j=0)(m:Nat):f m=conv (hq c f n) (jC c).2 n m+(if m=0 then f 0-c*hq c f n 0 else 0):=by
 rw[c76 c (λj hj=>by unfold hq;rw[a6 ad])]
 by_cases h0:m=0
 ·subst h0;rw[a7 rfl,a7 rfl];lia
 ·rw[a6 h0,a6 h0,cP9 (c:=c) hf m ad];lia
noncomputable def powT (p:Int)(a g:Nat×(Nat->Int)):Nat->Nat×(Nat->Int)
 | 0=>a
 | k+1=>tm p (powT p a g k) g
theorem MP.powT {p:Int}{a g:Nat×(Nat->Int)}(hp:2<=p)(ha:MP p a.1 a.2)(hg:MP p g.1 g.2): ∀k,MP p (M.powT p a g k).1 (M.powT p a g k).2
 | 0=>ha
 | k+1=>MP.tm hp (MP.powT hp ha hg k) hg
theorem uJ (p:Int)(a g:Nat×(Nat->Int)): ∀k,(powT p a g k).1=a.1+g.1*k
 | 0=>rfl
 | k+1=>by
  show(powT p a g k).1+g.1=_
  rw[uJ p a g k,zT,pX]
noncomputable def allT (p:Int)(a:Nat×(Nat->Int)):List ((Nat×(Nat->Int))×Nat)->Nat×(Nat->Int)
 | []=>a
 | x::l=>allT p (powT p a x.1 x.2) l
theorem l8 (p:Int): ∀(l m:List ((Nat×(Nat->Int))×Nat)) (a:Nat×(Nat->Int)),allT p a (l++m)=allT p (allT p a l) m
 | [],m,a=>rfl
 | x::l,m,a=>l8 p l m _
theorem MP.allT {p:Int}(hp:2<=p): ∀(l:List ((Nat×(Nat->Int))×Nat)) {a:Nat×(Nat->Int)},MP p a.1 a.2->(∀x∈l,MP p x.1.1 x.1.2)->MP p (M.allT p a l).1 (M.allT p a l).2
 | [],a,ha,_=>ha
 | x::l,a,ha,h=>MP.allT hp l (MP.powT hp ha (h x<|.head _) x.2) λy hy=>h y (.tail _ hy)
theorem a93 (p:Int): ∀(l:List ((Nat×(Nat->Int))×Nat)) (a:Nat×(Nat->Int)) (x:(Nat×(Nat->Int))×Nat),x∈l->a.1+x.1.1*x.2<=(allT p a l).1
 | y::l,a,x,hx=>by
  show _<=(allT p (powT p a y.1 y.2) l).1
  have mono: ∀(l:List ((Nat×(Nat->Int))×Nat)) (a:Nat×(Nat->Int)),a.1<=(allT p a l).1:=by
   intro l
   induction l with
   | nil=>intro a;exact aE _
   | cons z l ih=>intro a;exact aM (by rw[uJ];lia) (ih<|powT p a z.1 z.2)
  rcases aX.mp hx with rfl|hx
  ·have:=mono l (powT p a x.1 x.2);rw[uJ]at this;exact this
  ·have:=a93 p l (powT p a y.1 y.2) x hx;rw[uJ]at this
   lia
noncomputable def vS (x:(Nat×(Nat->Int))×Nat):D:= .tup [aJ<|rwF (x.1.1+1) x.1.2,.int (x.2:Int)]
noncomputable def lnP (x:Int×Nat):(Nat×(Nat->Int))×Nat:=(jC x.1,x.2)
structure LK (p:Int)(F:Nat×(Nat->Int))(C:Nat)(cs:List (Int×Nat))(L:Nat×(Nat->Int)):Prop where
 prod:F=tm p (allT p cZ<|cs.map lnP) L
 mp:MP p L.1 L.2
 asc:cs.Pairwise λa b=>a.1<b.1
 mem: ∀x∈cs,0<=x.1/\x.1< (C:Int)/\1<=x.2
 nr: ∀c:Nat,c<C->va p L (-(c:Int))≠0
 len:cs.length<=C
theorem cQ0 {p:Int}(hp:2<=p){cs:List (Int×Nat)}(h: ∀x∈cs,0<=x.1/\x.1<p): ∀y∈cs.map lnP,MP p y.1.1 y.1.2:=by
 intro y hy;obtain⟨x,hx,rfl⟩:=dM.mp hy;exact MP.lin hp (h x hx).1 (h x hx).2
def uK:Φ:=λds Q=> ∃(n:Nat) (f:Nat->Int) (p:Int),ds=[aJ<|rwF (n+1) f,.int p]/\n<=40/\Pr p/\MP p n f/\ ∀cs L,LK p (n,f) p.toNat cs L->Q (.pu<|.tup [.lst<|cs.map λx=>vS (lnP x),aJ<|rwF (L.1+1) L.2])
def a57:US:=(cY<|i6<|a9 (aB 2)<|a9 (aB 3) aK)
def a58:US:=(aU (jD (gS<|a9 (aB 1) aK) (cC 4)<|aU (bT 5<|uC<|.int 0)<|aU (aX9 (gA<|uOp (jH false) (uOp oJ (aQ sU<|a9 (aB 3)<|a9 (rD<|aB 4) aK)<|aB 1)<|uC<|.int 0)<|aU (bT 3<|uIx (uV<|aQ rZ<|a9 (aB 3)<|a9 (i6<|a9 (aB 4)<|a9 (uC<|.int 1) aK)<|a9 (aB 1) aK)<|uC<|.int 0)<|c44 5 (gI2 λi j Q=>Q (.pu<|.int<|i+j))<|uC<|.int 1)<|jA (gA<|uOp (sS λi j=>decide (j<i)) (aB 5)<|uC<|.int 0) (aO3 2<|i6<|a9 (i6<|a9 (aB 4)<|a9 (uC<|.int 1) aK)<|a9 (aB 5) aK) gB) a57)
def a59:US:=(aU (bT 3<|aB 0) a58)
def uL:US:=(aU (bT 2<|kF aK) a59)
theorem d95 {p:Int}(pp:Pr p){L:Nat×(Nat->Int)}(mp:MP p L.1 L.2){c:Int}(c0:0<=c)(c1:c<p)(hz:va p L (-c)=0){t:Int}(ht:t*md p (jC c).2 1%p=1)(t0:0<=t)(t1:t<p) :
  1<=L.1/\ ∃u:Nat->Int,MP p (L.1-1) u/\L=tm p (L.1-1,u) (jC c)/\
   (let b:=λj=>t*md p (jC c).2 j%p
    let LA:=gF (md p L.2) (L.1+1)
    let q:=divQ b 1 (LA-1) (md p L.2)
    rwF (gF (λj=>t*q j%p)<|gF q<|LA-1) (λj=>t*q j%p)=rwF L.1 u):=by
 have p2:=pp.lo;have mdL:md p L.2=L.2:=funext λj=>dU (mp.rng j).1 (mp.rng j).2
 have ml:=MP.lin p2 c0 c1;have mdG:md p (jC c).2=(jC c).2:=funext λj=>dU (ml.rng j).1 (ml.rng j).2
 have l1:1<=L.1:=by
  refine Nat.pos_of_ne_zero λz=> ?_
  unfold va at hz;rw[z]at hz;have e:ps L.2 (-c) (0+1)=L.2 0*(-c)^0:=by show 0+L.2 0*(-c)^0=_;lia
  have e2:L.2 0=1:=by have:=mp.top;rw[z]at this;exact this
  rw[e,e2,d5,jZ,dU ac ad]at hz
  cases hz
 have r0:(L.2 0-c*hq c L.2 L.1 0)%p=0:=by rw[<-hq_at mp.hi];exact hz
 have fm: ∀m,L.2 m=conv (md p<|hq c L.2 L.1) (jC c).2 L.1 m%p:=λm=>by
  have h:=dM4 (c:=c) mp.hi m;rw[c75];have e:L.2 m%p=L.2 m:=dU (mp.rng m).1 (mp.rng m).2;rw[<-e]
  conv=>lhs;rw[h]
  by_cases h0:m=0
  ·rw[a7 h0,iH,r0,iG,j5]
  ·rw[a6 h0,iG]
 have ut:md p (hq c L.2 L.1) (L.1-1)=1:=by
  show hq c L.2 L.1 (L.1-1)%p=1
  unfold hq;rw[a7 ad,j7]
  show L.2 L.1%p=1
  rw[mp.top];exact dU ac ad
 have uz: ∀j,L.1<=j->md p (hq c L.2 L.1) j=0:=λj hj=>by
  show hq c L.2 L.1 j%p=0
  unfold hq;rw[a6 ad,dL]
 have ur: ∀j,0<=md p (hq c L.2 L.1) j/\md p (hq c L.2 L.1) j<p:=λj=>⟨bY _ ad,bX _ ad⟩
 refine⟨l1,md p<|hq c L.2 L.1,⟨ut,λj hj=>uz j ad,ur⟩,?_,?_⟩
 ·refine j9 (show L.1=L.1-1+1 by lia) (funext λm=> ?_)
  show L.2 m=conv (md p<|hq c L.2 L.1) (jC c).2 (L.1-1+1) m%p
  rw[show L.1-1+1=L.1 by lia]
  exact fm m
 ·have mm:=d88 (p:=p) (t:=t) (B0:=md p (jC c).2) (u:=md p (hq c L.2 L.1)) (low:=λ_=>0) (A:=md p L.2) (d:=1) (U:=L.1) (n:=L.1+1) p2 (λj hj=>by rw[mdG];exact ml.hi j hj) (.inr (by rw[ut];decide)) ur uz (λ_ _=>rfl) (λ_=>⟨ac,ad⟩) ht (λm=>by rw[mdL,mdG,iG];exact fm m) (aE _)
  obtain⟨_,e1,_,_⟩:=mm;have eLA:gF (md p L.2) (L.1+1)=L.1+1:=vO (aE _) (λm h1 h2=>ad) (.inr (by rw[mdL,gW,mp.top];decide))
  rw[eLA]at e1⊢;have eu:(λj=>t*divQ (λj=>t*md p (jC c).2 j%p) 1 (L.1+1-1) (md p L.2) j%p)=md p (hq c L.2 L.1):=funext e1
  dsimp only;rw[eu];have eq:gF (divQ (λj=>t*md p (jC c).2 j%p) 1 (L.1+1-1)<|md p L.2) (L.1+1-1)=L.1:=by
   rw[gW];refine vO (aE _) (λm h1 h2=>ad) (.inr λz=> ?_)
   have h:=e1 (L.1-1);rw[gW]at h;rw[z,bO,dL,ut]at h;cases h
  rw[eq,vO (k:=L.1) (aE _) (λm h1 h2=>ad)<|.inr (by rw[ut];decide)]
theorem d96 {p:Int}{a b:Nat×(Nat->Int)}(hb: ∀j,b.1<j->b.2 j=0){z:Int}(h:va p (tm p a b) z≠0):va p a z≠0/\va p b z≠0:=by
 rw[cP8 hb]at h;refine⟨λe=>h ?_,λe=>h ?_⟩
 ·rw[e,gM,dL]
 ·rw[e,bO,dL]
theorem cJ0 {p:Int}(pp:Pr p){n:Nat}{f:Nat->Int}(h:MP p n f)(j:Nat):(f j).natAbs<=2^8:=by
 have h1:=h.rng j;have h2:=pp.hi;have:(2:Nat)^8=256:=rfl
 lia
theorem bE3: ∀ds Q,uK ds Q->uL {nx:=λ_=>Q (.pu .non),rt:=Q} (init ["f","p","a","l","c","o"] ds):=by
 rintro ds Q ⟨n,f,p,rfl,n4,pp,mp,h⟩;have p2:=pp.lo;have p3:=pp.hi;unfold uL;show(aU _ _:US) _ [some<|.pu<|aJ<|rwF (n+1) f,some<|.pu<|.int p,none,none,none,none];rw[aR];walk_at "u";refine⟨ac,?_⟩
 unfold a59;rw[aR];walk_at "u";unfold a58;rw[aR];refine bJ p.toNat (λi=> .int (0+i)) [some<|.pu<|aJ<|rwF (n+1) f,some<|.pu<|.int p,some<|.ow [],some<|.pu<|aJ<|rwF (n+1) f,none,none] ?_
  (λi ρ=> ∃(cs:List (Int×Nat)) (L:Nat×(Nat->Int)) (x y:Option B),ρ=[some<|.pu<|aJ<|rwF (n+1) f,some<|.pu<|.int p,some<|.ow<|cs.map λx=>vS (lnP x),some<|.pu<|aJ<|rwF (L.1+1) L.2,x,y]/\LK p (n,f) i cs L)
  ⟨[],(n,f),none,none,rfl,(bE2 (p:=p) (a:=(n,f)) mp).symm,mp,.nil,ae,ae,aE _⟩ ?_ ?_
 ·intro Q' q;walk_at "u";refine⟨⟨ad,ad⟩,?_⟩
  exact q
 ·rintro i ρ hi ⟨cs,L,x,y,rfl,lk⟩;have hLn:L.1<=n:=by
   have:=dO Prod.fst lk.prod;have e:n=(allT p cZ<|cs.map lnP).1+L.1:=this
   lia
  have mcs:=cQ0 p2 (cs:=cs) (λx hx=>⟨(lk.mem x hx).1,by have:=(lk.mem x hx).2.1;lia⟩)
  have mA:=MP.allT p2 (cs.map lnP) (MP.one p2) mcs;have mlin:=MP.lin p2 (c:=(i:Int)) ad ad
  rw[bI];walk_at "u";refine⟨ae,?_⟩
  refine⟨λk ρ=> ∃(o:Nat) (L':Nat×(Nat->Int)),ρ=[some<|.pu<|aJ<|rwF (n+1) f,some<|.pu<|.int p,some<|.ow<|cs.map λx=>vS (lnP x),some<|.pu<|aJ<|rwF (L'.1+1) L'.2,some<|.pu<|.int (i:Int),some<|.pu<|.int (o:Int)]/\k=L'.1/\L'.1<=n/\(n,f)=tm p (powT p (allT p cZ<|cs.map lnP) (jC (i:Int)) o) L'/\MP p L'.1 L'.2/\ ∀c:Nat,c<i->va p L' (-(c:Int))≠0,⟨L.1,0,L,rfl,rfl,hLn,lk.prod,lk.mp,lk.nr⟩,?_⟩
  rintro k ρ ⟨o,L',rfl,rfl,hL',e,mp',nr⟩;walk_at "u";refine⟨L'.1+1,8,8,L'.2,-(i:Int),rfl,⟨cJ0 pp mp',by have:(2:Nat)^8=256:=rfl;lia,ad,ac,ad⟩,?_⟩
  walk_at "u"
  refine⟨ad,?_⟩
  rw[dE _ ad]
  by_cases c:va p L' (-(i:Int))=0
  ·rw[a7<|show ps L'.2 (-(i:Int)) (L'.1+1)%p=0 from c]
   refine⟨ac,L'.1+1,2,1,L'.2,(jC (i:Int)).2,p,rfl,ad,ac,pp,λj hj=>mlin.hi j hj,ac,λj hj=>by show(jC (i:Int)).2 j%p=0;rw[mlin.hi j hj,dL],by show(1:Int)%p≠0;rw[dU ac ad];decide,λt ht t0 t1=> ?_⟩
   obtain⟨l1,u,mu,eu,er⟩:=d95 pp mp' (c:=(i:Int)) ad ad c ht t0 t1
   dsimp only at er⊢;rw[er,aT1];dsimp only;have eL:rwF L'.1 u=rwF (L'.1-1+1) u:=by rw[show L'.1-1+1=L'.1 by lia]
   rw[eL];refine⟨L'.1-1,ad,o+1,(L'.1-1,u),by rw[Int.natCast_succ],rfl,by show L'.1-1<=n;lia,?_,mu,λc' hc'=> ?_⟩
   ·show(n,f)=tm p (tm p (powT p (allT p cZ<|cs.map lnP) (jC (i:Int)) o)<|jC (i:Int)) (L'.1-1,u)
    rw[e]
    conv=>lhs;rw[eu]
    rw[aF0 (a:=(L'.1-1,u)) (λj hj=>mu.hi j hj) mlin.hi,a92 mlin.hi]
   ·have:=nr c' hc';rw[eu]at this;exact(d96 mlin.hi this).1
  ·rw[a6<|show ¬ps L'.2 (-(i:Int)) (L'.1+1)%p=0 from c]
   have nr': ∀c:Nat,c<i+1->va p L' (-(c:Int))≠0:=λc' hc'=>by
    by_cases h1:c'<i
    ·exact nr c' h1
    ·rw[show c'=i by lia];exact c
   by_cases c2:(0:Int)< (o:Int)
   ·rw[a7 c2];refine⟨ac,ac,?_,cs++[((i:Int),o)],L',_,_,by rw[bV];rfl,?_,mp',?_,?_,nr',?_⟩
    ·rw[aG];exact nE lk.len (aY hi<|aM (show p.toNat<=200 by lia) ac)
    ·rw[bV,l8];exact e
    ·rw[aL8];refine⟨lk.asc,yX _ _,λa ha b hb=> ?_⟩
     rw[gJ.mp hb];exact(lk.mem a ha).2.1
    ·intro z hz;rcases bM.mp hz with hz|hz
     ·have:=lk.mem z hz;exact⟨this.1,ad,this.2.2⟩
     ·rw[gJ.mp hz];exact⟨by show(0:Int)<=(i:Int);lia,by show(i:Int)< ((i+1:Nat):Int);lia,by show 1<=o;lia⟩
    ·rw[bN];exact Nat.succ_le_succ lk.len
   ·rw[a6 c2];have o0:o=0:=ad
    subst o0;exact⟨cs,L',_,_,rfl,e,mp',lk.asc,λz hz=>⟨(lk.mem z hz).1,by have:=(lk.mem z hz).2.1;lia,(lk.mem z hz).2.2⟩,nr',aN2 lk.len⟩
 ·rintro ρ ⟨cs,L,x,y,rfl,lk⟩;dsimp only;unfold a57;walk_at "u";exact⟨ac,h cs L lk⟩
noncomputable def quF (v u:Int):Nat×(Nat->Int):=(2,λj=>if j=0 then v else if j=1 then u else if j=2 then 1 else 0)
theorem MP.qu {p v u:Int}(hp:2<=p)(v0:0<=v)(v1:v<p)(u0:0<=u)(u1:u<p):MP p (quF v u).1 (quF v u).2:=⟨rfl,λj hj=>by
  have:2<j:=hj;show(if j=0 then v else if j=1 then u else if j=2 then 1 else 0)=0;rw[a6 ad,a6 ad,a6 ad],λj=>by
  show 0<=(if j=0 then v else if j=1 then u else if j=2 then 1 else 0)/\(if j=0 then v else if j=1 then u else if j=2 then 1 else 0)<p
  split
  ·lia
  ·split
   ·lia
   ·split<;>lia⟩
theorem cQ1 (v u w s:Int):conv (quF v u).2 (quF w s).2 3 0=v*w/\conv (quF v u).2 (quF w s).2 3 1=v*s+u*w/\conv (quF v u).2 (quF w s).2 3 2=v+u*s+w/\conv (quF v u).2 (quF w s).2 3 3=u+s:=by
 refine⟨?_,?_,?_,?_⟩<;>simp[conv,shF,quF]
theorem d97 {p:Int}{f:Nat->Int}(mp:MP p 4 f){v u w s:Int}(m1:MP p (quF v u).1 (quF v u).2)(m2:MP p (quF w s).1 (quF w s).2)(hp:2<=p) :
  ((4,f):Nat×(Nat->Int))=tm p (quF v u) (quF w s)↔f 0=v*w%p/\f 1=(v*s+u*w)%p/\f 2=(v+u*s+w)%p/\f 3=(u+s)%p:=by
 obtain⟨e0,e1,e2,e3⟩:=cQ1 v u w s;have mt:=MP.tm hp m1 m2;constructor
 ·intro e;have h: ∀m,f m=conv (quF v u).2 (quF w s).2 3 m%p:=λm=>congrFun (dO Prod.snd e) m
  exact⟨by rw[h 0,e0],by rw[h 1,e1],by rw[h 2,e2],by rw[h 3,e3]⟩
 ·rintro⟨h0,h1,h2,h3⟩;refine j9 rfl (funext λm=> ?_)
  show f m=conv (quF v u).2 (quF w s).2 3 m%p
  match m with
  | 0=>rw[h0,e0]
  | 1=>rw[h1,e1]
  | 2=>rw[h2,e2]
  | 3=>rw[h3,e3]
  | 4=>exact mp.top.trans mt.top.symm
  | m+5=>exact(mp.hi _ ad).trans (mt.hi (m+5)<|show 2+2<m+5 by lia).symm
def NoQ (p:Int)(F:Nat×(Nat->Int)):Prop:= ∀v u w s:Int,0<=v->v<p->0<=u->u<p->0<=w->w<p->0<=s->s<p->F≠tm p (quF v u) (quF w s)
def sB:Φ:=λds Q=> ∃(f:Nat->Int) (p:Int),ds=[aJ<|rwF 5 f,.int p]/\Pr p/\MP p 4 f/\
 (∀v u w s:Int,0<=v->v<p->0<=u->u<p->0<=w->w<p->0<=s->s<p->((4,f):Nat×(Nat->Int))=tm p (quF v u) (quF w s)->Q (.ow [aJ [v,u,1],aJ [w,s,1]]))/\(NoQ p (4,f)->Q (.ow []))
def yD:US:=(cY<|kF aK)
def sC:US:=(aU (jD (gS<|a9 (aB 1) aK) (cC 2)<|aU (bT 3<|uOp oJ (uOp M.gSub (uIx (aV 0)<|uC<|.int 3)<|aB 2)<|aB 1)<|aU (bT 4<|uOp M.gSub (uIx (aV 0)<|uC<|.int 2)<|uOp hZ (aB 2)<|aB 3)<|jD (gS<|a9 (aB 1) aK) (cC 5)<|aU (bT 6<|uOp oJ (uOp M.gSub (aB 4)<|aB 5)<|aB 1)<|jA (cU5 (gA<|uOp (jH false) (uOp oJ (uOp hZ (aB 5)<|aB 6)<|aB 1)<|uIx (aV 0)<|uC<|.int 0)<|gA<|uOp (jH false) (uOp oJ (uOp hX (uOp hZ (aB 2)<|aB 6)<|uOp hZ (aB 5)<|aB 3)<|aB 1)<|uIx (aV 0)<|uC<|.int 1) (cY<|kF<|a9 (i6<|a9 (aB 5)<|a9 (aB 2)<|a9 (uC<|.int 1) aK)<|a9 (i6<|a9 (aB 6)<|a9 (aB 3)<|a9 (uC<|.int 1) aK) aK) gB) yD)
def cW5 (p:Int)(f:Nat->Int)(u v:Int):Prop:=v*((f 2-u*((f 3-u)%p)-v)%p)%p=f 0/\(u*((f 2-u*((f 3-u)%p)-v)%p)+v*((f 3-u)%p))%p=f 1
theorem c77 {p a b x:Int}(h0:0<=a)(h1:a<p)(h:x=(a+b)%p):(x-b)%p=a:=by
 rw[h,zU,j5,<-zU,Int.add_sub_cancel];exact dU h0 h1
theorem b57: ∀ds Q,sB ds Q->sC {nx:=λ_=>Q (.pu .non),rt:=Q} (init ["f","p","u","s","t","v","w"] ds):=by
 rintro ds Q ⟨f,p,rfl,pp,mp,yes,no⟩;have p2:=pp.lo;have p3:=pp.hi;have a0:atI ((rwF 5 f).map D.int) 0=some (.int<|f 0):=mI (i:=0) ac
 have a1:atI ((rwF 5 f).map D.int) 1=some (.int<|f 1):=mI (i:=1) ac
 have a2:atI ((rwF 5 f).map D.int) 2=some (.int<|f 2):=mI (i:=2) ac
 have a3:atI ((rwF 5 f).map D.int) 3=some (.int<|f 3):=mI (i:=3) ac
 unfold sC;simp only[aJ];show(aU _ _:US) _ [some<|.pu<|.tup<|(rwF 5 f).map .int,some<|.pu<|.int p,none,none,none,none,none];rw[aR];refine bJ p.toNat (λi=> .int (0+i)) [some<|.pu<|.tup<|(rwF 5 f).map .int,some<|.pu<|.int p,none,none,none,none,none] ?_
  (λi ρ=> ∃x y z a b,ρ=[some<|.pu<|.tup<|(rwF 5 f).map .int,some<|.pu<|.int p,x,y,z,a,b]/\ ∀u v:Nat,u<i->v<p.toNat-> ¬cW5 p f (u:Int) (v:Int))
  ⟨none,none,none,none,none,rfl,λu v hu=>ad⟩ ?_ ?_
 ·intro Q' q;walk_at "u";refine⟨⟨ad,ad⟩,?_⟩
  exact q
 ·rintro i ρ hi ⟨x,y,z,a,b,rfl,nh⟩;rw[bI];walk_at "u";rw[a3];dsimp only;refine⟨ae,ad,?_⟩
  rw[dE _ ad,a2]
  dsimp only;have s0:=bY (f 3-(i:Int)) (show p≠0 by lia)
  have s1:=bX (f 3-(i:Int)) (show 0<p by lia)
  generalize hS:(f 3-(i:Int))%p=S at *;refine⟨cmL ad ad,?_⟩
  refine bJ p.toNat (λi=> .int (0+i)) [some<|.pu<|.tup<|(rwF 5 f).map .int,some<|.pu<|.int p,some<|.pu<|.int (i:Int),some<|.pu<|.int S,some<|.pu<|.int<|f 2-(i:Int)*S,a,b] ?_
   (λj ρ=> ∃a b,ρ=[some<|.pu<|.tup<|(rwF 5 f).map .int,some<|.pu<|.int p,some<|.pu<|.int (i:Int),some<|.pu<|.int S,some<|.pu<|.int<|f 2-(i:Int)*S,a,b]/\ ∀v:Nat,v<j-> ¬cW5 p f (i:Int) (v:Int))
   ⟨a,b,rfl,λv hv=>ad⟩ ?_ ?_
  ·intro Q' q;walk_at "u";refine⟨⟨ad,ad⟩,?_⟩
   exact q
  ·rintro j ρ hj ⟨a,b,rfl,nj⟩;rw[bI];walk_at "u";refine⟨ae,ad,?_⟩
   rw[dE _ ad]
   have w0:=bY (f 2-(i:Int)*S-(j:Int)) (show p≠0 by lia)
   have w1:=bX (f 2-(i:Int)*S-(j:Int)) (show 0<p by lia)
   generalize hW:(f 2-(i:Int)*S-(j:Int))%p=W at *;refine⟨cmL ad ad,ad,?_⟩
   rw[dE _ ad,a0]
   dsimp only
   have step: ¬cW5 p f (i:Int) (j:Int)-> ∃a b,[some<|B.pu<|.tup<|(rwF 5 f).map .int,some<|.pu<|.int p,some<|.pu<|.int (i:Int),some<|.pu<|.int S,some<|.pu<|.int<|f 2-(i:Int)*S,some<|.pu<|.int (j:Int),some<|.pu<|.int W]=[some<|.pu<|.tup<|(rwF 5 f).map .int,some<|.pu<|.int p,some<|.pu<|.int (i:Int),some<|.pu<|.int S,some<|.pu<|.int<|f 2-(i:Int)*S,a,b]/\ ∀v:Nat,v<j+1-> ¬cW5 p f (i:Int) (v:Int):=λnh'=>⟨_,_,rfl,λv hv=>by
    by_cases h1:v<j
    ·exact nj v h1
    ·rw[show v=j by lia];exact nh'⟩
   by_cases c1:(j:Int)*W%p=f 0
   ·rw[a7 c1];refine⟨cmL ad ad,cmL ad ad,ad,?_⟩
    rw[dE _ ad,a1]
    dsimp only
    by_cases c2:((i:Int)*W+(j:Int)*S)%p=f 1
    ·rw[a7 c2];refine⟨ac,ac,ac,yes (j:Int) (i:Int) W S ad ad ad ad w0 w1 s0 s1<|(d97 mp (MP.qu p2 ad ad ad ad) (MP.qu p2 w0 w1 s0 s1) p2).mpr ⟨c1.symm,by rw[<-c2,zV],?_,?_⟩⟩
     ·rw[<-hW,iH,j5,<-iH];have:(j:Int)+(i:Int)*S+(f 2-(i:Int)*S-(j:Int))=f 2:=ad
      rw[this];exact(dU (mp.rng 2).1 (mp.rng 2).2).symm
     ·rw[<-hS,iH,j5,<-iH];have:(i:Int)+(f 3-(i:Int))=f 3:=ad
      rw[this];exact(dU (mp.rng 3).1 (mp.rng 3).2).symm
    ·rw[a6 c2];exact step λz=>c2 (by have:=z.2;unfold cW5 at z;rw[hS,hW]at this;exact this)
   ·rw[a6 c1];exact step λz=>c1 (by have:=z.1;rw[hS,hW]at this;exact this)
  ·rintro ρ ⟨a,b,rfl,nj⟩;refine⟨_,_,_,_,_,rfl,λu v hu hv=> ?_⟩
   by_cases h1:u<i
   ·exact nh u v h1 hv
   ·rw[show u=i by lia];exact nj v hv
 ·rintro ρ ⟨x,y,z,a,b,rfl,nh⟩;dsimp only;unfold yD;walk_at "u";refine⟨ac,no ?_⟩
  intro v u w s v0 v1 u0 u1 w0 w1 s0 s1 e;obtain⟨h0,h1,h2,h3⟩:=(d97 mp (MP.qu p2 v0 v1 u0 u1) (MP.qu p2 w0 w1 s0 s1) p2).mp e;obtain⟨v',rfl⟩: ∃v':Nat,v=(v':Int):=⟨v.toNat,ad⟩
  obtain⟨u',rfl⟩: ∃u':Nat,u=(u':Int):=⟨u.toNat,ad⟩
  refine nh u' v' ad ad ?_
  have es:(f 3-(u':Int))%p=s:=c77 s0 s1 (by rw[h3,zV])
  have ew:(f 2-(u':Int)*s-(v':Int))%p=w:=by
   have:=c77 (x:=f 2) (b:=(v':Int)+(u':Int)*s) w0 w1 (by rw[h2,zV w])
   rw[<-this]
   congr 1
   lia
  unfold cW5;rw[es,ew];exact⟨h0.symm,by rw[h1,zV]⟩
theorem at0 {a b:D}:atI [a,b] 0=some a:=cS (j:=0) rfl
theorem at1 {a b:D}:atI [a,b] 1=some b:=cS (j:=1) rfl
def NoR (p:Int)(F:Nat×(Nat->Int)):Prop:= ∀c:Nat,c<p.toNat->va p F (-(c:Int))≠0
def ltP (x y:(Nat×(Nat->Int))×Nat):Prop:=x.1.1<y.1.1\/(x.1.1=y.1.1/\ltL (rwF (x.1.1+1) x.1.2) (rwF (y.1.1+1) y.1.2)=true)
structure RL (p:Int)(F:Nat×(Nat->Int))(rs:List ((Nat×(Nat->Int))×Nat)):Prop where
 prod: ∀a:Nat×(Nat->Int),MP p a.1 a.2->allT p a rs=tm p a F
 mem: ∀x∈rs,MP p x.1.1 x.1.2/\2<=x.1.1/\x.1.1<=4/\1<=x.2/\x.2<=2/\NoR p x.1/\(x.1.1=4->NoQ p x.1)
 ord:rs.Pairwise ltP
 len:rs.length<=2
theorem dM5 {p:Int}(hp:2<=p){a:Nat×(Nat->Int)}(ha:MP p a.1 a.2):tm p a cZ=a:=by
 rw[aF0 ha.hi (MP.one hp).hi,bE2 ha]
theorem RL.single {p:Int}{F:Nat×(Nat->Int)}(mp:MP p F.1 F.2)(h2:2<=F.1)(h4:F.1<=4)(nr:NoR p F)(nq:F.1=4->NoQ p F):RL p F [(F,1)]:=
 ⟨λa _=>rfl,λx hx=>by rw[gJ.mp hx];exact⟨mp,h2,h4,aE _,show 1<=2 by decide,nr,nq⟩,yX _ _,show 1<=2 by decide⟩
theorem row_lt {v u w s:Int}(h: ¬(v=w/\u=s)):ltL [w,s,1] [v,u,1]=false->ltL [v,u,1] [w,s,1]=true:=by
 unfold ltL
 by_cases c:v=w
 ·rw[a7 c,a7 c.symm];unfold ltL;have:u≠s:=λz=>h ⟨c,z⟩
  rw[a6 this,a6 λz=>this z.symm]
  simp only[aK5,fW]
  lia
 ·rw[a6 c,a6 λz=>c z.symm]
  simp only[aK5,fW]
  lia
def mJ:Φ:=λds Q=> ∃(n:Nat) (f:Nat->Int) (p:Int),ds=[aJ<|rwF (n+1) f,.int p]/\n<=4/\Pr p/\MP p n f/\NoR p (n,f)/\ ∀rs,RL p (n,f) rs->Q (.ow<|rs.map vS)
def rJ:US:=(cY<|dS [] [none,none] 1 (gR<|aQ cH3<|a9 (aB 2) aK) (cC 0) (λρ Q=>Q true ρ)<|i6<|a9 (aB 0)<|a9 (uC<|.int 1) aK)
def rK:US:=(aU (jA (gA<|uOp (gEqD false) (uIx (aV 2)<|uC<|.int 0)<|uIx (aV 2)<|uC<|.int 1) (cY<|kF<|a9 (i6<|a9 (uIx (aV 2)<|uC<|.int 0)<|a9 (uC<|.int 2) aK) aK) gB) rJ)
def iW:US:=(aU (jA (gA<|uOp (jH false) (kO<|aV 2)<|uC<|.int 0) (cY<|kF<|a9 (i6<|a9 (aB 0)<|a9 (uC<|.int 1) aK) aK) gB) rK)
def rL:US:=(aU (bT 2<|uIf (gA<|uOp (jH false) (kO<|aV 0)<|uC<|.int 5) (aQ sB<|a9 (aB 0)<|a9 (aB 1) aK)<|kF aK) iW)
def mM:US:=(aU (jA (gA<|uOp (jH false) (kO<|aV 0)<|uC<|.int 1) (cY<|kF aK) gB) rL)
theorem d98 {p:Int}(pp:Pr p){F:Nat×(Nat->Int)}(mp:MP p F.1 F.2)(h1:F.1=1)(nr:NoR p F):False:=by
 have p2:=pp.lo;have r:=mp.rng 0;refine nr (F.2 0).toNat ad ?_
 unfold va;rw[h1,show(((F.2 0).toNat:Nat):Int)=F.2 0 by lia]
 have t:F.2 1=1:=by have:=mp.top;rw[h1]at this;exact this
 show(0+F.2 0*(-F.2 0)^0+F.2 1*(-F.2 0)^1)%p=0
 rw[t,d5,jY,d5];have:0+F.2 0*1+1*(1* -F.2 0)=0:=ad
 rw[this,dL]
theorem aG6: ∀ds Q,mJ ds Q->mM {nx:=λ_=>Q (.pu .non),rt:=Q} (init ["f","p","a"] ds):=by
 rintro ds Q ⟨n,f,p,rfl,n4,pp,mp,nr,h⟩;have p2:=pp.lo;unfold mM;simp only[aJ];show(aU _ _:US) _ [some<|.pu<|.tup<|(rwF (n+1) f).map .int,some<|.pu<|.int p,none];rw[aR];walk_at "u";rw[aZ]
 by_cases n0:n=0
 ·rw[a7 ad]
  subst n0;refine⟨ac,h [] ⟨λa ha=> ?_,ae,.nil,ac⟩⟩
  have e:((0,f):Nat×(Nat->Int))=cZ:=j9 rfl (funext λj=>by
   show f j=if j=0 then 1 else 0
   by_cases c:j=0
   ·rw[a7 c,c];exact mp.top
   ·rw[a6 c];exact mp.hi j ad)
  rw[e,dM5 p2 ha];rfl
 rw[a6 ad]
 have n1:n≠1:=λz=>d98 pp (F:=(n,f)) mp z nr
 have alone:(n=4->NoQ p (n,f))->iW {nx:=λ_=>Q (.pu .non),rt:=Q} [some<|.pu<|.tup<|(rwF (n+1) f).map .int,some<|.pu<|.int p,some<|.ow []]:=λnq=>by
  unfold iW;rw[aR];walk_at "u";rw[a7<|by rfl]
  exact⟨ac,ac,h [((n,f),1)]<|RL.single mp (by show 2<=n;lia) n4 nr nq⟩
 unfold rL;rw[aR];walk_at "u";simp only[uIf,kO,aV,c43,uC,isB,B.d,pB,jH,tD,aZ]
 by_cases c:n=4
 ·subst c;rw[a7<|by rfl]
  refine⟨f,p,rfl,pp,mp,λv u w s v0 v1 u0 u1 w0 w1 s0 s1 e=> ?_,λnq=> ?_⟩
  ·have m1:=MP.qu p2 v0 v1 u0 u1;have m2:=MP.qu p2 w0 w1 s0 s1;have k1:NoR p (quF v u):=λc hc=>by have:=nr c hc;rw[e]at this;exact(d96 m2.hi this).1
   have k2:NoR p (quF w s):=λc hc=>by have:=nr c hc;rw[e]at this;exact(d96 m2.hi this).2
   dsimp only;simp only[aJ];unfold iW;rw[aR];walk_at "u";rw[a6 ac]
   unfold rK;rw[aR];walk_at "u";rw[at0,at1];dsimp only;refine d85 ?_
   by_cases c:[v,u,(1:Int)]=[w,s,1]
   ·have c1:v=w:=by simp at c;exact c.1
    have c2:u=s:=by simp at c;exact c.2
    subst c1 c2;rw[jW rfl];dsimp only;rw[a7 ac]
    refine⟨ac,ac,h [(quF v u,2)] ⟨λa ha=> ?_,λx hx=> ?_,yX _ _,show 1<=2 by decide⟩⟩
    ·show tm p (tm p a<|quF v u) (quF v u)=tm p a (4,f)
     rw[e,a92 m1.hi]
    ·rw[gJ.mp hx];exact⟨m1,aE _,show 2<=4 by decide,show 1<=2 by decide,aE _,k1,λz=>by cases z⟩
   ·rw[gK c];dsimp only;rw[a6 ac]
    have nc: ¬(v=w/\u=s):=λz=>c (by rw[z.1,z.2])
    unfold rJ;rw[iV];have fin2: ∀(v u w s:Int),MP p (quF v u).1 (quF v u).2->MP p (quF w s).1 (quF w s).2->NoR p (quF v u)->NoR p (quF w s)->((4,f):Nat×(Nat->Int))=tm p (quF v u) (quF w s)->ltL [v,u,1] [w,s,1]=true->Q (.ow [.tup [.tup<|[v,u,1].map D.int,.int 1],.tup [.tup<|[w,s,1].map D.int,.int 1]]):=λv u w s m1 m2 k1 k2 e lt=>by
     refine h [(quF v u,1),(quF w s,1)] ⟨λa ha=> ?_,λx hx=> ?_,?_,aE _⟩
     ·show tm p (tm p a<|quF v u) (quF w s)=tm p a (4,f)
      rw[e,a92 m1.hi]
     ·rcases aX.mp hx with rfl|hx
      ·exact⟨m1,aE _,show 2<=4 by decide,aE _,show 1<=2 by decide,k1,λz=>by cases z⟩
      ·rw[gJ.mp hx];exact⟨m2,aE _,show 2<=4 by decide,aE _,show 1<=2 by decide,k2,λz=>by cases z⟩
     ·refine aM8.mpr ⟨λy hy=> ?_,yX _ _⟩
      rw[gJ.mp hy];exact .inr ⟨rfl,lt⟩
    refine eV (t0:=0) 2 (λk=>(if ltL [w,s,1] [v,u,1]=true then [D.tup<|[w,s,1].map D.int,.tup<|[v,u,1].map D.int]else [.tup<|[v,u,1].map D.int,.tup<|[w,s,1].map D.int]).getD k .non) [some<|.pu<|.tup<|(rwF (4+1) f).map .int,some<|.pu<|.int p,some<|.pu<|.lst [.tup<|[v,u,1].map D.int,.tup<|[w,s,1].map D.int]] ?_ ac (λx l'=>[x,some<|.ow l']) none rfl (λ_ _ _=>rfl) (λ_ _=>cQ _) (λ_ _ _ q=>q) (λ_ _ _=>rfl)
     (λk=> .tup [(if ltL [w,s,1] [v,u,1]=true then [D.tup<|[w,s,1].map D.int,.tup<|[v,u,1].map D.int]else [.tup<|[v,u,1].map D.int,.tup<|[w,s,1].map D.int]).getD k .non,.int 1]) ?_ ?_
    ·intro Q' q;walk_at "u";refine⟨v,w,[u,1],[s,1],rfl,?_⟩;cases l:ltL [w,s,1] [v,u,1]
     ·rw[l]at q;exact q
     ·rw[l]at q;exact q
    ·intro k l' Q' hk q;walk_at "u";exact⟨ac,q⟩
    ·cases l:ltL [w,s,1] [v,u,1]
     ·exact fin2 v u w s m1 m2 k1 k2 e (row_lt nc l)
     ·exact fin2 w s v u m2 m1 k2 k1 (by rw[e,aF0 m1.hi m2.hi]) l
  ·exact alone λ_=>nq
 ·rw[a6 (by simp;lia)]
  refine⟨ac,?_⟩
  exact alone λz=>absurd z c
structure SP (p:Int)(F:Nat×(Nat->Int))(xs:List ((Nat×(Nat->Int))×Nat)):Prop where
 prod:allT p cZ xs=F
 mem: ∀x∈xs,MP p x.1.1 x.1.2/\1<=x.1.1/\x.1.1<=4/\1<=x.2/\x.2<=4/\(2<=x.1.1->NoR p x.1)/\(x.1.1=4->NoQ p x.1)
 ord:xs.Pairwise ltP
 len:xs.length<=300
theorem SP.of {p:Int}(pp:Pr p){F L:Nat×(Nat->Int)}{cs:List (Int×Nat)}{rs:List ((Nat×(Nat->Int))×Nat)}(h4:F.1<=4)(lk:LK p F p.toNat cs L)(rl:RL p L rs):SP p F (cs.map lnP++rs):=by
 have p2:=pp.lo;have p3:=pp.hi;have rg: ∀x∈cs,0<=x.1/\x.1<p:=λx hx=>⟨(lk.mem x hx).1,by have:=(lk.mem x hx).2.1;lia⟩
 have mcs:=cQ0 p2 rg;have mA:=MP.allT p2 (cs.map lnP) (MP.one p2) mcs;refine⟨by rw[l8,rl.prod _ mA];exact lk.prod.symm,λx hx=> ?_,?_,?_⟩
 ·rcases bM.mp hx with hx|hx
  ·obtain⟨y,hy,rfl⟩:=dM.mp hx;have hd:=a93 p (cs.map lnP) cZ (lnP y) hx;have e:F.1=(allT p cZ<|cs.map lnP).1+L.1:=dO Prod.fst lk.prod;have hd':0+1*y.2<=(allT p cZ<|cs.map lnP).1:=hd;refine⟨mcs _ hx,aE _,show 1<=4 by decide,(lk.mem y hy).2.2,show y.2<=4 by lia,λz=> ?_,λz=> ?_⟩
   ·have:2<=1:=z
    lia
   ·have:1=4:=z
    lia
  ·obtain⟨a,b,c,d,e,f,g⟩:=rl.mem x hx;exact⟨a,ad,c,d,ad,λ_=>f,g⟩
 ·rw[aL8];refine⟨?_,rl.ord,λx hx y hy=> ?_⟩
  ·rw[List.pairwise_map];refine lk.asc.imp λ{a b} h=> .inr ⟨rfl,?_⟩
   show ltL [a.1,1] [b.1,1]=true
   unfold ltL;rw[a6 ad,jW h]
  ·obtain⟨z,hz,rfl⟩:=dM.mp hx;have:=(rl.mem y hy).2.1;exact .inl (show 1<y.1.1 by lia)
 ·have a:=lk.len;have b:=rl.len;rw[bN,aG]
  lia
def qV:Φ:=λds Q=> ∃(n:Nat) (g:Nat->Int) (p:Int),ds=[aJ<|rwF (n+1) g,.int p]/\n<=4/\p∈prL/\MP p n (md p g)/\ ∀xs,SP p (n,md p g) xs->Q (.ow<|xs.map vS)
def a94:US:=(cY<|uOp hX (aB 2)<|aQ mJ<|a9 (aB 3)<|a9 (aB 1) aK)
def a95:US:=(aU (cF5 (aQ uK<|a9 (aQ jB<|a9 (aB 0)<|a9 (aB 1) aK)<|a9 (aB 1) aK)<|mV<|d8 2<|d8 3 mU) a94)
def wM:US:=(aU (jA (gA<|uOp (gIn true) (aB 1)<|aQ kN aK) (λ_ _=>False) gB) a95)
theorem bK7: ∀ds Q,qV ds Q->wM {nx:=λ_=>Q (.pu .non),rt:=Q} (init ["f","p","a","l"] ds):=by
 rintro ds Q ⟨n,g,p,rfl,n4,hp,mp,h⟩;have pp:=a15 hp;have p2:=pp.lo;unfold wM;show(aU _ _:US) _ [some<|.pu<|aJ<|rwF (n+1) g,some<|.pu<|.int p,none,none];rw[aR];walk_at "u";refine⟨rfl,p,T_SMALL_PRIMES,rfl,.inr<|.inl rfl,?_⟩;rw[jW (show p∈T_SMALL_PRIMES by rw[<-d90];exact hp)]
 dsimp only;rw[a6 ac]
 unfold a95;rw[aR];walk_at "u";refine⟨n+1,g,p,rfl,ad,ad,?_⟩
 walk_at "u"
 have e:gF (md p g) (n+1)=n+1:=vO (aE _) (λm h1 h2=>ad) (.inr (by rw[gW,mp.top];decide))
 rw[e];refine⟨n,md p g,p,rfl,ad,pp,mp,λcs L lk=> ?_⟩
 walk_at "u"
 refine⟨ac,ac,trivial,?_⟩
 unfold a94;rw[iV,bX8];walk_at "u";have hL:L.1<=4:=by
  have e:n=(allT p cZ<|cs.map lnP).1+L.1:=dO Prod.fst lk.prod
  lia
 refine⟨L.1,L.2,p,rfl,hL,pp,lk.mp,lk.nr,λrs rl=> ?_⟩
 have sp:=SP.of pp (F:=(n,md p g)) n4 lk rl;have e2:(cs.map λx=>vS (lnP x))++rs.map vS=(cs.map lnP++rs).map vS:=by rw[bV,fX];rfl
 walk_at "u"
 rw[e2];refine⟨?_,h _ sp⟩;rw[<-bN,e2,aG];exact aM sp.len ac
noncomputable def stB (xs:List ((Nat×(Nat->Int))×Nat)):Bool:=match xs with
 | [x]=>decide (x.2=1)
 | _=>false
theorem bR5 {p:Int}(hp:2<=p){g a h:Nat×(Nat->Int)}(ma:MP p a.1 a.2)(mh:MP p h.1 h.2): ∀k,powT p (tm p g a) h k=tm p g (powT p a h k)
 | 0=>rfl
 | k+1=>by
  show tm p (powT p (tm p g a) h k) h=tm p g (tm p (powT p a h k) h)
  rw[bR5 hp ma mh k,a92 (MP.powT hp ma mh k).hi]
theorem aZ7 {p:Int}(hp:2<=p){g:Nat×(Nat->Int)}: ∀(l:List ((Nat×(Nat->Int))×Nat)) {a:Nat×(Nat->Int)},MP p a.1 a.2->(∀x∈l,MP p x.1.1 x.1.2)->allT p (tm p g a) l=tm p g (allT p a l)
 | [],a,_,_=>rfl
 | x::l,a,ma,h=>by
  show allT p (powT p (tm p g a) x.1 x.2) l=tm p g (allT p (powT p a x.1 x.2) l)
  rw[bR5 hp ma<|h x<|.head _,aZ7 hp l (MP.powT hp ma (h x<|.head _) x.2) λy hy=>h y (.tail _ hy)]
theorem bY1 {p:Int}{F:Nat×(Nat->Int)}(mp:MP p F.1 F.2)(h2:F.1=2):F=quF (F.2 0) (F.2 1):=by
 refine j9 h2 (funext λj=> ?_)
 show F.2 j=if j=0 then F.2 0 else if j=1 then F.2 1 else if j=2 then 1 else 0
 by_cases c0:j=0
 ·rw[a7 c0,c0]
 ·by_cases c1:j=1
  ·rw[a6 c0,a7 c1,c1]
  ·by_cases c2:j=2
   ·rw[a6 c0,a6 c1,a7 c2,c2];have:=mp.top;rw[h2]at this;exact this
   ·rw[a6 c0,a6 c1,a6 c2];exact mp.hi j ad
theorem mod_of {p X:Int}(k:Int)(h:X=p*k):X%p=0:=by rw[h,Int.mul_emod_right]
theorem c78 {js:List Nat}{cap:List (Option Nat)}{last t0 t1:Nat}{ui:UI}{te:UE}{ρ:Ev}{Q:B->Ev->Prop}(n:Nat)(it i1 i2:Nat->D)(hit: ∀i,i<n->it i= .tup [i1 i,i2 i])(ρ1:Ev)(hui: ∀Q:Nat->(Nat->D)->Ev->Prop,Q n it ρ1->ui ρ Q)(hn:n<=1000000)
  (G:Option B->Option B->List D->Ev) (x0 y0:Option B) (h0:rE (a04 ρ1 js) cap last=G x0 y0 []) (h1: ∀x y l b c,((G x y l).set t0<|some b).set t1 (some c)=G (some b) (some c) l) (h1': ∀x y l,t0< (G x y l).length/\t1< (G x y l).length)
  (h2: ∀x y l (Q:List D->Prop),Q l->oC (G x y l) last Q) (h3: ∀x y l l',(G x y l).set last (some<|.ow l')=G x y l')
  (f:Nat->D) (hte: ∀i l (Q':B->Ev->Prop),i<n->Q' (.pu<|f i) (G (some<|.pu<|i1 i) (some<|.pu<|i2 i) l)->te (G (some<|.pu<|i1 i) (some<|.pu<|i2 i) l) Q') (hq:Q (.ow<|(List.range n).map f) (a04 ρ1 js)) :
  dS js cap last ui (mV<|d8 t0<|d8 t1 mU) (λρ Q=>Q true ρ) te ρ Q:=by
 refine hui _ ⟨λi ρ'=> ∃x y,ρ'=G x y ((List.range i).map f),⟨x0,y0,h0⟩,?_,?_⟩
 ·rintro i ρ' hi ⟨x,y,rfl⟩;rw[hit i hi];refine⟨(h1' _ _ _).1,by rw[eE];exact(h1' _ _ _).2,rfl,?_⟩
  rw[h1];dsimp only;rw[a7 rfl];refine hte i _ _ hi (h2 _ _ _ _ ⟨?_,some<|.pu<|i1 i,some<|.pu<|i2 i,?_⟩)
  ·rw[aG,kX];exact aY hi (aM hn ac)
  ·rw[h3,bW,bV];rfl
 ·rintro ρ' ⟨x,y,rfl⟩;exact h2 _ _ _ _ hq
theorem c79 {js:List Nat}{cap:List (Option Nat)}{last t0:Nat}{ui:UI}{tt:UT}{te:UE}{ρ:Ev}{Q:B->Ev->Prop}(n:Nat)(it:Nat->D)(ρ1:Ev)(hui: ∀Q:Nat->(Nat->D)->Ev->Prop,Q n it ρ1->ui ρ Q)(hn:n<=1000)
  (G:Option B->List D->Ev) (x0:Option B) (h0:rE (a04 ρ1 js) cap last=G x0 []) (h1: ∀x l b,(G x l).set t0 (some b)=G (some b) l) (h1': ∀x l,t0< (G x l).length) (h2: ∀x l (Q:List D->Prop),Q l->oC (G x l) last Q) (h3: ∀x l l',(G x l).set last (some<|.ow l')=G x l')
  (c:Nat->Bool) (P:D->Prop) (htt: ∀i l (Q':Bool->Ev->Prop),i<n->Q' (c i) (G (some<|.pu<|it i) l)->tt (G (some<|.pu<|it i) l) Q')
  (hte: ∀i l (Q':B->Ev->Prop),i<n->c i=true->(∀d,P d->Q' (.pu d) (G (some<|.pu<|it i) l))->te (G (some<|.pu<|it i) l) Q') (hq: ∀l:List D,l.length<=n->(∀d∈l,P d)->Q (.ow l) (a04 ρ1 js)) :
  dS js cap last ui (cC t0) tt te ρ Q:=by
 refine hui _ ⟨λi ρ'=> ∃x l,l.length<=i/\(∀d∈l,P d)/\ρ'=G x l,⟨x0,[],aE _,ae,h0⟩,?_,?_⟩
 ·rintro i ρ' hi ⟨x,l,hl,hP,rfl⟩;refine⟨h1' _ _,?_⟩;rw[h1];dsimp only;refine htt i _ _ hi ?_
  by_cases hc:c i=true
  ·rw[a7 hc];refine hte i _ _ hi hc λd hd=>h2 _ _ _ ⟨?_,some<|.pu<|it i,l++[d],?_,?_,?_⟩
   ·exact nE hl (aY hi<|aM hn ac)
   ·rw[bN];exact Nat.succ_le_succ hl
   ·intro e he;rcases bM.mp he with he|he
    ·exact hP e he
    ·have:e=d:=by simpa using he
     rw[this];exact hd
   ·rw[h3];rfl
  ·rw[a6 hc];exact⟨some<|.pu<|it i,l,aN2 hl,hP,rfl⟩
 ·rintro ρ' ⟨x,l,hl,hP,rfl⟩;exact h2 _ _ _ (hq l hl hP)
noncomputable def bE4 (n:Nat)(f:Nat->Int)(g:Nat×(Nat->Int)):List Int:=rwF (gF (divL g.2 g.1 (n+1-g.1) f)<|n+1) (divL g.2 g.1 (n+1-g.1) f)
noncomputable def ptD (n:Nat)(f:Nat->Int)(x:(Nat×(Nat->Int))×Nat):D:= .tup [aJ<|rwF (x.1.1+1) x.1.2,.int (x.2:Int),aJ<|bE4 n f x.1]
def wN:Φ:=λds Q=> ∃(n:Nat) (f:Nat->Int) (p:Int),ds=[aJ<|rwF (n+1) f,.int p]/\n<=4/\p∈prL/\MP p n (md p f)/\(∀j,(f j).natAbs<=2^9)/\ ∀xs,SP p (n,md p f) xs->Q (.ow<|xs.map<|ptD n f)
def wO:US:=(cY<|dS [0] [none,none,some 0,none] 3 (gR<|aQ qV<|a9 (aB 0)<|a9 (aB 1) aK) (mV<|d8 0<|d8 1 mU) (λρ Q=>Q true ρ)<|i6<|a9 (aB 0)<|a9 (aB 1)<|a9 (uIx (uV<|aQ fP<|a9 (aB 2)<|a9 (aB 0) aK)<|uC<|.int 1) aK)
theorem cQ2 {p:Int}(pp:Pr p){n:Nat}{f:Nat->Int}(n4:n<=4)(fb: ∀j,(f j).natAbs<=2^9){g:Nat×(Nat->Int)}(mg:MP p g.1 g.2)(g4:g.1<=4):d87 (n+1) g.1 9 8 f g.2:=
 ⟨ad,ad,mg.top,mg.hi,λm _=>fb m,λj=>cJ0 pp mg j,ad,ac⟩
theorem bK8: ∀ds Q,wN ds Q->wO {nx:=λ_=>Q (.pu .non),rt:=Q} (init ["f","p"] ds):=by
 rintro ds Q ⟨n,f,p,rfl,n4,hp,mp,fb,h⟩;have pp:=a15 hp;unfold wO;show(cY _:US) _ [some<|.pu<|aJ<|rwF (n+1) f,some<|.pu<|.int p];rw[iV]
 have key: ∀xs,SP p (n,md p f) xs->dS [0] [none,none,some 0,none] 3 (λρ Q=>Q (xs.map vS).length (λi=>(xs.map vS).getD i .non) ρ) (mV<|d8 0<|d8 1 mU) (λρ Q=>Q true ρ) (i6<|a9 (aB 0)<|a9 (aB 1)<|a9 (uIx (uV<|aQ fP<|a9 (aB 2)<|a9 (aB 0) aK)<|uC<|.int 1) aK) [some<|.pu<|aJ<|rwF (n+1) f,some<|.pu<|.int p] λb _=>Q b:=by
  intro xs sp
  refine c78 (t0:=0) (t1:=1) xs.length (λi=>(xs.map vS).getD i .non) (λi=>aJ (rwF ((xs.getD i (cZ,0)).1.1+1) (xs.getD i (cZ,0)).1.2)) (λi=> .int ((xs.getD i (cZ,0)).2:Int)) (λi hi=> ?_) [some<|.pu<|aJ<|rwF (n+1) f,some<|.pu<|.int p] (λQ' q=> ?_) (aM sp.len ac) (λx y l=>[x,y,some<|.pu<|aJ<|rwF (n+1) f,some<|.ow l]) none none rfl (λ_ _ _ _ _=>rfl) (λ_ _ _=>⟨ae,ae⟩) (λ_ _ _ _ q=>q) (λ_ _ _ _=>rfl) (λi=>ptD n f (xs.getD i (cZ,0))) ?_ ?_
  ·rw[aI,b7,aI,aO hi];rfl
  ·rw[aG];exact q
  ·intro i l Q' hi q;have hm:xs.getD i (cZ,0)∈xs:=by
    rw[aI,aO hi];exact bS hi
   obtain⟨mx,x1,x4,_⟩:=sp.mem _ hm;generalize xs.getD i (cZ,0)=x at *;walk_at "u";refine⟨n+1,x.1.1,9,8,f,x.1.2,rfl,cQ2 pp n4 fb mx x4,?_⟩;walk_at "u";rw[at1];exact⟨ac,q⟩
  ·have e:(List.range xs.length).map (λi=>ptD n f (xs.getD i (cZ,0)))=xs.map (ptD n f):=by
    apply kY
    ·simp
    ·intro i h1 h2;simp at h1;simp[aI,h1]
   rw[e];exact h xs sp
 exact⟨n,f,p,rfl,n4,hp,mp,λxs sp=>key xs sp⟩
structure RF (n:Nat)(f:Nat->Int):Prop where
 n1:1<=n
 n4:n<=4
 top:f n=1
 hi: ∀j,n<j->f j=0
 fb: ∀j,(f j).natAbs<=2^9
theorem RF.mp {n:Nat}{f:Nat->Int}(h:RF n f){p:Int}(hp:2<=p):MP p n (md p f):=by
 refine⟨?_,λj hj=> ?_,λj=>⟨bY _ ad,bX _ ad⟩⟩
 ·show f n%p=1
  rw[h.top];exact dU ac ad
 ·show f j%p=0
  rw[h.hi j hj,dL]
def PRow (n:Nat)(f:Nat->Int)(size:Int)(d:D):Prop:= ∃(p:Int) (xs:List ((Nat×(Nat->Int))×Nat)),p∈prL/\size%(p*p)=0/\SP p (n,md p f) xs/\d= .tup [.int p,.lst<|xs.map<|ptD n f]
def uM:Φ:=λds Q=> ∃(n:Nat) (f:Nat->Int) (size:Int),ds=[aJ<|rwF (n+1) f,.int size]/\RF n f/\ ∀l:List D,l.length<=46->(∀d∈l,PRow n f size d)->Q (.ow l)
def uN:US:=(cY<|dS [0,1] [none,some 0,some 1,none] 3 (gR<|aQ kN aK) (cC 0) (gA<|uOp (jH false) (uOp oJ (aB 2)<|uOp hZ (aB 0)<|aB 0)<|uC<|.int 0)<|i6<|a9 (aB 0)<|a9 (aQ wN<|a9 (aB 1)<|a9 (aB 0) aK) aK)
theorem bE5: ∀ds Q,uM ds Q->uN {nx:=λ_=>Q (.pu .non),rt:=Q} (init ["f","s"] ds):=by
 rintro ds Q ⟨n,f,size,rfl,rf,h⟩;unfold uN;show(cY _:US) _ [some<|.pu<|aJ<|rwF (n+1) f,some<|.pu<|.int size];rw[iV]
 refine c79 (t0:=0) 46 (λi=>(T_SMALL_PRIMES.map D.int).getD i .non) [some<|.pu<|aJ<|rwF (n+1) f,some<|.pu<|.int size] (λQ' q=> ?_) ac (λx l=>[x,some<|.pu<|aJ<|rwF (n+1) f,some<|.pu<|.int size,some<|.ow l]) none rfl (λ_ _ _=>rfl) (λ_ _=>cQ _) (λ_ _ _ q=>q) (λ_ _ _=>rfl)
  (λi=>decide (size%(T_SMALL_PRIMES.getD i 0*T_SMALL_PRIMES.getD i 0)=0)) (PRow n f size) ?_ ?_ (λl hl hP=>h l hl hP)
 ·exact⟨rfl,q⟩
 ·intro i l Q' hi q;have e:(T_SMALL_PRIMES.map D.int).getD i .non= .int (T_SMALL_PRIMES.getD i 0):=by
   have hi':i<T_SMALL_PRIMES.length:=by rw[bX9];exact hi
   rw[aI,b7,aI,aO hi'];rfl
  have hm:T_SMALL_PRIMES.getD i 0∈T_SMALL_PRIMES:=by
   have hi':i<T_SMALL_PRIMES.length:=by rw[bX9];exact hi
   rw[aI,aO hi'];exact bS hi'
  obtain⟨p2,p3⟩:=tp_ok _ hm;rw[e]at q⊢;generalize T_SMALL_PRIMES.getD i 0=p at *;have pq:0<p*p:=Int.mul_pos ad ad
  walk_at "u"
  refine⟨cmL ad ad,ad,?_⟩
  rw[dE _ pq];exact q
 ·intro i l Q' hi hc q;have e:(T_SMALL_PRIMES.map D.int).getD i .non= .int (T_SMALL_PRIMES.getD i 0):=by
   have hi':i<T_SMALL_PRIMES.length:=by rw[bX9];exact hi
   rw[aI,b7,aI,aO hi'];rfl
  have hm:T_SMALL_PRIMES.getD i 0∈prL:=by
   have hi':i<T_SMALL_PRIMES.length:=by rw[bX9];exact hi
   rw[d90,aI,aO hi'];exact bS hi'
  have pp:=a15 hm;have hc':=tM hc;rw[e]at q⊢;generalize T_SMALL_PRIMES.getD i 0=p at *;walk_at "u";refine⟨n,f,p,rfl,rf.n4,hm,rf.mp pp.lo,rf.fb,λxs sp=> ?_⟩
  walk_at "u"
  exact⟨ac,q _ ⟨p,xs,hm,hc',sp,rfl⟩⟩
theorem cW6 {p:Int}(hp:2<=p){F:Nat×(Nat->Int)}{xs:List ((Nat×(Nat->Int))×Nat)}(sp:SP p F xs){x:(Nat×(Nat->Int))×Nat}(hx:x∈xs)(h2:2<=x.2): ∃R:Nat×(Nat->Int),MP p R.1 R.2/\F=tm p (tm p x.1 x.1) R:=by
 obtain⟨l,m,rfl⟩:=aM9 hx;obtain⟨k,hk⟩: ∃k,x.2=k+2:=⟨x.2-2,aa⟩
 have mx:=(sp.mem x hx).1;have ml: ∀y∈l,MP p y.1.1 y.1.2:=λy hy=>(sp.mem y<|tH _ hy).1
 have mm: ∀y∈m,MP p y.1.1 y.1.2:=λy hy=>(sp.mem y<|fJ _<|.tail _ hy).1
 have mA:=MP.allT hp l (MP.one hp) ml;have mP:=MP.powT hp mA mx k;have mxx:=MP.tm hp mx mx;refine⟨allT p (powT p (allT p cZ l) x.1 k) m,MP.allT hp m mP mm,?_⟩;rw[<-sp.prod,l8];show allT p (powT p (allT p cZ l) x.1 x.2) m=_;rw[hk];show allT p (tm p (tm p (powT p (allT p cZ l) x.1 k) x.1) x.1) m=_;rw[<-a92 mx.hi,aF0 mP.hi mxx.hi,aZ7 hp m mP mm]
structure dM6 (n:Nat)(f:Nat->Int)(size p:Int)(g:Nat×(Nat->Int)):Prop where
 pr:p∈prL
 sq:size%(p*p)=0
 mg:MP p g.1 g.2
 g1:1<=g.1
 g4:g.1<=4
 tw: ∃R:Nat×(Nat->Int),MP p R.1 R.2/\(n,md p f)=tm p (tm p g g) R
 all: ∀c∈bE4 n f g,c%(p*p)=0
noncomputable def dM7 (n:Nat)(f:Nat->Int)(g:Nat×(Nat->Int)):List Int:=rwF (gF (divQ g.2 g.1 (n+1-g.1) f)<|n+1-g.1) (divQ g.2 g.1 (n+1-g.1) f)
def sD:Φ:=λds Q=> ∃(n:Nat) (f:Nat->Int) (size:Int) (l:List D),ds=[aJ<|rwF (n+1) f,.lst l]/\RF n f/\l.length<=46/\(∀d∈l,PRow n f size d)/\Q (.pu .non)/\ ∀p g,dM6 n f size p g->Q (.pu<|.tup [.int p,aJ<|dM7 n f g])
def aZ8:US:=(cY<|uC .non)
def sE:US:=(aU (jD (gR<|aB 1) (mV<|d8 2<|d8 3 mU)<|jD (gR<|aB 3) (mV<|d8 4<|d8 5<|d8 6 mU)<|jA (cU5 (gA<|uOp (sS λi j=>decide (j<=i)) (aB 5)<|uC<|.int 2)<|gA<|aQ d38<|a9 (dS [2] [none,some 2,none] 2 (gR<|aB 6) (cC 0) (λρ Q=>Q true ρ)<|uOp (jH false) (uOp oJ (aB 0)<|uOp hZ (aB 1)<|aB 1)<|uC<|.int 0) aK) (cY<|i6<|a9 (aB 2)<|a9 (uIx (uV<|aQ fP<|a9 (aB 0)<|a9 (aB 4) aK)<|uC<|.int 0) aK) gB) aZ8)
theorem b58: ∀ds Q,sD ds Q->sE {nx:=λ_=>Q (.pu .non),rt:=Q} (init ["f","r","p","a","g","o","c"] ds):=by
 rintro ds Q ⟨n,f,size,l,rfl,rf,l46,hP,h0,h1⟩;unfold sE;show(aU _ _:US) _ [some<|.pu<|aJ<|rwF (n+1) f,some<|.pu<|.lst l,none,none,none,none,none];rw[aR];refine bJ l.length (λi=>l.getD i .non) [some<|.pu<|aJ<|rwF (n+1) f,some<|.pu<|.lst l,none,none,none,none,none] (λQ' q=>q)
  (λi ρ=> ∃a b c d e,ρ=[some<|.pu<|aJ<|rwF (n+1) f,some<|.pu<|.lst l,a,b,c,d,e]) ⟨none,none,none,none,none,rfl⟩ ?_ ?_
 ·rintro i ρ hi ⟨a,b,c,d,e,rfl⟩;have hm:l.getD i .non∈l:=by
   rw[aI,aO hi];exact bS hi
  obtain⟨p,xs,hp,hs,sp,e1⟩:=hP _ hm;have pp:=a15 hp;rw[e1];refine⟨ae,ae,rfl,?_⟩
  show(jD _ _ _:US) _ [some<|.pu<|aJ<|rwF (n+1) f,some<|.pu<|.lst l,some<|.pu<|.int p,some<|.pu<|.lst<|xs.map<|ptD n f,c,d,e]
  refine bJ xs.length (λi=>(xs.map<|ptD n f).getD i .non) [some<|.pu<|aJ<|rwF (n+1) f,some<|.pu<|.lst l,some<|.pu<|.int p,some<|.pu<|.lst<|xs.map<|ptD n f,c,d,e] (λQ' q=> ?_)
   (λj ρ=> ∃c d e,ρ=[some<|.pu<|aJ<|rwF (n+1) f,some<|.pu<|.lst l,some<|.pu<|.int p,some<|.pu<|.lst<|xs.map<|ptD n f,c,d,e]) ⟨c,d,e,rfl⟩ ?_ ?_
  ·walk_at "u"
   rw[aG];exact q
  ·rintro j ρ hj ⟨c,d,e,rfl⟩;have hx:xs[j]∈xs:=bS hj;have e2:(xs.map<|ptD n f).getD j .non=ptD n f xs[j]:=by
    rw[aI,b7,aO hj];rfl
   rw[e2];obtain⟨mx,x1,x4,_⟩:=sp.mem _ hx;have tw:2<=xs[j].2->_:=λh2=>cW6 pp.lo sp hx h2
   generalize xs[j]=x at *;refine⟨ae,ae,ae,rfl,?_⟩
   show(jA _ _ _:US) _ [some<|.pu<|aJ<|rwF (n+1) f,some<|.pu<|.lst l,some<|.pu<|.int p,some<|.pu<|.lst<|xs.map<|ptD n f,some<|.pu<|aJ<|rwF (x.1.1+1) x.1.2,some<|.pu<|.int (x.2:Int),some<|.pu<|aJ<|bE4 n f x.1]
   simp only[aJ];walk_at "u"
   by_cases c2:(2:Int)<=(x.2:Int)
   ·rw[a7 c2];have p2:=pp.lo;have p3:=pp.hi;have pq:0<p*p:=Int.mul_pos ad ad
    generalize hr:bE4 n f x.1=r at *;have rl:r.length<=1000:=by
     rw[<-hr];unfold bE4;rw[mY];have:=sT (divL x.1.2 x.1.1 (n+1-x.1.1) f) (n+1);have:=rf.n4
     lia
    refine eV (t0:=0) r.length (λk=>(r.map D.int).getD k .non) [some<|.pu<|.tup<|(rwF (n+1) f).map .int,some<|.pu<|.lst l,some<|.pu<|.int p,some<|.pu<|.lst<|xs.map<|ptD n f,some<|.pu<|.tup<|(rwF (x.1.1+1) x.1.2).map .int,some<|.pu<|.int (x.2:Int),some<|.pu<|.tup<|r.map .int] (λQ' q=> ?_) ad (λx l'=>[x,some<|.pu<|.int p,some<|.ow l']) none rfl (λ_ _ _=>rfl) (λ_ _=>cQ _) (λ_ _ _ q=>q) (λ_ _ _=>rfl) (λk=> .bl (decide (r.getD k 0%(p*p)=0))) ?_ ?_
    ·walk_at "u"
     rw[aG];exact q
    ·intro k l' Q' hk q;have e3:(r.map D.int).getD k .non= .int (r.getD k 0):=by
      rw[aI,b7,aI,aO hk];rfl
     rw[e3]at q⊢;walk_at "u";refine⟨cmL ad ad,ad,?_⟩
     rw[dE _ pq];exact q
    ·have e4:(List.range r.length).map (λk=>D.bl (decide (r.getD k 0%(p*p)=0)))=((List.range r.length).map λk=>decide (r.getD k 0%(p*p)=0)).map D.bl:=by rw[fX];rfl
     rw[e4];dsimp only;rw[a05];dsimp only
     by_cases c3:(((List.range r.length).map λk=>decide (r.getD k 0%(p*p)=0)).all id)=true
     ·rw[a7 c3];walk_at "u";refine⟨n+1,x.1.1,9,8,f,x.1.2,rfl,cQ2 pp rf.n4 rf.fb mx x4,?_⟩;walk_at "u";rw[at0];refine⟨ac,h1 p x.1 ⟨hp,hs,mx,x1,x4,tw ad,λc hc=> ?_⟩⟩
      rw[hr]at hc;obtain⟨k,hk,rfl⟩:=List.mem_iff_getElem.mp hc;rw[eS]at c3;have:=c3 (decide (r.getD k 0%(p*p)=0)) (dM.mpr ⟨k,dX.mpr hk,rfl⟩);have:=tM (show decide (r.getD k 0%(p*p)=0)=true from this)
      rw[aI,aO hk]at this;exact this
     ·rw[a6 c3];exact⟨_,_,_,rfl⟩
   ·rw[a6 c2];exact⟨_,_,_,rfl⟩
  ·rintro ρ ⟨c,d,e,rfl⟩;exact⟨_,_,_,_,_,rfl⟩
 ·rintro ρ ⟨a,b,c,d,e,rfl⟩;exact h0
def aZ9:Φ:=λds Q=> ∃m:Int,ds=[.int m]/\0<=m/\Sm m/\ ∀r:Int,0<=r->r<=m->Q (.pu<|.int r)
def b00:US:=(aU (bT 1<|aB 0)<|aU (bT 2<|uOp aO4 (uOp hX (aB 0)<|uC<|.int 1)<|uC<|.int 2)<|aU (aX9 (gA<|uOp (sS λi j=>decide (i<j)) (aB 2)<|aB 1)<|aU (bT 1<|aB 2)<|bT 2<|uOp aO4 (uOp hX (aB 1)<|uOp aO4 (aB 0)<|aB 1)<|uC<|.int 2)<|pA 1)
theorem Sm.le {i m:Int}(h:Sm m)(h0:0<=i)(h1:i<=m):Sm i:=by
 unfold Sm at h⊢;exact nE ad h
theorem cW7: ∀ds Q,aZ9 ds Q->b00 {nx:=λ_=>Q (.pu .non),rt:=Q} (init ["m","g","b"] ds):=by
 rintro ds Q ⟨m,rfl,m0,ms,h⟩;unfold b00;show(aU _ _:US) _ [some<|.pu<|.int m,none,none];walk_at "u";rw[l7 _ ac]
 refine⟨⟨ac,bC5 ac ac⟩,?_⟩
 refine⟨λn ρ=> ∃g b:Int,ρ=[some<|.pu<|.int m,some<|.pu<|.int g,some<|.pu<|.int b]/\n=g.toNat/\0<=g/\g<=m/\((m=0/\b=0)\/(1<=g/\b=(g+m/g)/2)),⟨_,m,(m+1)/2,rfl,rfl,m0,Int.le_refl _,?_⟩,?_⟩
 ·by_cases z:m=0
  ·subst z;exact .inl ⟨rfl,rfl⟩
  ·right
   rw[Int.ediv_self z];exact⟨ad,rfl⟩
 ·rintro n ρ ⟨g,b,rfl,rfl,g0,gm,hb⟩;walk_at "u";split
  ·rcases hb with⟨rfl,rfl⟩| ⟨g1,rfl⟩
   ·lia
   ·have b1:1<=(g+m/g)/2:=by
     have:1<=m/g:=Int.le_ediv_of_mul_le ad ad
     lia
    rw[l7 _<|show 0< (g+m/g)/2 by lia,l7 _ ac]
    refine⟨⟨ad,ms.le ad ad⟩,⟨ac,bC5 ac ac⟩,_,?_,_,_,rfl,rfl,ad,ad,.inr ⟨b1,rfl⟩⟩
    lia
  ·exact h g g0 gm
noncomputable def ev (p:List Int)(z:Int):Int:=ps (λj=>p.getD j 0) z p.length
theorem ev2 (a b z:Int):ev [a,b,1] z=a+b*z+z*z:=by simp[ev,ps];grind
theorem ev3 (a b c z:Int):ev [a,b,c,1] z=a+b*z+c*(z*z)+z*z*z:=by simp[ev,ps];grind
theorem ev4 (a b c d z:Int):ev [a,b,c,d,1] z=a+b*z+c*(z*z)+d*(z*z*z)+z*z*z*z:=by simp[ev,ps];grind
noncomputable def qq (v u w s:Int):List Int:=[v*w,u*w+v*s,v+w+u*s,u+s,1]
def Red (p:List Int):Prop:=(∃z,ev p z=0)\/ ∃v u w s,p=qq v u w s
theorem fF.cs {p:List Int}(h:fF p):(∃a b,p=[a,b,1])\/(∃a b c,p=[a,b,c,1])\/ ∃a b c d,p=[a,b,c,d,1]:=by
 obtain⟨q,rfl⟩:=h.one;have lo:=h.ok.lo;have hi:=h.ok.hi;rw[bN,yY]at lo hi
 match q,lo,hi with
 | [a,b],_,_=>exact .inl ⟨a,b,rfl⟩
 | [a,b,c],_,_=>exact .inr (.inl ⟨a,b,c,rfl⟩)
 | [a,b,c,d],_,_=>exact .inr (.inr ⟨a,b,c,d,rfl⟩)
 | [],h,_=>simp at h
 | [_],h,_=>simp at h
 | _::_::_::_::_::_,_,h=>simp at h
theorem dM8 {p:List Int}(h:fF p):ev p 0=p.getD 0 0:=by
 rcases h.cs with⟨a,b,rfl⟩| ⟨a,b,c,rfl⟩| ⟨a,b,c,d,rfl⟩
 ·rw[ev2];simp
 ·rw[ev3];simp
 ·rw[ev4];simp
noncomputable def linB (z:Int):Nat->Int:=λj=>[-z,1].getD j 0
theorem bK9 {a b:Int}{m n:Nat}(h1:a.natAbs<=m)(h2:b.natAbs<=n):(a*b).natAbs<=m*n:=by rw[fL];exact j2 h1 h2
def qW:Φ:=λds Q=> ∃m:Int,ds=[.int m]/\m.natAbs<=499/\ ∀l:List Int,(m=0->l=[0])->(∀x∈l,x∣m/\x.natAbs<=499)->Q (.ow<|l.map .int)
def a96:US:=(aU (bT 1<|kF aK)<|aU (jD (aS0<|a9 (uC<|.int 1)<|a9 (uOp hX (aQ cF9<|a9 (aB 0) aK)<|uC<|.int 1) aK) (cC 2)<|jA (gA<|uOp (jH false) (uOp oJ (aB 0)<|aB 2)<|uC<|.int 0) (aU (aO3 1<|aB 2)<|aO3 1<|rD<|aB 2) gB)<|pA 1)
def wP:US:=(aU (jA (gA<|uOp (jH false) (aB 0)<|uC<|.int 0) (cY<|kF<|a9 (uC<|.int 0) aK) gB) a96)
theorem bL0: ∀ds Q,qW ds Q->wP {nx:=λ_=>Q (.pu .non),rt:=Q} (init ["m","f","d"] ds):=by
 rintro ds Q ⟨m,rfl,m9,h⟩;unfold wP;show(aU _ _:US) _ [some<|.pu<|.int m,none,none];rw[aR];walk_at "u"
 by_cases m0:m=0
 ·rw[a7 m0];exact⟨ac,h [0] (λ_=>rfl)<|by simp[m0]⟩
 rw[a6 m0];unfold a96;rw[aR];walk_at "u";refine⟨ac,?_⟩
 refine bJ m.natAbs (λk=> .int (1+k)) [some<|.pu<|.int m,some<|.ow [],none] ?_
  (λi ρ=> ∃(l:List Int) (z:Option B),ρ=[some<|.pu<|.int m,some<|.ow<|l.map .int,z]/\l.length<=2*i/\ ∀x∈l,x∣m/\x.natAbs<=i) ⟨[],none,rfl,ae,ae⟩ ?_ ?_
 ·intro Q' q;walk_at "u";have e:(if m<0 then -m else m)=(m.natAbs:Int):=by split<;>lia
  rw[e];refine⟨ad,?_⟩
  rw[show((m.natAbs:Int)+1-1).toNat=m.natAbs by lia]
  exact q
 ·rintro i ρ hi ⟨l,z,rfl,ll,hl⟩;walk_at "u";refine⟨ae,ad,?_⟩
  rw[dE _<|show(0:Int)<1+(i:Int)by lia]
  split
  ·rename_i hd
   have dv:(1+(i:Int))∣m:=d3 hd;refine⟨?_,?_,l++[1+(i:Int),-(1+(i:Int))],some<|.pu<|.int<|1+(i:Int),?_,?_,λx hx=> ?_⟩
   ·rw[aG];exact aY (show _<2000 by lia) ac
   ·rw[bN,aG];exact aY (show _<2000 by simp;lia) ac
   ·rw[bV];simp
   ·rw[bN];simp;lia
   ·rcases bM.mp hx with hx|hx
    ·have:=hl x hx;exact⟨this.1,ad⟩
    ·rcases aX.mp hx with rfl|hx
     ·exact⟨dv,ad⟩
     ·rw[gJ.mp hx];exact⟨Int.neg_dvd.mpr dv,ad⟩
  ·exact⟨l,_,rfl,ad,λx hx=>⟨(hl x hx).1,by have:=(hl x hx).2;lia⟩⟩
 ·rintro ρ ⟨l,z,rfl,ll,hl⟩;walk_at "u";exact h l (λz=>absurd z m0) λx hx=>⟨(hl x hx).1,by have:=(hl x hx).2;lia⟩
def nV:Φ:=λds Q=> ∃p:List Int,ds=[aJ p]/\fF p/\(p.getD 0 0≠0->Q (.pu .non))/\((∃z,ev p z=0)-> ∀d e,Q<|.pu<|.tup [d,e])
def sL:US:=(cY<|uC .non)
def nW:US:=(aU (jD (gR<|aQ qW<|a9 (uIx (aV 0)<|uC<|.int 0) aK) (cC 1)<|jA (gA<|uOp (jH false) (aQ sU<|a9 (aB 0)<|a9 (aB 1) aK)<|uC<|.int 0) (aU (bT 2<|i6<|a9 (rD<|aB 1)<|a9 (uC<|.int 1) aK)<|cY<|i6<|a9 (aB 2)<|a9 (uIx (uV<|aQ fP<|a9 (aB 0)<|a9 (aB 2) aK)<|uC<|.int 0) aK) gB) sL)
theorem c80 (p:List Int)(j:Nat)(h:p.length<=j):p.getD j 0=0:=by rw[aI,fK h];rfl
theorem aO8: ∀ds Q,nV ds Q->nW {nx:=λ_=>Q (.pu .non),rt:=Q} (init ["p","z","l"] ds):=by
 rintro ds Q ⟨p,rfl,hp,hn,hy⟩;have hlo:=hp.ok.lo;have hhi:=hp.ok.hi;have er:aJ p=aJ (rwF p.length λj=>p.getD j 0):=dO aJ (bX6 p)
 unfold nW;show(aU _ _:US) _ [some<|.pu<|.tup<|p.map .int,none,none];rw[aR];have p0:(p.getD 0 0).natAbs<=499:=fY hp.ok.small 0;unfold jD;simp only[gR];walk_at "u";rw[a88 ad]
 refine⟨p.getD 0 0,rfl,p0,λl l0 lb=> ?_⟩
 dsimp only;rw[aG];refine⟨λi ρ=> ∃z1 z2,ρ=[some<|.pu<|.tup<|p.map .int,z1,z2]/\(p.getD 0 0=0->i=0),⟨none,none,rfl,λ_=>rfl⟩,?_,?_⟩
 ·rintro i ρ hi ⟨z1,z2,rfl,hk⟩;have e3:(l.map D.int).getD i .non= .int (l.getD i 0):=by
   rw[aI,b7,aO hi,aI,aO hi];rfl
  rw[e3];have mem:l.getD i 0∈l:=by rw[aI,aO hi];exact bS hi
  have zb:=(lb _ mem).2;have z0:p.getD 0 0=0->ev p (l.getD i 0)=0:=λc=>by
   rw[l0 c]at hi⊢;have:i=0:=by simp at hi;exact hi
   subst this;show ev p 0=0;rw[dM8 hp,c]
  generalize l.getD i 0=z at zb z0;walk_at "u";refine⟨ae,?_⟩
  refine⟨p.length,9,9,λj=>p.getD j 0,z,by rw[<-bX6];rfl,⟨λj=>aM (fY hp.ok.small j) ac,aM zb ac,ad,ac,ad⟩,?_⟩
  show(if ev p z=0 then _ else _)
  by_cases c:ev p z=0
  ·rw[a7 c];refine⟨ac,?_⟩
   refine⟨p.length,1,9,9,λj=>p.getD j 0,linB z,?_,⟨ad,ac,rfl,λj hj=> ?_,λm hm=>aM (fY hp.ok.small m) ac,λj=> ?_,ad,ac⟩,?_⟩
   ·rw[<-er];rfl
   ·unfold linB;rw[c80];simp;lia
   ·unfold linB;refine fY (b:=2^9) (λx hx=> ?_) j
    simp at hx
    rcases hx with rfl|rfl
    ·rw[natAbs_neg];exact aM zb ac
    ·decide
   ·walk_at "u"
    rw[show ∀a b:D,atI [a,b] 0=some a from λa b=>cS (j:=0) rfl]
    exact⟨ac,hy ⟨z,c⟩ _ _⟩
  ·rw[a6 c];exact⟨_,_,rfl,λq=>absurd (z0 q) c⟩
 ·rintro ρ ⟨z1,z2,rfl,hk⟩;unfold sL;walk_at "u";refine hn λc=> ?_
  have:=hk c;rw[l0 c]at this;simp at this
def wQ:Φ:=λds Q=> ∃t m:Int,ds=[.int t,.int m]/\t.natAbs<=2^20/\m.natAbs<=2^20/\ ∀l:List Int,(∀u∈l,u*(t-u)=m)->Q (.ow<|l.map .int)
def a97:US:=(aU (jA (gA<|uOp (jH true) (uOp hZ (aB 3)<|aB 3)<|aB 2) (cY<|kF aK) gB)<|cY<|kF<|a9 (uOp aO4 (uOp hX (aB 0)<|aB 3)<|uC<|.int 2)<|a9 (uOp aO4 (uOp M.gSub (aB 0)<|aB 3)<|uC<|.int 2) aK)
def a98:US:=(aU (bT 3<|aQ aZ9<|a9 (aB 2) aK) a97)
def a99:US:=(aU (jA (gA<|uOp (sS λi j=>decide (i<j)) (aB 2)<|uC<|.int 0) (cY<|kF aK) gB) a98)
def wR:US:=(aU (bT 2<|uOp M.gSub (uOp hZ (aB 0)<|aB 0)<|uOp hZ (uC<|.int 4)<|aB 1) a99)
theorem par {t g m:Int}(h:g*g=t*t-4*m):(t+g)%2=0/\(t-g)%2=0:=by
 have h1:(t-g)*(t+g)=4*m:=by grind
 rcases Int.emod_two_eq (t+g)with c|c
 ·exact⟨c,ad⟩
 ·exfalso
  obtain⟨a,ha⟩: ∃a,t+g=2*a+1:=⟨(t+g)/2,ad⟩
  obtain⟨b,hb⟩: ∃b,t-g=2*b+1:=⟨(t-g)/2,ad⟩
  rw[ha,hb]at h1;have:2*(2*(b*a)+b+a-2*m)+1=0:=by grind
  lia
theorem bL1: ∀ds Q,wQ ds Q->wR {nx:=λ_=>Q (.pu .non),rt:=Q} (init ["t","m","s","g"] ds):=by
 rintro ds Q ⟨t,m,rfl,ht,hm,h⟩;have p20:(2:Nat)^20=1048576:=ac
 have tt:(t*t).natAbs<=2^20*2^20:=bK9 ht ht;unfold wR;show(aU _ _:US) _ [some<|.pu<|.int t,some<|.pu<|.int m,none,none];rw[aR];walk_at "u";refine⟨cmL aa aa,cmL ac ac,?_⟩
 generalize esq:t*t-4*m=sq;have sqb:sq.natAbs<=2^60:=by
  have:(2:Nat)^60=1152921504606846976:=ac
  have:(2:Nat)^20*2^20=1099511627776:=ac
  omega
 have p60:(2:Nat)^60=1152921504606846976:=ac
 unfold a99;rw[aR];walk_at "u"
 by_cases s0:sq<0
 ·rw[a7 s0];exact⟨ac,h [] ae⟩
 rw[a6 s0];unfold a98;rw[aR];walk_at "u";refine⟨sq,rfl,aa,Sm.pow sqb ac,λg g0 g1=> ?_⟩
 unfold a97;dsimp only;rw[aR];walk_at "u";refine⟨cmL aa aa,?_⟩
 by_cases c:g*g=sq
 ·rw[a6 λz=>z c,l7 _ ac,l7 _ ac]
  have pp:=par (t:=t) (g:=g) (m:=m) (by rw[c,esq])
  refine⟨⟨ac,bC5 ac ac⟩,⟨ac,bC5 ac ac⟩,ac,?_⟩
  refine h [(t+g)/2,(t-g)/2] λu hu=> ?_
  have:4*(u*(t-u))=4*m:=by
   rcases aX.mp hu with rfl|hu
   ·obtain⟨y,hy⟩: ∃y,(t+g)/2=y:=⟨_,rfl⟩;have:g=2*y-t:=aa
    rw[hy];rw[this]at c
    grind
   ·rw[gJ.mp hu];obtain⟨y,hy⟩: ∃y,(t-g)/2=y:=⟨_,rfl⟩;have:g=t-2*y:=aa
    rw[hy];rw[this]at c
    grind
  omega
 ·rw[a7 c];exact⟨ac,h [] ae⟩
def d99 (g:UG)(tb:US)(E:UD)(b:B)(ρ1:Ev):Prop:=match pB b.d with
 | some l=> ∃Pv:Nat->Ev->Prop,Pv 0 ρ1/\(∀i ρ,i<l.length->Pv i ρ->g (.pu<|l.getD i .non) ρ λρ2=>tb {E with nx:=Pv (i+1),ct:=Pv (i+1),bk:=E.nx} ρ2)/\ ∀ρ,Pv l.length ρ->E.nx ρ
 | none=>False
theorem bE6 {φ:Φ}{t:UA}{g:UG}{tb:US}{E:UD}{ρ:Ev}:jD (gR<|aQ φ t) g tb E ρ=t ρ λds ρ1=>φ ds λb=>d99 g tb E b ρ1:=rfl
theorem b36 {g:UG}{tb:US}{E:UD}{ρ1:Ev}(l:List Int)(Pv:Nat->Ev->Prop)(h0:Pv 0 ρ1)(hs: ∀i ρ,i<l.length->Pv i ρ->g (.pu<|.int<|l.getD i 0) ρ λρ2=>tb {E with nx:=Pv (i+1),ct:=Pv (i+1),bk:=E.nx} ρ2)(hd: ∀ρ,Pv l.length ρ->E.nx ρ):d99 g tb E (.ow<|l.map .int) ρ1:=by
 show ∃Pv:Nat->Ev->Prop,Pv 0 ρ1/\(∀i ρ,i< (l.map D.int).length->Pv i ρ->g (.pu<|(l.map D.int).getD i .non) ρ λρ2=>tb {E with nx:=Pv (i+1),ct:=Pv (i+1),bk:=E.nx} ρ2)/\ ∀ρ,Pv (l.map D.int).length ρ->E.nx ρ
 rw[aG];refine⟨Pv,h0,λi ρ hi hp=> ?_,hd⟩
 have e3:(l.map D.int).getD i .non= .int (l.getD i 0):=by
  rw[aI,b7,aO hi,aI,aO hi];rfl
 rw[e3];exact hs i ρ hi hp
theorem bR6 {l:List Int}{i:Nat}(hi:i<l.length):l.getD i 0∈l:=by rw[aI,aO hi];exact bS hi
def kI:Φ:=λds Q=> ∃a b c d:Int,ds=[aJ [a,b,c,d,1]]/\(∀x∈[a,b,c,d],x.natAbs<=499)/\a≠0/\Q (.pu .non)/\((∃v u w s,[a,b,c,d,1]=qq v u w s)-> ∀x y,Q<|.pu<|.tup [x,y])
def kJ:US:=(aU (jD (gR<|aQ qW<|a9 (uIx (aV 0)<|uC<|.int 0) aK) (cC 1)<|aU (bT 2<|uOp aO4 (uIx (aV 0)<|uC<|.int 0)<|aB 1)<|jD (gR<|aQ wQ<|a9 (uIx (aV 0)<|uC<|.int 3)<|a9 (uOp M.gSub (uOp M.gSub (uIx (aV 0)<|uC<|.int 2)<|aB 1)<|aB 2) aK) (cC 3)<|aU (bT 4<|uOp M.gSub (uIx (aV 0)<|uC<|.int 3)<|aB 3)<|jA (gA<|uOp (jH false) (uOp hX (uOp hZ (aB 3)<|aB 2)<|uOp hZ (aB 1)<|aB 4)<|uIx (aV 0)<|uC<|.int 1) (cY<|i6<|a9 (i6<|a9 (aB 1)<|a9 (aB 3)<|a9 (uC<|.int 1) aK)<|a9 (i6<|a9 (aB 2)<|a9 (aB 4)<|a9 (uC<|.int 1) aK) aK) gB)<|cY<|uC .non)
theorem cW8 {u t m:Int}(h:u*(t-u)=m)(ht:t.natAbs<=2^20)(hm:m.natAbs<=2^20):u.natAbs<=2^20:=by
 by_cases c:t-u=0
 ·have:u=t:=ad
  rw[this];exact ht
 ·have h1:m.natAbs=u.natAbs*(t-u).natAbs:=by rw[<-h,fL]
  have h2:u.natAbs*1<=u.natAbs*(t-u).natAbs:=tK _ ad
  lia
theorem a70: ∀ds Q,kI ds Q->kJ {nx:=λ_=>Q (.pu .non),rt:=Q} (init ["p","v","w","u","s"] ds):=by
 rintro ds Q ⟨a,b,c,d,rfl,hs,a0,hn,hy⟩;simp only[aL9]at hs;obtain⟨ha,hb,hc,hd,_⟩:=hs;have p20:(2:Nat)^20=1048576:=ac
 unfold kJ;show(aU _ _:US) _ [some<|.pu<|.tup [.int a,.int b,.int c,.int d,.int 1],none,none,none,none];have i0:atI [D.int a,.int b,.int c,.int d,.int 1] 0=some (.int a):=cS (j:=0) rfl;have i1:atI [D.int a,.int b,.int c,.int d,.int 1] 1=some (.int b):=cS (j:=1) rfl;have i2:atI [D.int a,.int b,.int c,.int d,.int 1] 2=some (.int c):=cS (j:=2) rfl
 have i3:atI [D.int a,.int b,.int c,.int d,.int 1] 3=some (.int d):=cS (j:=3) rfl;rw[aR,bE6];walk_at "u";rw[i0];refine⟨a,rfl,ha,λl _ lb=> ?_⟩
 refine b36 l (λi ρ=> ∃z1 z2 z3 z4,ρ=[some<|.pu<|.tup [.int a,.int b,.int c,.int d,.int 1],z1,z2,z3,z4]) ⟨none,none,none,none,rfl⟩ ?_ ?_
 ·rintro i ρ hi ⟨z1,z2,z3,z4,rfl⟩;obtain⟨vd,vb⟩:=lb _ (bR6 hi);generalize l.getD i 0=v at vb vd;obtain⟨w,rfl⟩:=vd;have v0:v≠0:=λz=>a0 (by rw[z,gM])
  have wb:w.natAbs<=499:=by
   rw[fL]at ha;have:1*w.natAbs<=v.natAbs*w.natAbs:=aL6 _ ad
   lia
  refine⟨ae,?_⟩
  show(aU _ _:US) _ [some<|.pu<|.tup [.int<|v*w,.int b,.int c,.int d,.int 1],some<|.pu<|.int v,z2,z3,z4]
  rw[aR,lN];walk_at "u";rw[i0];dsimp only;rw[Int.mul_fdiv_cancel_left _ v0];refine⟨⟨v0,bC5 ad ad⟩,?_⟩
  rw[bE6];walk_at "u";rw[i3,i2];dsimp only;refine⟨d,c-v-w,rfl,ad,ad,λus hus=> ?_⟩
  refine b36 us (λj ρ=> ∃z3 z4,ρ=[some<|.pu<|.tup [.int<|v*w,.int b,.int c,.int d,.int 1],some<|.pu<|.int v,some<|.pu<|.int w,z3,z4]) ⟨_,_,rfl⟩ ?_ ?_
  ·rintro j ρ hj ⟨z3,z4,rfl⟩;have um:=hus _ (bR6 hj);generalize us.getD j 0=u at um;have ub:=cW8 um ad ad
   refine⟨ae,?_⟩
   show(aU _ _:US) _ [some<|.pu<|.tup [.int<|v*w,.int b,.int c,.int d,.int 1],some<|.pu<|.int v,some<|.pu<|.int w,some<|.pu<|.int u,z4]
   rw[aR];walk_at "u";rw[i3];dsimp only;rw[i1];refine⟨cmL ad ad,cmL ad ad,?_⟩
   dsimp only
   by_cases q:u*w+v*(d-u)=b
   ·rw[a7 q];refine⟨ac,ac,ac,hy ⟨v,u,w,d-u,?_⟩ _ _⟩
    unfold qq;rw[<-q];have e1:v+w+u*(d-u)=c:=by rw[um];lia
    have e2:u+(d-u)=d:=ad
    rw[e1,e2]
   ·rw[a6 q];exact⟨_,_,rfl⟩
  ·rintro ρ ⟨z3,z4,rfl⟩;exact⟨_,_,_,_,rfl⟩
 ·rintro ρ ⟨z1,z2,z3,z4,rfl⟩;walk_at "u";exact hn
def aO9:Φ:=λds Q=> ∃p:List Int,ds=[aJ p]/\fF p/\Q (.pu .non)/\(Red p-> ∀x y,Q<|.pu<|.tup [x,y])
def rM:US:=(pA 1)
def aA0:US:=(aU (jA (cU5 (gA<|bK3 false<|aB 1)<|gA<|uOp (jH false) (kO<|aV 0)<|uC<|.int 5) (bT 1<|aQ kI<|a9 (aB 0) aK) gB) rM)
def b37:US:=(aU (bT 1<|aQ nV<|a9 (aB 0) aK) aA0)
def aP0:US:=(aU (aS2<|aQ i4<|a9 (aB 0) aK) b37)
theorem cJ1: ∀ds Q,aO9 ds Q->aP0 {nx:=λ_=>Q (.pu .non),rt:=Q} (init ["p","q"] ds):=by
 rintro ds Q ⟨p,rfl,hp,hn,hy⟩;unfold aP0;show(aU _ _:US) _ [some<|.pu<|.tup<|p.map .int,none];rw[aR];walk_at "u";refine⟨p,rfl,hp,?_⟩;try dsimp only
 unfold b37;rw[aR];walk_at "u";refine⟨p,rfl,hp,λnr=> ?_,λred x y=> ?_⟩
 ·try dsimp only
  unfold aA0;rw[aR];walk_at "u";rw[aG]
  by_cases c:(p.length:Int)=5
  ·simp only[c,bZ];have sm:=hp.ok.small;rcases hp.cs with⟨a,b,rfl⟩| ⟨a,b,c',rfl⟩| ⟨a,b,c',d,rfl⟩
   ·simp at c
   ·simp at c
   ·simp only[aL9]at sm;refine⟨a,b,c',d,rfl,by simp only[aL9];exact⟨sm.1,sm.2.1,sm.2.2.1,sm.2.2.2.1,ae⟩,nr,?_,λq x y=> ?_⟩
    ·unfold rM;walk_at "u";exact hn
    ·unfold rM;walk_at "u";exact hy (.inr q) _ _
  ·simp only[c,bZ,eG];unfold rM;walk_at "u";exact hn
 ·try dsimp only
  unfold aA0;rw[aR];walk_at "u";unfold rM;walk_at "u";exact hy (.inl red) _ _
noncomputable def fOf (p:List Int):Nat->Int:=λj=>p.getD j 0
theorem fF.rf {p:List Int}(h:fF p):RF (p.length-1) (fOf p):=by
 have lo:=h.ok.lo;have hi:=h.ok.hi;refine⟨aa,aa,?_,λj hj=> ?_,λj=> ?_⟩
 ·obtain⟨q,rfl⟩:=h.one;show(q++[1]).getD _ 0=1;rw[bN,aI,gU ae]
  simp
 ·show p.getD j 0=0
  rw[aI,fK aa]
  rfl
 ·exact aM (fY h.ok.small j) ac
theorem fF.row {p:List Int}(h:fF p):aJ p=aJ (rwF (p.length-1+1)<|fOf p):=by
 have lo:=h.ok.lo;have e:=bX6 p;rw[show p.length-1+1=p.length by omega]
 exact dO aJ e
def rN:Φ:=λds Q=> ∃(r:List Int) (k:Int),ds=[aJ r,.int k]/\r.length<=1000/\ -1000<=k/\k<=1000/\Q (.pu<|aJ<|r++replicate (k-(r.length:Int)).toNat 0)
def aA1:US:=(cY<|uOp hX (aB 0)<|uOp bQ1 (i6<|a9 (uC<|.int 0) aK)<|uOp M.gSub (aB 1)<|kO<|aV 0)
theorem c81: ∀ds Q,rN ds Q->aA1 {nx:=λ_=>Q (.pu .non),rt:=Q} (init ["r","s"] ds):=by
 rintro ds Q ⟨r,k,rfl,hr,k0,k1,h⟩;unfold aA1;simp only[aJ];show(cY _:US) _ [some<|.pu<|.tup<|r.map .int,some<|.pu<|.int k];walk_at "u";rw[aG];have e:(replicate (k-(r.length:Int)).toNat [D.int 0]).flatten=(replicate (k-(r.length:Int)).toNat 0).map D.int:=aT2 _ _;rw[e,<-bV];refine⟨ac,⟨ae,ad,ad,aM (show 1*(k-(r.length:Int)).toNat<=1000 by lia) ac⟩,?_,h⟩
 rw[aG,tG];exact aM (show r.length+(k-(r.length:Int)).toNat<=3000 by lia) ac
def jE:ΦX:=λds Q Ex=> ∃p:List Int,ds=[aJ p]/\fF p/\Q (.pu .non)/\(Red p-> ∀es,Ex "FallsApart" es)
def mO:USX:=(λEx=>aU ((λ_=>(bT 1<|aQ aO9<|a9 (aB 0) aK)) Ex) ((λEx=>jA (gA<|bK3 true<|aB 1) ((aS9 "FallsApart" (uIx (aV 1)<|uC<|.int 0)<|uIx (aV 1)<|uC<|.int 1) Ex) ((λ_=>gB) Ex)) Ex))
theorem aA2: ∀ds Q Ex,jE ds Q Ex->ds.length=1:=by rintro ds Q Ex ⟨p,rfl,_⟩;rfl
theorem aG7: ∀ds Q Ex,jE ds Q Ex->mO Ex {nx:=λ_=>Q (.pu .non),rt:=Q} (init ["p","q"] ds):=by
 rintro ds Q Ex ⟨p,rfl,rp,h0,h1⟩;unfold mO;dsimp only;show(aU _ _:US) _ [some<|.pu<|aJ p,none];rw[aR];walk_at "u";refine⟨p,rfl,rp,?_,λred x y=> ?_⟩
 ·walk_at "u"
  simpa using h0
 ·walk_at "u"
  simp only[at0,at1];exact h1 red _
def lP:ΦX:=λds Q Ex=> ∃(p:List Int) (size:Int),ds=[aJ p,.int size]/\fF p/\Q (.pu .non)/\((∃q g,dM6 (p.length-1) (fOf p) size q g)-> ∀es,Ex "NotWhole" es)
def qH:USX:=(λEx=>aU ((λ_=>(bT 2<|aQ sD<|a9 (aB 0)<|a9 (aQ uM<|a9 (aB 0)<|a9 (aB 1) aK) aK)) Ex) ((λEx=>jA (gA<|bK3 true<|aB 2) ((λEx=>aU ((λ_=>(cF5 (aB 2)<|mV<|d8 3<|d8 4 mU)) Ex) ((aS9 "NotWhole" (aB 3)<|aQ rN<|a9 (aQ cX<|a9 (dS [3] [none,some 3,none] 2 (gR<|aB 4) (cC 0) (λρ Q=>Q true ρ)<|uOp oJ (aB 0)<|aB 1) aK)<|a9 (uOp M.gSub (kO<|aV 0)<|uC<|.int 1) aK) Ex)) Ex) ((λ_=>gB) Ex)) Ex))
theorem aU2: ∀ds Q Ex,lP ds Q Ex->ds.length=2:=by rintro ds Q Ex ⟨p,size,rfl,_⟩;rfl
theorem b01: ∀ds Q Ex,lP ds Q Ex->qH Ex {nx:=λ_=>Q (.pu .non),rt:=Q} (init ["p","s","o","q","f"] ds):=by
 rintro ds Q Ex ⟨p,size,rfl,rp,h0,h1⟩;have rf:=rp.rf;rw[rp.row];generalize p.length-1=n at *;generalize fOf p=f at *;unfold qH;dsimp only;show(aU _ _:US) _ [some<|.pu<|aJ<|rwF (n+1) f,some<|.pu<|.int size,none,none,none];rw[aR];walk_at "u";refine⟨n,f,size,rfl,rf,λl hl hP=>⟨n,f,size,l,rfl,rf,hl,hP,?_,λq g outs=> ?_⟩⟩
 ·walk_at "u"
  simpa using h0
 ·have pp:=a15 outs.pr;have p2:=pp.lo;have p3:=pp.hi;have ql:(dM7 n f g).length<=5:=by
   unfold dM7;rw[mY];have:=sT (divQ g.2 g.1 (n+1-g.1) f) (n+1-g.1);have:=rf.n4
   lia
  generalize dM7 n f g=r at *;simp only[aJ];walk_at "u";refine⟨ac,ac,trivial,?_⟩
  refine eV (t0:=0) r.length (λk=>(r.map D.int).getD k .non) [some<|.pu<|.tup<|(rwF (n+1) f).map .int,some<|.pu<|.int size,some<|.pu<|.tup [.int q,.tup<|r.map .int],some<|.pu<|.int q,some<|.pu<|.tup<|r.map .int] (λQ' q=> ?_) ad (λx l'=>[x,some<|.pu<|.int q,some<|.ow l']) none rfl (λ_ _ _=>rfl) (λ_ _=>cQ _) (λ_ _ _ q=>q) (λ_ _ _=>rfl) (λk=> .int (r.getD k 0%q)) ?_ ?_
  ·walk_at "u"
   rw[aG];exact q
  ·intro k l' Q' hk q';have e3:(r.map D.int).getD k .non= .int (r.getD k 0):=by
    rw[aI,b7,aI,aO hk];rfl
   rw[e3]at q'⊢;walk_at "u";refine⟨ad,?_⟩
   rw[dE _ ad]
   exact q'
  ·have e4:(List.range r.length).map (λk=>D.int (r.getD k 0%q))=((List.range r.length).map λk=>r.getD k 0%q).map D.int:=by rw[fX];rfl
   rw[e4];have n4:=rf.n4;walk_at "u";refine⟨_,_,rfl,by rw[aG,kX];lia,?_,?_,h1 ⟨q,g,outs⟩ _⟩
   ·rw[aZ];lia
   ·rw[aZ];lia
structure dA0 (p:List Int):Prop where
 rp:fF p
 irr: ¬Red p
 meas:(gC 4<|cJ p).natAbs<=39999
 whole: ¬ ∃q g,dM6 (p.length-1) (fOf p) (gC 4<|cJ p) q g
def yE:ΦM:=λds Q Ex=> ∃p:List Int,ds=[aJ p]/\fF p/\((gC 4<|cJ p).natAbs<=39999->Q [aJ p,.int<|(p.length:Int)-1,.int<|gC 4<|cJ p])/\(Red p-> ∀es,Ex "FallsApart" es)/\(¬dA0 p->Ex "TooGreat" []/\ ∀es,Ex "NotWhole" es)
def bE7:USX:=(λEx=>aU ((λ_=>(aS2<|aQ i4<|a9 (aB 1) aK)) Ex) ((λEx=>aU ((λEx=>aS2 (bW6 jE (a9 (aB 1) aK) Ex)) Ex) ((λEx=>aU ((λ_=>(bT 2<|aQ a13<|a9 (aB 1) aK)) Ex) ((λEx=>aU ((λEx=>jA (gA<|uOp (sS λi j=>decide (j<i)) (aQ cF9<|a9 (aB 2) aK)<|uC<|.int 39999) ((bW7 "TooGreat"<|a9 (uC<|.str "a ring's measure is from -39,999 to 39,999") aK) Ex) ((λ_=>gB) Ex)) Ex) ((λEx=>aS2 (bW6 lP (a9 (aB 1)<|a9 (aB 2) aK) Ex)) Ex)) Ex)) Ex)) Ex))
def bE8:UE:=(aB 1)
def bE9:UE:=(uOp M.gSub (kO<|aV 1)<|uC<|.int 1)
def bF0:UE:=(aB 2)
theorem cW9: ∀ds Q Ex,yE ds Q Ex->ds.length+1=2:=by rintro ds Q Ex ⟨p,rfl,_⟩;rfl
theorem dA1: ∀a ds Q Ex,yE ds Q Ex->bE7 Ex {nx:=λρ=>ρ[0]? =some (some<|.pu<|.adr a)/\bE8 ρ λb1 ρ1=>bE9 ρ1 λb2 ρ2=>bF0 ρ2 λb3 _=>Q [b1.d,b2.d,b3.d],rt:=λ_=>False} (init ["s","p","m"] (.adr a::ds)):=by
 rintro a ds Q Ex ⟨p,rfl,rp,h0,hr,h1⟩;have lo:=rp.ok.lo;unfold bE7;dsimp only;show(aU _ _:US) _ [some<|.pu<|.adr a,some<|.pu<|aJ p,none];rw[aR];walk_at "u";refine⟨p,rfl,rp,?_⟩;walk_at "u";refine⟨p,rfl,rp,?_,hr⟩;refine⟨p,rfl,rp,?_⟩;walk_at "u"
 by_cases c:(39999:Int)< (if gC 4 (cJ p)<0 then -gC 4 (cJ p)else gC 4 (cJ p))
 ·rw[a7 c];refine⟨ac,(h1 λz=> ?_).1⟩
  have:=z.meas;split at c<;>omega
 ·rw[a6 c];have me:(gC 4<|cJ p).natAbs<=39999:=by split at c<;>omega
  refine⟨p,gC 4<|cJ p,rfl,rp,⟨trivial,?_⟩,λo=>(h1 λz=>z.whole o).2⟩
  unfold bE8 bE9 bF0;simp only[aJ];walk_at "u";rw[aG];exact h0 me
noncomputable def bY2 (r:List Int)(m:Int):Bool:=r.any λc=>decide (c%m≠0)
noncomputable def dA2 (p:List Int)(size:Int):Bool:=prL.all λq=>decide (size%(q*q)≠0)||
 ((List.range q.toNat).all (λc=>bY2 (bE4 (p.length-1) (fOf p)<|jC (c:Int)) (q*q))&&
   (decide (p.length≠5)||(List.range q.toNat).all λv=>(List.range q.toNat).all λu=>bY2 (bE4 (p.length-1) (fOf p)<|quF (v:Int) (u:Int)) (q*q)))
theorem bY3 {p:Int}{F:Nat×(Nat->Int)}(mp:MP p F.1 F.2)(h1:F.1=1):F=jC (F.2 0):=by
 refine j9 h1 (funext λj=> ?_)
 show F.2 j=if j=0 then F.2 0 else if j=1 then 1 else 0
 by_cases c0:j=0
 ·rw[a7 c0,c0]
 ·by_cases c1:j=1
  ·rw[a6 c0,a7 c1,c1];have:=mp.top;rw[h1]at this;exact this
  ·rw[a6 c0,a6 c1];exact mp.hi j ad
theorem aU3 {r:List Int}{m:Int}(h: ∀c∈r,c%m=0):bY2 r m=false:=by
 unfold bY2;rw[List.any_eq_false];intro c hc;simp[h c hc]
theorem dA3 {p:List Int}{size:Int}(rp:fF p)(h:dA2 p size=true): ¬ ∃q g,dM6 (p.length-1) (fOf p) size q g:=by
 rintro⟨q,g,o⟩;have lo:=rp.ok.lo;have hi:=rp.ok.hi;have pp:=a15 o.pr;have h1:=eS.mp h q o.pr;rw[zN,dW]at h1;have nz: ¬decide (size%(q*q)≠0)=true:=by rw[fW];exact λz=>z o.sq
 obtain⟨h2,h3⟩:=h1.resolve_left nz;obtain⟨R,mR,e⟩:=o.tw;have dg:p.length-1=g.1+g.1+R.1:=dO Prod.fst e;have g1:=o.g1
 by_cases c1:g.1=1
 ·have eg:=bY3 o.mg c1;have r0:=o.mg.rng 0;have h4:=eS.mp h2 (g.2 0).toNat (dX.mpr ad)
  rw[show(((g.2 0).toNat:Nat):Int)=g.2 0 by lia,<-eg,aU3 o.all]at h4
  cases h4
 ·have c2:g.1=2:=ad
  have eg:=bY1 o.mg c2;have r0:=o.mg.rng 0;have r1:=o.mg.rng 1;have n5: ¬decide (p.length≠5)=true:=by rw[fW];lia
  have h4:=(zN _ _▸h3).resolve_left n5;have h5:=eS.mp (eS.mp h4 (g.2 0).toNat<|dX.mpr ad) (g.2 1).toNat (dX.mpr ad)
  rw[show(((g.2 0).toNat:Nat):Int)=g.2 0 by lia,show(((g.2 1).toNat:Nat):Int)=g.2 1 by lia,<-eg,aU3 o.all]at h5
  cases h5
noncomputable def qI:List (List Int):=[[5,0,1],[-10,0,1],[6,1,1],[-3,0,1],[-1,-1,0,1],[-2,0,0,1],[-1,4,0,1],[1,0,0,0,1],[-1,-1,0,0,1],[1,1,1,1,1],[-2,0,0,0,1],[1,0,-1,0,1]]
theorem c82:qI.all (λp=>dA2 p (gC 4<|cJ p)&&decide ((gC 4<|cJ p).natAbs<=39999))=true:=af
theorem uO: ∀p∈qI,fF p:=by
 intro p hp;have h:qI.all (λp=>decide (3<=p.length)&&decide (p.length<=5)&&p.all (λx=>decide (x.natAbs<=499))&&decide (p=p.dropLast++[1]))=true:=af
 have h1:=eS.mp h p hp;simp only[dW,fW,eS]at h1;exact⟨⟨h1.1.1.1,h1.1.1.2,h1.1.2⟩,p.dropLast,h1.2⟩
theorem cQ3 (f:Nat->Int)(z:Int): ∀n,∃k,ps f z (n+1)=f 0+z*k
 | 0=>⟨0,by show 0+f 0*z^0=_;rw[d5,jZ,bO];lia⟩
 | n+1=>by
  obtain⟨k,hk⟩:=cQ3 f z n;refine⟨k+f (n+1)*z^n,?_⟩;show ps f z (n+1)+f (n+1)*z^(n+1)=_;rw[hk,jY]
  grind
theorem aP1 {z a:Int}(h:z∣a)(ha:a≠0):z.natAbs<=a.natAbs:=Nat.le_of_dvd ad (Int.natAbs_dvd_natAbs.mpr h)
theorem bY4:qI.all (λp=>decide (p.getD 0 0≠0)&&decide ((p.getD 0 0).natAbs<=10)&&(List.range 21).all λk=>decide (ev p ((k:Int)-10)≠0))=true:=af
theorem cJ2:qI.all (λp=>decide (p.length≠5)||(decide ((p.getD 0 0).natAbs<=2)&&decide ((p.getD 2 0).natAbs<=1)&&decide ((p.getD 3 0).natAbs<=1)&&
  (List.range 5).all λv=>(List.range 5).all λw=>(List.range 7).all λu=>(List.range 9).all λs=>decide (p≠qq ((v:Int)-2) ((u:Int)-3) ((w:Int)-2) ((s:Int)-4))))=true:=af
theorem dA4 {u s:Int}(h1:(u+s).natAbs<=1)(h2:(u*s).natAbs<=5):u.natAbs<=3:=by
 refine yV λz=> ?_
 rcases(show 4<=u\/u<= -4 by lia)with c|c
 ·have:4*3<=u*(-s):=Int.mul_le_mul c ad ac ad
  rw[tX]at this
  lia
 ·have:4*3<=(-u)*s:=Int.mul_le_mul ad ad ac ad
  rw[Int.neg_mul]at this
  lia
theorem cX0: ∀p∈qI,¬Red p:=by
 intro p hp;have h1:=eS.mp bY4 p hp;simp only[dW,fW,eS,dX]at h1;obtain⟨⟨a0,a1⟩,a2⟩:=h1;have lo:=(uO p hp).ok.lo;rintro(⟨z,hz⟩| ⟨v,u,w,s,e⟩)
 ·unfold ev at hz;obtain⟨k,hk⟩:=cQ3 (λj=>p.getD j 0) z (p.length-1)
  rw[show p.length-1+1=p.length by omega,hz]at hk
  have dv:z∣p.getD 0 0:=⟨-k,by rw[tX];omega⟩
  have:=aP1 dv a0;refine a2 (z+10).toNat aa ?_
  rw[show(((z+10).toNat:Nat):Int)-10=z by omega]
  exact hz
 ·have h2:=eS.mp cJ2 p hp;have l5:p.length=5:=by rw[e];rfl
  rw[zN]at h2;have h3:=h2.resolve_left (by rw[fW];omega)
  simp only[dW,fW,eS,dX]at h3;obtain⟨⟨⟨b0,b2⟩,b3⟩,b4⟩:=h3;have e0:p.getD 0 0=v*w:=by rw[e];rfl
  have e2:p.getD 2 0=v+w+u*s:=by rw[e];rfl
  have e3:p.getD 3 0=u+s:=by rw[e];rfl
  have v2:=aP1 (z:=v) ⟨w,e0⟩ a0;have w2:=aP1 (z:=w) ⟨v,by rw[e0,gY]⟩ a0
  rw[e2]at b2;rw[e3]at b3;have u3:=dA4 b3 aa
  refine b4 (v+2).toNat aa (w+2).toNat aa (u+3).toNat aa (s+4).toNat aa ?_
  rw[show(((v+2).toNat:Nat):Int)-2=v by omega,show(((w+2).toNat:Nat):Int)-2=w by omega,show(((u+3).toNat:Nat):Int)-3=u by omega,show(((s+4).toNat:Nat):Int)-4=s by omega]
  exact e
theorem c83: ∀p∈qI,dA0 p:=by
 intro p hp;have h1:=eS.mp c82 p hp;simp only[dW,fW]at h1;exact⟨uO p hp,cX0 p hp,h1.2,dA3 (uO p hp) h1.1⟩
noncomputable def fG (C:Addr)(p:List Int):D:= .obj C ["poly","degree","measure"] [aJ p,.int<|(p.length:Int)-1,.int<|gC 4<|cJ p]
theorem rO {ρ:Ev}{i:Nat}{C:Addr}{p:List Int}{Q:B->Ev->Prop}(h:ρ[i]? =some (some<|.pu<|fG C p)):a69 "degree" (aB i) ρ Q=Q (.pu<|.int<|(p.length:Int)-1) ρ:=by
 unfold a69;rw[aT7 h];rfl
theorem aF1 {ρ:Ev}{i:Nat}{C:Addr}{p:List Int}{Q:B->Ev->Prop}(h:ρ[i]? =some (some<|.pu<|fG C p)):a69 "poly" (aB i) ρ Q=Q (.pu<|aJ p) ρ:=by
 unfold a69;rw[aT7 h];rfl
noncomputable def ttF (p:List Int)(n:Nat)(u:Nat->Int):Nat->Int:=λi=>(if i=0 then 0 else u (i-1))-u (n-1)*p.getD i 0
def a17:Φ:=λds Q=> ∃(C:Addr) (p:List Int) (n:Nat) (u:Nat->Int),ds=[fG C p,aJ<|rwF n u]/\fF p/\p.length=n+1/\Q (.pu<|aJ<|rwF n<|ttF p n u)
def aH7:US:=(cY<|aQ cX<|a9 (dS [2,0] [none,some 3,some 2,some 0,none] 4 (gS<|a9 (a69 "degree"<|aB 0) aK) (cC 0) (λρ Q=>Q true ρ)<|uOp M.gSub (uIx (aV 1)<|aB 0)<|uOp hZ (aB 2)<|uIx (uV<|a69 "poly"<|aB 3)<|aB 0) aK)
def aH8:US:=(aU (bT 3<|uOp hX (i6<|a9 (uC<|.int 0) aK)<|uSl (aV 1) i7<|jG<|rD<|uC<|.int 1) aH7)
def a18:US:=(aU (bT 2<|uIx (aV 1)<|rD<|uC<|.int 1) aH8)
theorem bY5: ∀ds Q,a17 ds Q->a18 {nx:=λ_=>Q (.pu .non),rt:=Q} (init ["r","x","l","m"] ds):=by
 rintro ds Q ⟨C,p,n,u,rfl,rp,hn,h⟩;have lo:=rp.ok.lo;have hi:=rp.ok.hi;unfold a18;simp only[aJ];show(aU _ _:US) _ [some<|.pu<|fG C p,some<|.pu<|.tup<|(rwF n u).map .int,none,none];rw[aR];walk_at "u";rw[b34 ad]
 dsimp only;unfold aH8;rw[aR];walk_at "u";have s1:HT.sIx n n (some<|-1)=n-1:=by
  show(if(-1:Int)<0 then(-1+(n:Int)).toNat else min (-1:Int).toNat n)=n-1
  rw[a7 ac]
  lia
 have ec:cutD ((rwF n u).map D.int) none (some<|-1)=(rwF (n-1) u).map D.int:=by
  unfold cutD;rw[aZ,HT.sIx_none,s1,List.drop_zero,tV,<-j4,bD5 _ _ _ ad]
 have em:[D.int 0]++(rwF (n-1) u).map D.int=(rwF n λi=>if i=0 then 0 else u (i-1)).map D.int:=by
  apply kY
  ·simp[rwF];lia
  ·intro k h1 h2;cases k with
   | zero=>simp[rwF]
   | succ k=>simp[rwF]
 rw[ec,em,aZ,aZ,HT.sIx_none,s1];refine⟨ac,ad,aM (show 0+1+(n-1)<=5 by lia) ac,?_⟩
 unfold aH7;rw[iV,eK,dG]
 refine eV (t0:=0) n (λk=> .int (0+(k:Int))) [some<|.pu<|fG C p,some<|.pu<|.tup<|(rwF n u).map .int,some<|.pu<|.int<|u<|n-1,some<|.pu<|.tup<|(rwF n λi=>if i=0 then 0 else u (i-1)).map .int] (λQ' q=> ?_) ad (λx l'=>[x,some<|.pu<|.tup<|(rwF n λi=>if i=0 then 0 else u (i-1)).map .int,some<|.pu<|.int<|u<|n-1,some<|.pu<|fG C p,some<|.ow l']) none rfl (λ_ _ _=>rfl) (λ_ _=>cQ _) (λ_ _ _ q=>q) (λ_ _ _=>rfl) (λk=> .int (ttF p n u k)) ?_ ?_
 ·unfold gS;rw[dG,rO (C:=C) (p:=p) rfl];walk_at "u";refine⟨⟨ad,ad⟩,?_⟩
  rw[show((p.length:Int)-1).toNat=n by lia]
  exact q
 ·intro k l' Q' hk q;rw[bI];have e5:atI (p.map D.int) (k:Int)=some (.int<|p.getD k 0):=cS (by rw[b7,aO ad,aI,aO ad];rfl)
  have e6:=fY rp.ok.small k;walk_at "u";rw[mI hk];dsimp only;rw[aF1 (C:=C) (p:=p) rfl];simp only[aJ];walk_at "u";rw[e5];dsimp only;refine⟨cmR ad ad,?_⟩
  unfold ttF at q;rw[bI]at q;exact q
 ·rw[uI];exact h
noncomputable def itT (p:List Int)(n:Nat)(u:Nat->Int):Nat->Nat->Int
 | 0=>u
 | k+1=>ttF p n (itT p n u k)
def qX:Φ:=λds Q=> ∃(C:Addr) (p:List Int) (n:Nat) (u:Nat->Int),ds=[fG C p,aJ<|rwF n u]/\fF p/\p.length=n+1/\Q (.pu<|.tup<|tbF n n<|itT p n u)
def aA3:US:=(cY<|aQ cX<|a9 (aB 2) aK)
def aA4:US:=(aU (jD (gS<|a9 (uOp M.gSub (a69 "degree"<|aB 0)<|uC<|.int 1) aK) (cC 3)<|aO3 2<|aQ a17<|a9 (aB 0)<|a9 (uIx (aV 2)<|rD<|uC<|.int 1) aK) aA3)
def wS:US:=(aU (bT 2<|kF<|a9 (aB 1) aK) aA4)
theorem dA5 {n m:Nat}{t:Nat->Nat->Int}(h:0<n):atI (tbF n m t) (-1)=some (aJ<|rwF m<|t<|n-1):=by
 unfold L2.atI;have e:ixN (tbF n m t).length (-1)=some (n-1):=by
  unfold ixN;rw[mZ,a6 ac,a7 ad]
  congr 1
  lia
 rw[e];exact aE8 ad
theorem bL2: ∀ds Q,qX ds Q->wS {nx:=λ_=>Q (.pu .non),rt:=Q} (init ["r","x","t","s"] ds):=by
 rintro ds Q ⟨C,p,n,u,rfl,rp,hn,h⟩;have lo:=rp.ok.lo;have hi:=rp.ok.hi;unfold wS;show(aU _ _:US) _ [some<|.pu<|fG C p,some<|.pu<|aJ<|rwF n u,none,none];rw[aR];walk_at "u";refine⟨ac,?_⟩
 unfold aA4;rw[aR];refine bJ (n-1) (λk=> .int (0+(k:Int))) [some<|.pu<|fG C p,some<|.pu<|aJ<|rwF n u,some<|.ow<|tbF 1 n<|itT p n u,none] (λQ' q=> ?_)
  (λk ρ=> ∃x,ρ=[some<|.pu<|fG C p,some<|.pu<|aJ<|rwF n u,some<|.ow<|tbF (k+1) n<|itT p n u,x]) ⟨none,rfl⟩ ?_ ?_
 ·unfold gS;rw[dG,bX8,rO (C:=C) (p:=p) rfl];walk_at "u";refine⟨⟨ad,ad⟩,?_⟩
  rw[show((p.length:Int)-1-1).toNat=n-1 by lia]
  exact q
 ·rintro k ρ hk ⟨x,rfl⟩;walk_at "u";rw[dA5 ad,gW]
  dsimp only;refine⟨ae,C,p,n,itT p n u k,rfl,rp,hn,?_⟩
  walk_at "u"
  rw[mZ];refine⟨aY (show k+1<10 by lia) ac,some<|.pu<|.int<|0+(k:Int),?_⟩
  have e:tbF (k+1) n (itT p n u)++[aJ<|rwF n<|ttF p n<|itT p n u k]=tbF (k+1+1) n (itT p n u):=by
   rw[c67];unfold tbF;apply zE;intro i hi';dsimp only
   by_cases c:i=k+1
   ·rw[a7 c,c];rfl
   ·rw[a6 c]
  rw[e]
 ·rintro ρ ⟨x,rfl⟩;rw[show n-1+1=n by lia]
  dsimp only;unfold aA3;walk_at "u";exact h
noncomputable def bL3 (n:Nat)(f:Nat->Int):Int:=((List.range n).map f).sum
noncomputable def a19 (p:List Int)(n:Nat)(u v:Nat->Int):Nat->Int:=λj=>bL3 n λi=>v i*itT p n u i j
theorem cX1 {p:List Int}{n a:Nat}{u:Nat->Int}(hp: ∀x∈p,x.natAbs<=499)(hu: ∀j,(u j).natAbs<=2^a)(j:Nat):(ttF p n u j).natAbs<=2^(a+9):=by
 unfold ttF;have h1:(if j=0 then(0:Int)else u (j-1)).natAbs<=2^a:=by
  split
  ·simp
  ·exact hu _
 have h2:(u (n-1)*p.getD j 0).natAbs<=2^a*499:=by rw[fL];exact j2 (hu _) (fY hp j)
 have h3:=zG (if j=0 then(0:Int)else u (j-1)) (u (n-1)*p.getD j 0);rw[j8];have:(2:Nat)^9=512:=rfl
 lia
theorem yF {p:List Int}{n a:Nat}{u:Nat->Int}(hp: ∀x∈p,x.natAbs<=499)(hu: ∀j,(u j).natAbs<=2^a): ∀k j,(itT p n u k j).natAbs<=2^(a+9*k)
 | 0,j=>hu j
 | k+1,j=>by
  have:=cX1 (n:=n) hp (λj=>yF (n:=n) hp hu k j) j
  rw[zT,<-pX];exact this
noncomputable def b59 (p:List Int)(n k:Nat)(f:Nat->Int):Nat->Int:=λm=>if k-n<=m/\m<k then f m-f k*p.getD (m-(k-n)) 0 else f m
noncomputable def a71 (p:List Int)(n:Nat)(f:Nat->Int):Nat->Nat->Int
 | 0=>f
 | t+1=>b59 p n (2*n-2-t) (a71 p n f t)
theorem red2 (p:List Int)(u v:Nat->Int)(hu: ∀j,2<=j->u j=0)(hv: ∀j,2<=j->v j=0): ∀j,j<2->a71 p 2 (conv u v 2) 1 j=a19 p 2 u v j
 | 0,_=>by simp[a71,b59,conv,shF,a19,bL3,itT,ttF,bW,hv];grind
 | 1,_=>by simp[a71,b59,conv,shF,a19,bL3,itT,ttF,bW,hv];grind
theorem red3 (p:List Int)(u v:Nat->Int)(hu: ∀j,3<=j->u j=0)(hv: ∀j,3<=j->v j=0): ∀j,j<3->a71 p 3 (conv u v 3) 2 j=a19 p 3 u v j
 | 0,_=>by simp[a71,b59,conv,shF,a19,bL3,itT,ttF,bW,hv];grind
 | 1,_=>by simp[a71,b59,conv,shF,a19,bL3,itT,ttF,bW,hv];grind
 | 2,_=>by simp[a71,b59,conv,shF,a19,bL3,itT,ttF,bW,hv];grind
theorem red4 (p:List Int)(u v:Nat->Int)(hu: ∀j,4<=j->u j=0)(hv: ∀j,4<=j->v j=0): ∀j,j<4->a71 p 4 (conv u v 4) 3 j=a19 p 4 u v j
 | 0,_=>by simp[a71,b59,conv,shF,a19,bL3,itT,ttF,bW,hv];grind
 | 1,_=>by simp[a71,b59,conv,shF,a19,bL3,itT,ttF,bW,hv];grind
 | 2,_=>by simp[a71,b59,conv,shF,a19,bL3,itT,ttF,bW,hv];grind
 | 3,_=>by simp[a71,b59,conv,shF,a19,bL3,itT,ttF,bW,hv];grind
def aU4:Φ:=λds Q=> ∃(p:List Int) (n e:Nat) (u v:Nat->Int),ds=[aJ p,aJ<|rwF n u,aJ<|rwF n v]/\fF p/\p.length=n+1/\e<=8900/\(∀j,(u j).natAbs<=2^e)/\(∀j,(v j).natAbs<=2^e)/\(∀j,n<=j->u j=0)/\(∀j,n<=j->v j=0)/\Q (.pu<|aJ<|rwF n<|a19 p n u v)
def bR7:US:=(cY<|aQ cX<|a9 (uSl (aV 4) i7<|jG<|aB 3) aK)
def bR8:US:=(aU (jD (c48<|a9 (uOp M.gSub (uOp hZ (uC<|.int 2)<|aB 3)<|uC<|.int 2)<|a9 (uOp M.gSub (aB 3)<|uC<|.int 1)<|a9 (rD<|uC<|.int 1) aK) (cC 7)<|jD (gS<|a9 (aB 3) aK) (cC 6)<|aU (bT 8<|uOp hX (uOp M.gSub (aB 7)<|aB 3)<|aB 6)<|bA8 4 (uOp M.gSub (uIx (aV 4)<|aB 8)<|uOp hZ (uIx (aV 4)<|aB 7)<|uIx (aV 0)<|aB 6)<|aB 8) bR7)
def bR9:US:=(aU (jD (gS<|a9 (aB 3) aK) (cC 5)<|jD (gS<|a9 (aB 3) aK) (cC 6)<|bA8 4 (uOp hX (uIx (aV 4)<|uOp hX (aB 5)<|aB 6)<|uOp hZ (uIx (aV 1)<|aB 5)<|uIx (aV 2)<|aB 6)<|uOp hX (aB 5)<|aB 6) bR8)
def bS0:US:=(aU (bT 4<|uOp hZ (kF<|a9 (uC<|.int 0) aK)<|uOp M.gSub (uOp hZ (uC<|.int 2)<|aB 3)<|uC<|.int 1) bR9)
def bF1:US:=(aU (bT 3<|uOp M.gSub (kO<|aV 0)<|uC<|.int 1) bS0)
theorem bY6 {p:List Int}{n:Nat}{u v:Nat->Int}(n2:2<=n)(n4:n<=4)(hu: ∀j,n<=j->u j=0)(hv: ∀j,n<=j->v j=0):rwF n (a71 p n (conv u v n)<|n-1)=rwF n (a19 p n u v):=by
 refine iO λj hj=> ?_
 rcases(show n=2\/n=3\/n=4 by lia)with rfl|rfl|rfl
 ·exact red2 p u v hu hv j hj
 ·exact red3 p u v hu hv j hj
 ·exact red4 p u v hu hv j hj
noncomputable def bL4 (p:List Int)(n k j:Nat)(f:Nat->Int):Nat->Int:=λm=>if k-n<=m/\m<k-n+j then f m-f k*p.getD (m-(k-n)) 0 else f m
theorem dA6: ∀ds Q,aU4 ds Q->bF1 {nx:=λ_=>Q (.pu .non),rt:=Q} (init ["p","x","y","n","r","i","j","k","a"] ds):=by
 rintro ds Q ⟨p,n,e,u,v,rfl,rp,hn,he,hu,hv,uz,vz,h⟩;have lo:=rp.ok.lo;have hi:=rp.ok.hi;unfold bF1;simp only[aJ];show(aU _ _:US) _ [some<|.pu<|.tup<|p.map .int,some<|.pu<|.tup<|(rwF n u).map .int,some<|.pu<|.tup<|(rwF n v).map .int,none,none,none,none,none,none];rw[aR];walk_at "u";rw[aG,show(p.length:Int)-1=(n:Int)by lia]
 unfold bS0;rw[aR];walk_at "u";rw[show 2*(n:Int)-1=((2*n-1:Nat):Int)by lia,cP,bQ9]
 refine⟨ac,cmL ac ac,⟨ad,ad,aM (show 1*(2*n-1)<=300 by lia) ac⟩,?_⟩
 unfold bR9;rw[aR];refine bJ n (λi=> .int (0+i)) [some<|.pu<|.tup<|p.map .int,some<|.pu<|.tup<|(rwF n u).map .int,some<|.pu<|.tup<|(rwF n v).map .int,some<|.pu<|.int (n:Int),some<|.ow<|(rwF (2*n-1) λ_=>0).map .int,none,none,none,none] (λQ' q=> ?_)
  (λi ρ=> ∃x y,ρ=[some<|.pu<|.tup<|p.map .int,some<|.pu<|.tup<|(rwF n u).map .int,some<|.pu<|.tup<|(rwF n v).map .int,some<|.pu<|.int (n:Int),some<|.ow<|(rwF (2*n-1)<|conv u v i).map .int,x,y,none,none]) ⟨none,none,rfl⟩ ?_ ?_
 ·walk_at "u"
  refine⟨⟨ad,ad⟩,?_⟩
  rw[cP];exact q
 ·rintro i ρ hi' ⟨x,y,rfl⟩;rw[bI];refine⟨ae,?_⟩
  show(jD _ _ _:US) _ [some<|.pu<|.tup<|p.map .int,some<|.pu<|.tup<|(rwF n u).map .int,some<|.pu<|.tup<|(rwF n v).map .int,some<|.pu<|.int (n:Int),some<|.ow<|(rwF (2*n-1)<|conv u v i).map .int,some<|.pu<|.int (i:Int),y,none,none]
  refine bJ n (λj=> .int (0+j)) [some<|.pu<|.tup<|p.map .int,some<|.pu<|.tup<|(rwF n u).map .int,some<|.pu<|.tup<|(rwF n v).map .int,some<|.pu<|.int (n:Int),some<|.ow<|(rwF (2*n-1)<|conv u v i).map .int,some<|.pu<|.int (i:Int),y,none,none] (λQ' q=> ?_)
   (λj ρ=> ∃y,ρ=[some<|.pu<|.tup<|p.map .int,some<|.pu<|.tup<|(rwF n u).map .int,some<|.pu<|.tup<|(rwF n v).map .int,some<|.pu<|.int (n:Int),some<|.ow<|(rwF (2*n-1) λm=>if m<i+j then conv u v (i+1) m else conv u v i m).map .int,some<|.pu<|.int (i:Int),y,none,none]) ⟨y,by rw[cI7]⟩ ?_ ?_
  ·walk_at "u"
   refine⟨⟨ad,ad⟩,?_⟩
   rw[cP];exact q
  ·rintro j ρ hj ⟨y,rfl⟩;rw[bI];have hij:i+j<2*n-1:=ad
   have c2:(i:Int)+(j:Int)=((i+j:Nat):Int):=ad
   walk_at "u"
   rw[c2,mI hij,mI hi',mI hj];dsimp only;rw[aZ,bX7 hij,a6<|show ¬i+j<i+j by lia]
   refine⟨ae,.inr ⟨Sm.pow (hu i) ad,Sm.pow (hv j) ad⟩,some<|.pu<|.int (j:Int),?_⟩
   rw[b85 hij,cI9]
  ·rintro ρ ⟨y,rfl⟩;rw[cI8 vz];exact⟨_,_,rfl⟩
 ·rintro ρ ⟨x,y,rfl⟩;dsimp only;unfold bR8;rw[aR];refine bJ (n-1) (λt=> .int ((2*n-2:Nat)-(t:Int))) [some<|.pu<|.tup<|p.map .int,some<|.pu<|.tup<|(rwF n u).map .int,some<|.pu<|.tup<|(rwF n v).map .int,some<|.pu<|.int (n:Int),some<|.ow<|(rwF (2*n-1)<|conv u v n).map .int,x,y,none,none] (λQ' q=> ?_)
   (λt ρ=> ∃y z w,ρ=[some<|.pu<|.tup<|p.map .int,some<|.pu<|.tup<|(rwF n u).map .int,some<|.pu<|.tup<|(rwF n v).map .int,some<|.pu<|.int (n:Int),some<|.ow<|(rwF (2*n-1)<|a71 p n (conv u v n) t).map .int,x,y,z,w]) ⟨y,none,none,rfl⟩ ?_ ?_
  ·walk_at "u"
   refine⟨cmL ac ac,trivial,⟨ad,ad,ad,ad⟩,?_⟩
   rw[show(2*(n:Int)-2-((n:Int)-1)).toNat=n-1 by lia,show 2*(n:Int)-2=((2*n-2:Nat):Int)by lia]
   exact q
  ·rintro t ρ ht ⟨y,z,w,rfl⟩;obtain⟨k,hk⟩: ∃k:Nat,k=2*n-2-t:=⟨_,rfl⟩;rw[show((2*n-2:Nat):Int)-(t:Int)=(k:Int)by lia]
   generalize hf:a71 p n (conv u v n) t=f;refine⟨ae,?_⟩
   show(jD _ _ _:US) _ [some<|.pu<|.tup<|p.map .int,some<|.pu<|.tup<|(rwF n u).map .int,some<|.pu<|.tup<|(rwF n v).map .int,some<|.pu<|.int (n:Int),some<|.ow<|(rwF (2*n-1) f).map .int,x,y,some<|.pu<|.int (k:Int),w]
   refine bJ n (λj=> .int (0+j)) [some<|.pu<|.tup<|p.map .int,some<|.pu<|.tup<|(rwF n u).map .int,some<|.pu<|.tup<|(rwF n v).map .int,some<|.pu<|.int (n:Int),some<|.ow<|(rwF (2*n-1) f).map .int,x,y,some<|.pu<|.int (k:Int),w] (λQ' q=> ?_)
    (λj ρ=> ∃y w,ρ=[some<|.pu<|.tup<|p.map .int,some<|.pu<|.tup<|(rwF n u).map .int,some<|.pu<|.tup<|(rwF n v).map .int,some<|.pu<|.int (n:Int),some<|.ow<|(rwF (2*n-1)<|bL4 p n k j f).map .int,x,y,some<|.pu<|.int (k:Int),w]) ⟨y,w,?_⟩ ?_ ?_
   ·walk_at "u"
    refine⟨⟨ad,ad⟩,?_⟩
    rw[cP];exact q
   ·have e0:bL4 p n k 0 f=f:=funext λm=>by unfold bL4;rw[a6 ad]
    rw[e0]
   ·rintro j ρ hj ⟨y,w,rfl⟩;rw[bI];have hat:k-n+j<2*n-1:=ad
    have hkk:k<2*n-1:=ad
    have c2:(k:Int)-(n:Int)+(j:Int)=((k-n+j:Nat):Int):=ad
    have e5:atI (p.map D.int) (j:Int)=some (.int<|p.getD j 0):=cS (by rw[b7,aO ad,aI,aO ad];rfl)
    have e6:=fY rp.ok.small j;walk_at "u";rw[c2,mI hat,mI hkk,e5];dsimp only;rw[aZ,bX7 hat];refine⟨ae,cmR ad ad,some<|.pu<|.int (j:Int),some<|.pu<|.int ((k-n+j:Nat):Int),?_⟩
    rw[b85 hat];have e7:(λx=>if x=k-n+j then bL4 p n k j f (k-n+j)-bL4 p n k j f k*p.getD j 0 else bL4 p n k j f x)=bL4 p n k (j+1) f:=funext λm=>by
     unfold bL4
     by_cases c:m=k-n+j
     ·rw[a7 c,a6 ad,a6 ad,a7 ad,c,show k-n+j-(k-n)=j by lia]
     ·rw[a6 c]
      by_cases c3:k-n<=m/\m<k-n+j
      ·rw[a7 c3,a7 ad]
      ·rw[a6 c3,a6 ad]
    rw[e7]
   ·rintro ρ ⟨y,w,rfl⟩;refine⟨y,some<|.pu<|.int (k:Int),w,?_⟩;have e8:bL4 p n k n f=a71 p n (conv u v n) (t+1):=by
     show _=b59 p n (2*n-2-t) (a71 p n (conv u v n) t)
     rw[hf,<-hk];unfold bL4 b59
     funext m
     rw[show k-n+n=k by lia]
    rw[e8]
  ·rintro ρ ⟨y,z,w,rfl⟩;dsimp only;unfold bR7;walk_at "u";rw[bD0 _ _ (by rw[aZ];lia),<-j4,bD5 _ _ _ ad,bY6 ad ad uz vz]
   exact h
theorem bF2 (row:List Int)(s:Int): ∀k,(aZ2 row s k).length=row.length
 | 0=>rfl
 | k+1=>by unfold aZ2;rw[eE];exact bF2 row s k
theorem cQ4 (p:List Int)(s:Int): ∀k,(shK p s k).length=p.length
 | 0=>rfl
 | k+1=>by unfold shK;rw[bF2];exact cQ4 p s k
theorem dA7 {n k:Nat}(h:k<n):ixN n (k:Int)=some k:=by
 unfold ixN;rw[a7 ad,a7 ad,cP]
theorem dA8 (l:List Int)(k:Nat)(x:Int):(l.map D.int).set k (.int x)=(l.set k x).map D.int:=by rw[List.map_set]
def a20:Φ:=λds Q=> ∃(p:List Int) (s:Int),ds=[aJ p,.int s]/\3<=p.length/\p.length<=5/\s.natAbs<=3/\Q (.pu<|aJ<|shK p s<|p.length-1)
def aP2:US:=(aU (bT 2<|aQ aE4<|a9 (aB 0) aK)<|aU (jD (gS<|a9 (uOp M.gSub (kO<|aV 2)<|uC<|.int 1) aK) (cC 3)<|jD (c48<|a9 (uOp M.gSub (kO<|aV 2)<|uC<|.int 2)<|a9 (uOp M.gSub (aB 3)<|uC<|.int 1)<|a9 (rD<|uC<|.int 1) aK) (cC 4)<|bA8 2 (uOp hX (uIx (aV 2)<|aB 4)<|uOp hZ (aB 1)<|uIx (aV 2)<|uOp hX (aB 4)<|uC<|.int 1)<|aB 4)<|cY<|aQ cX<|a9 (aB 2) aK)
theorem cJ3: ∀ds Q,a20 ds Q->aP2 {nx:=λ_=>Q (.pu .non),rt:=Q} (init ["p","s","r","l","a"] ds):=by
 rintro ds Q ⟨p,s,rfl,h3,h5,hs,h⟩;have lp:(p.map D.int).length=p.length:=aG _;unfold aP2;show(aU _ _:US) _ [some<|.pu<|.tup<|p.map .int,some<|.pu<|.int s,none,none,none];walk_at "u";refine bJ (p.length-1) (λi=> .int (0+i)) [some<|.pu<|.tup<|p.map .int,some<|.pu<|.int s,some<|.ow<|p.map .int,none,none] ?_
  (λi ρ=> ∃x y,ρ=[some<|.pu<|.tup<|p.map .int,some<|.pu<|.int s,some<|.ow<|(shK p s i).map .int,x,y]) ⟨none,none,rfl⟩ ?_ ?_
 ·intro Q' q;simp only[gS];walk_at "u";rw[lp];refine⟨ad,?_⟩
  rw[show((p.length:Int)-1).toNat=p.length-1 by lia]
  exact q
 ·rintro i ρ hi ⟨x,y,rfl⟩;have lk:=cQ4 p s i;have e1:shK p s (i+1)=aZ2 (shK p s i) s (p.length-1-i):=rfl;rw[e1];generalize shK p s i=row at lk;have lrow:(row.map D.int).length=row.length:=aG _;walk_at "u";refine⟨ac,?_⟩
  refine bJ (p.length-1-i) (λk=> .int ((p.length:Int)-2-k)) [some<|.pu<|.tup<|p.map .int,some<|.pu<|.int s,some<|.ow<|row.map .int,some<|.pu<|.int<|0+(i:Int),y] ?_
   (λk ρ=> ∃y,ρ=[some<|.pu<|.tup<|p.map .int,some<|.pu<|.int s,some<|.ow<|(aZ2 row s k).map .int,some<|.pu<|.int<|0+(i:Int),y]) ⟨y,rfl⟩ ?_ ?_
  ·intro Q' q;simp only[c48];walk_at "u";rw[lrow,lk];refine⟨trivial,ad,?_⟩
   rw[show((p.length:Int)-2-(0+(i:Int)-1)).toNat=p.length-1-i by lia]
   exact q
  ·rintro k ρ hk ⟨y,rfl⟩;have l2:=bF2 row s k;walk_at "u";refine⟨ac,?_⟩
   have a1:(p.length:Int)-2-(k:Int)=((p.length-2-k:Nat):Int):=ad
   have a2:((p.length-2-k:Nat):Int)+1=((p.length-1-k:Nat):Int):=ad
   rw[a1,a2,a89<|show p.length-2-k< (aZ2 row s k).length by lia,a89<|show p.length-1-k< (aZ2 row s k).length by lia]
   dsimp only;rw[dA7 (show p.length-2-k< ((aZ2 row s k).map D.int).length by rw[aG];lia)]
   refine⟨cmL ad ad,some<|.pu<|.int ((p.length-2-k:Nat):Int),?_⟩
   rw[dA8];rw[<-lk];rfl
  ·rintro ρ ⟨y,rfl⟩;exact⟨_,_,rfl⟩
 ·rintro ρ ⟨x,y,rfl⟩;walk_at "u";exact h
def wT:Φ:=λds Q=> ∃c:Int,ds=[.int c]/\ ∀p∈qI,Q (.pu<|aJ p)
def aA5:US:=(cY<|uIx (aV 1)<|uOp oJ (aQ a87<|a9 (aB 0)<|a9 (uC<|.int 3)<|a9 (uC<|.int 998244353) aK)<|uC<|.int 12)
def aA6:US:=(aU (bT 1<|uOp hX (aB 1)<|kF<|a9 (i6<|a9 (uC<|.int 1)<|a9 (uC<|.int 0)<|a9 (uC<|.int 0)<|a9 (uC<|.int 0)<|a9 (uC<|.int 1) aK)<|a9 (i6<|a9 (rD<|uC<|.int 1)<|a9 (rD<|uC<|.int 1)<|a9 (uC<|.int 0)<|a9 (uC<|.int 0)<|a9 (uC<|.int 1) aK)<|a9 (i6<|a9 (uC<|.int 1)<|a9 (uC<|.int 1)<|a9 (uC<|.int 1)<|a9 (uC<|.int 1)<|a9 (uC<|.int 1) aK)<|a9 (i6<|a9 (rD<|uC<|.int 2)<|a9 (uC<|.int 0)<|a9 (uC<|.int 0)<|a9 (uC<|.int 0)<|a9 (uC<|.int 1) aK)<|a9 (i6<|a9 (uC<|.int 1)<|a9 (uC<|.int 0)<|a9 (rD<|uC<|.int 1)<|a9 (uC<|.int 0)<|a9 (uC<|.int 1) aK) aK) aA5)
def wU:US:=(aU (bT 1<|kF<|a9 (i6<|a9 (uC<|.int 5)<|a9 (uC<|.int 0)<|a9 (uC<|.int 1) aK)<|a9 (i6<|a9 (rD<|uC<|.int 10)<|a9 (uC<|.int 0)<|a9 (uC<|.int 1) aK)<|a9 (i6<|a9 (uC<|.int 6)<|a9 (uC<|.int 1)<|a9 (uC<|.int 1) aK)<|a9 (i6<|a9 (rD<|uC<|.int 3)<|a9 (uC<|.int 0)<|a9 (uC<|.int 1) aK)<|a9 (i6<|a9 (rD<|uC<|.int 1)<|a9 (rD<|uC<|.int 1)<|a9 (uC<|.int 0)<|a9 (uC<|.int 1) aK)<|a9 (i6<|a9 (rD<|uC<|.int 2)<|a9 (uC<|.int 0)<|a9 (uC<|.int 0)<|a9 (uC<|.int 1) aK)<|a9 (i6<|a9 (rD<|uC<|.int 1)<|a9 (uC<|.int 4)<|a9 (uC<|.int 0)<|a9 (uC<|.int 1) aK) aK) aA6)
theorem dA9 {k:Int}(h0:0<=k)(h1:k<12): ∃p∈qI,atI (qI.map aJ) k=some (aJ p):=by
 obtain⟨i,rfl⟩: ∃i:Nat,k=(i:Int):=⟨k.toNat,ad⟩
 have hi:i<qI.length:=show i<12 by lia
 exact⟨qI[i],bS hi,cS (by rw[b7,aO hi];rfl)⟩
theorem bL5: ∀ds Q,wT ds Q->wU {nx:=λ_=>Q (.pu .non),rt:=Q} (init ["c","k"] ds):=by
 rintro ds Q ⟨c,rfl,h⟩;unfold wU;show(aU _ _:US) _ [some<|.pu<|.int c,none];rw[aR];walk_at "u";refine⟨ac,ac,ac,ac,ac,ac,ac,ac,?_⟩
 unfold aA6;rw[aR];walk_at "u";refine⟨ac,ac,ac,ac,ac,ac,ac,?_⟩
 unfold aA5;walk_at "u";refine⟨c,3,998244353,rfl,ac,ac,ac,λr r0 r1=> ?_⟩
 walk_at "u"
 refine⟨ac,?_⟩
 rw[dE _ ac]
 obtain⟨p,hp,e⟩:=dA9 (bY r<|show(12:Int)≠0 by decide) (bX r<|show(0:Int)<12 by decide)
 have e': ∀l:List D,l=qI.map aJ->(match atI l (r%12)with|some x=>Q (.pu x)|none=>False):=λl hl=>by
  rw[hl,e];exact h p hp
 exact e' _ rfl
def bY7:Φ:=λds Q=> ∃c q:Int,ds=[.int c,.int q]/\0<q/\ ∀p,fF p->Q (.pu<|aJ p)
def bY8:Φ:=λds Q=> ∃(ns:List Int) (k:Nat) (q:Int),ds=[.rol<|ns.map .int,.int (k:Int),.int q]/\ns.length<=63/\k<=1000/\0<q/\ ∀C p,fF p->Q (.pu<|fG C p)
def bF3:US:=(pA 3)
def c84:US:=(aU (jA (gA<|bK3 false<|aB 3) (bT 3<|d74 ["poly","degree","measure"] yE<|a9 (aQ wT<|a9 (aQ aT3<|a9 (aB 0)<|a9 (aB 1) aK) aK) aK) gB) bF3)
def c85:US:=(aU (jD (gS<|a9 (uC<|.int 3) aK) (cC 4)<|jA (gA<|bK3 false<|aB 3) (d75 3 ["poly","degree","measure"] yE (a9 (aQ bY7<|a9 (aQ aT3<|a9 (aB 0)<|a9 (uOp hX (aB 1)<|aB 4) aK)<|a9 (aB 2) aK) aK) ["FallsApart","TooGreat","NotWhole"]<|bT 3<|uC .non) gB) c84)
def bY9:US:=(aU (bT 3<|uC .non) c85)
theorem dM9: ∀ds Q,bY8 ds Q->bY9 {nx:=λ_=>Q (.pu .non),rt:=Q} (init ["s","k","q","f","j"] ds):=by
 rintro ds Q ⟨ns,k,q,rfl,hl,hk,hq,h⟩;unfold bY9;show(aU _ _:US) _ [some<|.pu<|.rol<|ns.map .int,some<|.pu<|.int (k:Int),some<|.pu<|.int q,none,none];rw[aR];walk_at "u";unfold c85;rw[aR];refine bJ 3 (λi=> .int (0+i)) [some<|.pu<|.rol<|ns.map .int,some<|.pu<|.int (k:Int),some<|.pu<|.int q,some<|.pu .non,none] (λQ' q=> ?_)
  (λi ρ=> ∃d x,ρ=[some<|.pu<|.rol<|ns.map .int,some<|.pu<|.int (k:Int),some<|.pu<|.int q,some<|.pu d,x]/\(d= .non\/ ∃C p,fF p/\d=fG C p)) ⟨.non,none,rfl,.inl rfl⟩ ?_ ?_
 ·walk_at "u"
  exact⟨ac,q⟩
 ·rintro i ρ hi ⟨d,x,rfl,hd⟩;refine⟨ae,?_⟩
  rcases hd with rfl| ⟨C,p,rp,rfl⟩
  ·walk_at "u"
   unfold d75;walk_at "u";refine⟨ns,(k:Int)+(0+(i:Int)),rfl,hl,ad,ad,λc=>⟨c,q,rfl,hq,λp rp=> ?_⟩⟩
   walk_at "u"
   refine⟨p,rfl,rp,λ_ C=>⟨fG C p,some<|.pu<|.int<|0+(i:Int),rfl,.inr ⟨C,p,rp,rfl⟩⟩,λ_ _=>⟨ae,.non,_,rfl,.inl rfl⟩,λ_=>⟨⟨ae,.non,_,rfl,.inl rfl⟩,λ_=>⟨ae,.non,_,rfl,.inl rfl⟩⟩⟩
  ·simp only[fG];walk_at "u";exact⟨fG C p,_,rfl,.inr ⟨C,p,rp,rfl⟩⟩
 ·rintro ρ ⟨d,x,rfl,hd⟩;dsimp only;unfold c84;rw[aR];rcases hd with rfl| ⟨C,p,rp,rfl⟩
  ·walk_at "u"
   unfold d74;walk_at "u";refine⟨ns,(k:Int),rfl,hl,ad,ad,λc=>⟨c,rfl,λp hp=> ?_⟩⟩
   walk_at "u"
   refine⟨p,rfl,uO p hp,λ_ C=> ?_,λred=>absurd red (c83 p hp).irr,λz=>absurd (c83 p hp) z⟩
   unfold bF3;walk_at "u";exact h C p (uO p hp)
  ·simp only[fG];walk_at "u";unfold bF3;walk_at "u";exact h C p rp
def c86:US:=(cY<|aQ a20<|a9 (i6<|a9 (uOp M.gSub (uIx (aV 4)<|uC<|.int 2)<|uC<|.int 3)<|a9 (uOp M.gSub (uIx (aV 4)<|uC<|.int 3)<|uC<|.int 3)<|a9 (uOp M.gSub (uIx (aV 4)<|uC<|.int 4)<|uC<|.int 3)<|a9 (uOp M.gSub (uIx (aV 4)<|uC<|.int 6)<|uC<|.int 3)<|a9 (uC<|.int 1) aK)<|a9 (uOp M.gSub (uIx (aV 4)<|uC<|.int 5)<|uC<|.int 2) aK)
def c87:US:=(aU (bT 4<|aQ rG<|a9 (aB 0)<|a9 (kF<|a9 (uC<|.int 3)<|a9 (uC<|.int 8)<|a9 (uC<|.int 7)<|a9 (uC<|.int 7)<|a9 (uC<|.int 7)<|a9 (uC<|.int 5)<|a9 (uC<|.int 7) aK)<|a9 (aB 1) aK) c86)
def c88:US:=(aU (jA (gA<|uOp (jH false) (uIx (aV 2)<|uC<|.int 0)<|uC<|.int 1) (cY<|aQ a20<|a9 (i6<|a9 (uOp M.gSub (uIx (aV 4)<|uC<|.int 2)<|uC<|.int 4)<|a9 (uOp M.gSub (uIx (aV 4)<|uC<|.int 3)<|uC<|.int 4)<|a9 (uOp M.gSub (uIx (aV 4)<|uC<|.int 4)<|uC<|.int 4)<|a9 (uC<|.int 1) aK)<|a9 (uOp M.gSub (uIx (aV 4)<|uC<|.int 5)<|uC<|.int 2) aK) gB) c87)
def c89:US:=(aU (jA (gA<|uOp (jH false) (uIx (aV 2)<|uC<|.int 0)<|uC<|.int 0) (aU (bT 4<|aQ rG<|a9 (aB 0)<|a9 (kF<|a9 (uC<|.int 3)<|a9 (uC<|.int 8)<|a9 (uC<|.int 161)<|a9 (uC<|.int 41) aK)<|a9 (aB 1) aK)<|cY<|i6<|a9 (uOp M.gSub (uIx (aV 4)<|uC<|.int 2)<|uC<|.int 80)<|a9 (uOp M.gSub (uIx (aV 4)<|uC<|.int 3)<|uC<|.int 20)<|a9 (uC<|.int 1) aK) gB) c88)
def bF4:US:=(aU (bT 4<|aQ rG<|a9 (aB 0)<|a9 (kF<|a9 (uC<|.int 3)<|a9 (uC<|.int 8)<|a9 (uC<|.int 9)<|a9 (uC<|.int 9)<|a9 (uC<|.int 9)<|a9 (uC<|.int 5)<|a9 (uC<|.int 7) aK)<|a9 (aB 1) aK) c89)
def c90:US:=(aU (jA (gA<|uOp (jH false) (uIx (aV 2)<|uC<|.int 1)<|uC<|.int 7) (cY<|aQ cX<|a9 (uOp hX (dS [] [none,none] 1 (gR<|aB 3) (cC 0) (λρ Q=>Q true ρ)<|uOp M.gSub (aB 0)<|uC<|.int 499)<|kF<|a9 (uC<|.int 1) aK) aK) gB) bF4)
def c91:US:=(aU (bT 3<|uSl (uV<|aQ rG<|a9 (aB 0)<|a9 (kF<|a9 (uC<|.int 3)<|a9 (uC<|.int 8)<|a9 (uC<|.int 999)<|a9 (uC<|.int 999)<|a9 (uC<|.int 999)<|a9 (uC<|.int 999) aK)<|a9 (aB 1) aK) (jG<|uC<|.int 2)<|jG<|uOp hX (uIx (aV 2)<|uC<|.int 0)<|uC<|.int 4) c90)
def bZ0:US:=(aU (bT 2<|aQ rG<|a9 (aB 0)<|a9 (kF<|a9 (uC<|.int 3)<|a9 (uC<|.int 8) aK)<|a9 (aB 1) aK) c91)
theorem rp_two {a b:Int}(ha:a.natAbs<=499)(hb:b.natAbs<=499):fF [a,b,1]:=⟨⟨ae,ae,λx hx=>by
 simp only[aX,eT,eU]at hx;rcases hx with rfl|rfl|rfl<;>lia⟩,[a,b],rfl⟩
theorem nba {x y:Int}{m k:Nat}(hx:x.natAbs<=m)(hy:y.natAbs<=k):(x+y).natAbs<=m+k:=aM (aN3 x y) (Nat.add_le_add hx hy)
theorem nbm {x y:Int}{m k:Nat}(hx:x.natAbs<=m)(hy:y.natAbs<=k):(x*y).natAbs<=m*k:=by rw[fL];exact j2 hx hy
theorem nbl {x:Int}{m k:Nat}(h:decide (m<=k)=true)(hx:x.natAbs<=m):x.natAbs<=k:=aM hx (tM h)
theorem nbc (n:Nat):((n:Nat):Int).natAbs<=n:=aE n
theorem rp_sh3 {a b c s:Int}(ha:a.natAbs<=4)(hb:b.natAbs<=4)(hc:c.natAbs<=4)(hs:s.natAbs<=2):fF (shK [a,b,c,1] s 3):=by
 rw[she3];refine⟨⟨by simp[sh3],by simp[sh3],λx hx=> ?_⟩,_,rfl⟩
 simp only[sh3,List.cons_append,zK,aX,eT,eU]at hx;have s2:=nbm hs hs;have s3:=nbm s2 hs;rcases hx with rfl|rfl|rfl|rfl
 ·exact nbl rfl (nba (nba (nba ha<|nbm hs hb)<|nbm s2 hc) s3)
 ·exact nbl rfl (nba (nba hb<|nbm (nbm (nbc 2) hs) hc)<|nbm (nbm (nbc 3) hs) hs)
 ·exact nbl rfl (nba hc<|nbm (nbc 3) hs)
 ·decide
theorem rp_sh4 {a b c d s:Int}(ha:a.natAbs<=3)(hb:b.natAbs<=3)(hc:c.natAbs<=3)(hd:d.natAbs<=3)(hs:s.natAbs<=2):fF (shK [a,b,c,d,1] s 4):=by
 rw[she4];refine⟨⟨by simp[sh4],by simp[sh4],λx hx=> ?_⟩,_,rfl⟩
 simp only[sh4,List.cons_append,zK,aX,eT,eU]at hx;have s2:=nbm hs hs;have s3:=nbm s2 hs;rcases hx with rfl|rfl|rfl|rfl|rfl
 ·exact nbl rfl (nba (nba (nba (nba ha<|nbm hs hb)<|nbm s2 hc)<|nbm s3 hd)<|nbm s3 hs)
 ·exact nbl rfl (nba (nba (nba hb<|nbm (nbm (nbc 2) hs) hc)<|nbm (nbm (nbm (nbc 3) hs) hs) hd)<|nbm (nbm (nbm (nbc 4) hs) hs) hs)
 ·exact nbl rfl (nba (nba hc<|nbm (nbm (nbc 3) hs) hd)<|nbm (nbm (nbc 6) hs) hs)
 ·exact nbl rfl (nba hd<|nbm (nbc 4) hs)
 ·decide
theorem dN0 {ws:List Int}(h2:2<=ws.length)(h4:ws.length<=4)(hb: ∀w∈ws,0<=w/\w<999):fF (ws.map (λw=>w-499)++[1]):=by
 refine⟨⟨by rw[bN,aG];show 3<=ws.length+1;lia,by rw[bN,aG];show ws.length+1<=5;lia,λx hx=> ?_⟩,_,rfl⟩
 rcases bM.mp hx with hx|hx
 ·obtain⟨w,hw,rfl⟩:=dM.mp hx;have:=hb w hw
  lia
 ·rw[gJ.mp hx];decide
theorem cX2 (c q a b:Int)(ws:List Int)(h4:ws.length<=4)(Q:B->Prop)(h:Q (.pu<|aJ<|ws.map (λw=>w-499)++[1])) :
  (cY (aQ cX<|a9 (uOp hX (dS [] [none,none] 1 (gR<|aB 3) (cC 0) (λρ Q=>Q true ρ)<|uOp M.gSub (aB 0)<|uC<|.int 499)<|kF<|a9 (uC<|.int 1) aK) aK):US) {nx:=λ_=>Q (.pu .non),rt:=Q} [some<|.pu<|.int c,some<|.pu<|.int q,some<|.ow [.int a,.int b],some<|.ow<|ws.map .int,none]:=by
 rw[iV,eK,dG,bX8];refine eV (t0:=0) ws.length (λk=>(ws.map D.int).getD k .non) [some<|.pu<|.int c,some<|.pu<|.int q,some<|.ow [.int a,.int b],some<|.pu<|.lst<|ws.map .int,none] (λQ' q=> ?_) ad (λx l'=>[x,some<|.ow l']) none rfl (λ_ _ _=>rfl) (λ_ _=>cQ _) (λ_ _ _ q=>q) (λ_ _ _=>rfl) (λk=> .int (ws.getD k 0-499)) ?_ ?_
 ·walk_at "u"
  rw[aG];exact q
 ·intro k l' Q' hk q';have e3:(ws.map D.int).getD k .non= .int (ws.getD k 0):=by
   rw[aI,b7,aI,aO hk];rfl
  rw[e3]at q'⊢;walk_at "u";exact q'
 ·have e4:(List.range ws.length).map (λk=>D.int (ws.getD k 0-499))=(ws.map λw=>w-499).map D.int:=by
   apply kY
   ·simp
   ·intro i h1 h2;simp at h1;simp[aI,h1]
  rw[e4];walk_at "u";have e5:(ws.map λw=>w-499).map D.int++[D.int 1]=(ws.map (λw=>w-499)++[1]).map D.int:=by rw[bV];rfl
  rw[e5];refine⟨ac,?_,h⟩
  rw[aG,aG];exact aM (show ws.length+(0+1)<=5 by lia) ac
theorem dB0 (c q a b:Int)(w:Option B)(a0:0<=a)(a1:a<3)(hq:0<q)(Q:B->Prop)(h: ∀p,fF p->Q (.pu<|aJ p)) :
  bF4 {nx:=λ_=>Q (.pu .non),rt:=Q} [some<|.pu<|.int c,some<|.pu<|.int q,some<|.ow [.int a,.int b],w,none]:=by
 unfold bF4;rw[aR];walk_at "u";refine⟨ac,c,[3,8,9,9,9,5,7],q,rfl,ac,hq,ac,λxs hx=> ?_⟩
 obtain⟨x0,x1,x2,x3,x4,x5,x6,rfl⟩: ∃x0 x1 x2 x3 x4 x5 x6,xs=[x0,x1,x2,x3,x4,x5,x6]:=by
  match xs,hx.1 with
  | [x0,x1,x2,x3,x4,x5,x6],_=>exact⟨x0,x1,x2,x3,x4,x5,x6,rfl⟩
 have b2:=hx.2 2 x2 9 rfl rfl;have b3:=hx.2 3 x3 9 rfl rfl;have b4:=hx.2 4 x4 9 rfl rfl;have b5:=hx.2 5 x5 5 rfl rfl;simp only[dJ,jX];unfold c89;rw[aR];walk_at "u";rw[aT1];dsimp only
 by_cases c0:a=0
 ·rw[a7 c0];refine⟨ac,c,[3,8,161,41],q,rfl,ac,hq,ac,λys hy=> ?_⟩
  obtain⟨y0,y1,y2,y3,rfl⟩: ∃y0 y1 y2 y3,ys=[y0,y1,y2,y3]:=by
   match ys,hy.1 with
   | [y0,y1,y2,y3],_=>exact⟨y0,y1,y2,y3,rfl⟩
  have k2:=hy.2 2 y2 161 rfl rfl;have k3:=hy.2 3 y3 41 rfl rfl;simp only[dJ,jX]
  (try walk_at "u")
  rw[show atI [D.int y0,.int y1,.int y2,.int y3] 2=some (.int y2)from cS (j:=2) rfl,show atI [D.int y0,.int y1,.int y2,.int y3] 3=some (.int y3)from cS (j:=3) rfl]
  dsimp only;exact⟨ac,h [y2-80,y3-20,1]<|rp_two ad ad⟩
 rw[a6 c0];have t2:atI [D.int x0,.int x1,.int x2,.int x3,.int x4,.int x5,.int x6] 2=some (.int x2):=cS (j:=2) rfl;have t3:atI [D.int x0,.int x1,.int x2,.int x3,.int x4,.int x5,.int x6] 3=some (.int x3):=cS (j:=3) rfl;have t4:atI [D.int x0,.int x1,.int x2,.int x3,.int x4,.int x5,.int x6] 4=some (.int x4):=cS (j:=4) rfl
 have t5:atI [D.int x0,.int x1,.int x2,.int x3,.int x4,.int x5,.int x6] 5=some (.int x5):=cS (j:=5) rfl;unfold c88;rw[aR];walk_at "u";rw[aT1];dsimp only
 by_cases c1:a=1
 ·rw[a7 c1,t2,t3,t4,t5];dsimp only;exact⟨ac,[x2-4,x3-4,x4-4,1],x5-2,rfl,ae,ae,ad,h _<|rp_sh3 ad ad ad ad⟩
 rw[a6 c1];unfold c87;rw[aR];walk_at "u";refine⟨ac,c,[3,8,7,7,7,5,7],q,rfl,ac,hq,ac,λys hy=> ?_⟩
 obtain⟨y0,y1,y2,y3,y4,y5,y6,rfl⟩: ∃x0 x1 x2 x3 x4 x5 x6,ys=[x0,x1,x2,x3,x4,x5,x6]:=by
  match ys,hy.1 with
  | [x0,x1,x2,x3,x4,x5,x6],_=>exact⟨x0,x1,x2,x3,x4,x5,x6,rfl⟩
 have k2:=hy.2 2 y2 7 rfl rfl;have k3:=hy.2 3 y3 7 rfl rfl;have k4:=hy.2 4 y4 7 rfl rfl;have k5:=hy.2 5 y5 5 rfl rfl;have k6:=hy.2 6 y6 7 rfl rfl;simp only[dJ,jX];unfold c86;walk_at "u"
 rw[show atI [D.int y0,.int y1,.int y2,.int y3,.int y4,.int y5,.int y6] 2=some (.int y2)from cS (j:=2) rfl,show atI [D.int y0,.int y1,.int y2,.int y3,.int y4,.int y5,.int y6] 3=some (.int y3)from cS (j:=3) rfl,show atI [D.int y0,.int y1,.int y2,.int y3,.int y4,.int y5,.int y6] 4=some (.int y4)from cS (j:=4) rfl,show atI [D.int y0,.int y1,.int y2,.int y3,.int y4,.int y5,.int y6] 5=some (.int y5)from cS (j:=5) rfl,show atI [D.int y0,.int y1,.int y2,.int y3,.int y4,.int y5,.int y6] 6=some (.int y6)from cS (j:=6) rfl]
 dsimp only;exact⟨ac,[y2-3,y3-3,y4-3,y6-3,1],y5-2,rfl,ae,ae,ad,h _<|rp_sh4 ad ad ad ad ad⟩
theorem dN1: ∀ds Q,bY7 ds Q->bZ0 {nx:=λ_=>Q (.pu .non),rt:=Q} (init ["c","q","d","w","f"] ds):=by
 rintro ds Q ⟨c,q,rfl,hq,h⟩;unfold bZ0;show(aU _ _:US) _ [some<|.pu<|.int c,some<|.pu<|.int q,none,none,none];rw[aR];walk_at "u";refine⟨ac,c,[3,8],q,rfl,ac,hq,ac,λxs hx=> ?_⟩
 obtain⟨a,b,rfl⟩: ∃a b,xs=[a,b]:=by
  match xs,hx.1 with
  | [a,b],_=>exact⟨a,b,rfl⟩
 have ba:=hx.2 0 a 3 rfl rfl;simp only[dJ,jX];unfold c91;rw[aR];walk_at "u";refine⟨ac,c,[3,8,999,999,999,999],q,rfl,ac,hq,ac,λys hy=> ?_⟩
 obtain⟨y0,y1,y2,y3,y4,y5,rfl⟩: ∃x0 x1 x2 x3 x4 x5,ys=[x0,x1,x2,x3,x4,x5]:=by
  match ys,hy.1 with
  | [x0,x1,x2,x3,x4,x5],_=>exact⟨x0,x1,x2,x3,x4,x5,rfl⟩
 have k2:=hy.2 2 y2 999 rfl rfl;have k3:=hy.2 3 y3 999 rfl rfl;have k4:=hy.2 4 y4 999 rfl rfl;have k5:=hy.2 5 y5 999 rfl rfl;simp only[dJ,jX]
 (try walk_at "u")
 rw[aT1];dsimp only;obtain⟨ws,ew,w2,w4,wb⟩: ∃ws:List Int,cutD [D.int y0,.int y1,.int y2,.int y3,.int y4,.int y5] (some 2) (some<|a+4)=ws.map D.int/\2<=ws.length/\ws.length<=4/\ ∀w∈ws,0<=w/\w<999:=by
  rcases(show a=0\/a=1\/a=2 by lia)with rfl|rfl|rfl
  ·exact⟨[y2,y3],rfl,ae,ae,by simp;lia⟩
  ·exact⟨[y2,y3,y4],rfl,ae,ae,by simp;lia⟩
  ·exact⟨[y2,y3,y4,y5],rfl,ae,ae,by simp;lia⟩
 rw[ew];unfold c90;rw[aR,dL8];walk_at "u";rw[at1];dsimp only
 by_cases cb:b=7
 ·rw[a7 cb];exact cX2 c q a b ws w4 Q (h _<|dN0 w2 w4 wb)
 ·rw[a6 cb];exact dB0 c q a b _ ba.1 ba.2 hq Q h
noncomputable def cz (n:Nat)(u:Nat->Int):Nat->Int:=λj=>if j<n then u j else 0
theorem dB1 (n:Nat)(u:Nat->Int):rwF n (cz n u)=rwF n u:=iO λi hi=>a7 hi
theorem cJ4 {n:Nat}{u:Nat->Int}{j:Nat}(h:n<=j):cz n u j=0:=a6 ad
theorem c92 {n e:Nat}{u:Nat->Int}(h: ∀j,(u j).natAbs<=2^e)(j:Nat):(cz n u j).natAbs<=2^e:=by
 unfold cz;split
 ·exact h j
 ·exact dN _
noncomputable def a72 (k:Int):Nat->Int:=λj=>if j=0 then k else 0
theorem dN2 {n:Nat}(k:Int)(h:1<=n):k::replicate (n-1) 0=rwF n (a72 k):=by
 apply kY
 ·rw[mY,eO,tG];lia
 ·intro i h1 h2;simp only[rwF,List.getElem_map,List.getElem_range]
  match i with
  | 0=>rfl
  | i+1=>rw[List.getElem_cons_succ,List.getElem_replicate];rfl
def uP:Φ:=λds Q=> ∃(C:Addr) (p:List Int) (n:Nat) (k:Int),ds=[fG C p,.int k]/\fF p/\p.length=n+1/\Q (.pu<|aJ<|rwF n<|a72 k)
def uQ:US:=(cY<|aQ rN<|a9 (i6<|a9 (aB 1) aK)<|a9 (a69 "degree"<|aB 0) aK)
theorem bF5: ∀ds Q,uP ds Q->uQ {nx:=λ_=>Q (.pu .non),rt:=Q} (init ["r","k"] ds):=by
 rintro ds Q ⟨C,p,n,k,rfl,rp,hn,h⟩;have lo:=rp.ok.lo;have hi:=rp.ok.hi;unfold uQ;show(cY _:US) _ [some<|.pu<|fG C p,some<|.pu<|.int k];walk_at "u";rw[rO (C:=C) (p:=p) rfl];walk_at "u";refine⟨ac,[k],(n:Int),by rw[hn];congr 3;lia,ae,ad,ad,?_⟩
 rw[show((n:Int)-(([k]:List Int).length:Int)).toNat=n-1 by rw[yY];lia,List.singleton_append,dN2 k ad]
 exact h
theorem aU5 {ρ:Ev}{i:Nat}{C:Addr}{p:List Int}{Q:B->Ev->Prop}(h:ρ[i]? =some (some<|.pu<|fG C p)):a69 "measure" (aB i) ρ Q=Q (.pu<|.int<|gC 4<|cJ p) ρ:=by
 unfold a69;rw[aT7 h];rfl
noncomputable def tbL (n:Nat)(t:Nat->Nat->Int):List (List Int):=(List.range n).map λi=>rwF n (t i)
theorem dN3 (n:Nat)(t:Nat->Nat->Int):D.tup (tbF n n t)=bX1 (tbL n t):=by
 unfold bX1 tbL tbF;rw[fX];rfl
theorem aU6 (n:Nat)(t:Nat->Nat->Int):(tbL n t).length=n:=by unfold tbL;rw[aG,kX]
theorem tbL_sq {n e:Nat}{t:Nat->Nat->Int}(n1:1<=n)(n4:n<=4)(he:e<2000)(h: ∀i j,i<n->(t i j).natAbs<=2^e):Sq 4 (tbL n t):=by
 refine⟨by rw[aU6];exact n1,by rw[aU6];exact n4,λr hr=> ?_,λr hr x hx=> ?_⟩
 ·rw[aU6];obtain⟨i,hi,rfl⟩:=dM.mp hr;exact mY _ _
 ·obtain⟨i,hi,rfl⟩:=dM.mp hr;obtain⟨j,hj,rfl⟩:=dM.mp hx;exact nE (h i j<|dX.mp hi) (aL7 ac he)
theorem dR8 (T:Nat->Nat->Int):gC 4 (tbL 2 T)=1*T 0 0*(T 1 1)+(-1*T 1 0*(T 0 1)+0):=by kernel_rfl
theorem dR9 (T:Nat->Nat->Int):gC 4 (tbL 3 T)=1*T 0 0*(1*T 1 1*(T 2 2)+(-1*T 2 1*(T 1 2)+0))+(-1*T 1 0*(1*T 0 1*(T 2 2)+(-1*T 2 1*(T 0 2)+0))+(1*T 2 0*(1*T 0 1*(T 1 2)+(-1*T 1 1*(T 0 2)+0))+0)):=by kernel_rfl
theorem dB2 (T:Nat->Nat->Int):gC 4 (tbL 4 T)=1*T 0 0*(1*T 1 1*(1*T 2 2*(T 3 3)+(-1*T 3 2*(T 2 3)+0))+(-1*T 2 1*(1*T 1 2*(T 3 3)+(-1*T 3 2*(T 1 3)+0))+(1*T 3 1*(1*T 1 2*(T 2 3)+(-1*T 2 2*(T 1 3)+0))+0)))+(-1*T 1 0*(1*T 0 1*(1*T 2 2*(T 3 3)+(-1*T 3 2*(T 2 3)+0))+(-1*T 2 1*(1*T 0 2*(T 3 3)+(-1*T 3 2*(T 0 3)+0))+(1*T 3 1*(1*T 0 2*(T 2 3)+(-1*T 2 2*(T 0 3)+0))+0)))+(1*T 2 0*(1*T 0 1*(1*T 1 2*(T 3 3)+(-1*T 3 2*(T 1 3)+0))+(-1*T 1 1*(1*T 0 2*(T 3 3)+(-1*T 3 2*(T 0 3)+0))+(1*T 3 1*(1*T 0 2*(T 1 3)+(-1*T 1 2*(T 0 3)+0))+0)))+(-1*T 3 0*(1*T 0 1*(1*T 1 2*(T 2 3)+(-1*T 2 2*(T 1 3)+0))+(-1*T 1 1*(1*T 0 2*(T 2 3)+(-1*T 2 2*(T 0 3)+0))+(1*T 2 1*(1*T 0 2*(T 1 3)+(-1*T 1 2*(T 0 3)+0))+0)))+0))):=by kernel_rfl
noncomputable def nrm (p:List Int)(n:Nat)(u:Nat->Int):Int:=gC 4 (tbL n<|itT p n u)
def b02:Φ:=λds Q=> ∃(C:Addr) (p:List Int) (n e:Nat) (u:Nat->Int),ds=[fG C p,aJ<|rwF n u]/\fF p/\p.length=n+1/\e<=1900/\(∀j,(u j).natAbs<=2^e)/\Q (.pu<|.int<|nrm p n u)
def b03:US:=(cY<|aQ (gD 4)<|a9 (aQ qX<|a9 (aB 0)<|a9 (aB 1) aK) aK)
theorem cX3: ∀ds Q,b02 ds Q->b03 {nx:=λ_=>Q (.pu .non),rt:=Q} (init ["r","x"] ds):=by
 rintro ds Q ⟨C,p,n,e,u,rfl,rp,hn,he,hu,h⟩;have lo:=rp.ok.lo;have hi:=rp.ok.hi;unfold b03;show(cY _:US) _ [some<|.pu<|fG C p,some<|.pu<|aJ<|rwF n u];walk_at "u";refine⟨C,p,n,u,rfl,rp,hn,?_⟩;try dsimp only
 refine⟨tbL n<|itT p n u,by rw[dN3],tbL_sq (e:=e+27) ad ad ad λi j hi'=>aM (yF (n:=n) rp.ok.small hu i j) (iD ac ad),?_⟩
 exact h
theorem cX4 {p:List Int}{n:Nat}{u v:Nat->Int}(n2:2<=n)(n4:n<=4)(hu: ∀j,n<=j->u j=0)(hv: ∀j,n<=j->v j=0):rwF n (a19 p n u v)=rwF n (a19 p n v u):=by
 rw[<-bY6 n2 n4 hu hv,<-bY6 n2 n4 hv hu,show conv u v n=conv v u n from funext λm=>bR4 hu hv m]
noncomputable def tnF:Nat->Int:=λj=>if j=1 then 1 else 0
theorem bZ1 {n j:Nat}(n2:2<=n)(h:n<=j):tnF j=0:=a6 ad
theorem bS1 (e j:Nat):(tnF j).natAbs<=2^e:=aM (show(tnF j).natAbs<=1 by unfold tnF;split<;>decide) Nat.one_le_two_pow
theorem tim_tn {p:List Int}{n:Nat}{u:Nat->Int}(n2:2<=n)(n4:n<=4)(j:Nat):a19 p n u tnF j=ttF p n u j:=by
 show((List.range n).map λi=>tnF i*itT p n u i j).sum=ttF p n u j
 match n,n2,n4 with
 | 2,_,_=>simp[bW,tnF,itT]
 | 3,_,_=>simp[bW,tnF,itT]
 | 4,_,_=>simp[bW,tnF,itT]
theorem ttF_cz {p:List Int}{n:Nat}{u:Nat->Int}(n1:1<=n){j:Nat}(hj:j<n):ttF p n (cz n u) j=ttF p n u j:=by
 unfold ttF cz;rw[a7<|show n-1<n by omega,a7<|show j-1<n by omega]
theorem tn_row {p:List Int}{n:Nat}{u:Nat->Int}(n2:2<=n)(n4:n<=4):rwF n (a19 p n (cz n u) tnF)=rwF n (ttF p n u):=iO λj hj=>by rw[tim_tn n2 n4,ttF_cz ad hj]
theorem dB3 {p:List Int}{n:Nat}{u:Nat->Int}(n2:2<=n)(n4:n<=4):rwF n (a19 p n tnF<|cz n u)=rwF n (ttF p n u):=by
 rw[cX4 n2 n4 (λj hj=>bZ1 n2 hj) λj hj=>cJ4 hj,tn_row n2 n4]
theorem b04 {ρ:Ev}{s:Nat}{z:Int}(c:Nat)(hz:z=(c:Int))(n:Nat)(hn:n<=4)(hs:ρ[s]? =some (some<|.pu<|.int (n:Int))){Q:B->Ev->Prop}(h:Q (.pu<|aJ<|rwF n λk=>if k=c then 1 else 0) ρ) :
  aQ cX (a9 (dS [] [none,none] 1 (gS<|a9 (aB s) aK) (cC 0) (λρ Q=>Q true ρ)<|aQ aY0<|a9 (uOp (jH false) (aB 0)<|uC<|.int z) aK) aK) ρ Q:=by
 subst hz;rw[eK,dG];refine eV (t0:=0) n (λk=> .int (0+(k:Int))) ρ (λQ' q=> ?_) ad (λx l'=>[x,some<|.ow l']) none rfl (λ_ _ _=>rfl) (λ_ _=>cQ _) (λ_ _ _ q=>q) (λ_ _ _=>rfl) (λk=> .int (if k=c then 1 else 0)) ?_ ?_
 ·unfold gS;rw[dG,aT7 hs];walk_at "u";refine⟨⟨ad,ad⟩,?_⟩
  rw[cP];exact q
 ·intro k l' Q' hk q';rw[bI]at q'⊢;walk_at "u"
  by_cases e:k=c
  ·subst e
   simpa using q'
  ·rw[a6 e]at q';rw[a6<|show ¬(k:Int)=(c:Int)by lia]
   exact q'
 ·rw[uI];exact h
theorem dB4 (i n:Nat)(t:Nat->Nat->Int):tbF i n t++[aJ<|rwF n<|t i]=tbF (i+1) n t:=by
 unfold tbF;rw[bW,bV];rfl
def bF6:Φ:=λds Q=> ∃(p:List Int) (n e:Nat) (u:Nat->Int),ds=[aJ p,aJ<|rwF n u]/\fF p/\p.length=n+1/\e<=1900/\(∀j,(u j).natAbs<=2^e)/\Q (.ow<|tbF n n<|itT p n u)
def bS2:US:=(pA 4)
def bS3:US:=(aU (jD (gS<|a9 (aB 2) aK) (cC 6)<|aU (aO3 4<|aB 5)<|bT 5<|aQ aU4<|a9 (aB 0)<|a9 (aB 3)<|a9 (aB 5) aK) bS2)
def bS4:US:=(aU (bT 5<|aQ cX<|a9 (aB 1) aK) bS3)
def b05:US:=(aU (bT 4<|kF aK) bS4)
def b06:US:=(aU (bT 3<|aQ cX<|a9 (dS [] [none,none] 1 (gS<|a9 (aB 2) aK) (cC 0) (λρ Q=>Q true ρ)<|aQ aY0<|a9 (uOp (jH false) (aB 0)<|uC<|.int 1) aK) aK) b05)
def bF7:US:=(aU (bT 2<|uOp M.gSub (kO<|aV 0)<|uC<|.int 1) b06)
theorem dB5: ∀ds Q,bF6 ds Q->bF7 {nx:=λ_=>Q (.pu .non),rt:=Q} (init ["p","x","m","t","r","w","k"] ds):=by
 rintro ds Q ⟨p,n,e,u,rfl,rp,hn,he,hu,h⟩;have lo:=rp.ok.lo;have hi:=rp.ok.hi;have n2:2<=n:=ad
 have n4:n<=4:=ad
 unfold bF7;show(aU _ _:US) _ [some<|.pu<|.tup<|p.map .int,some<|.pu<|aJ<|rwF n u,none,none,none,none,none];rw[aR];walk_at "u";rw[aG,show(p.length:Int)-1=(n:Int)by lia]
 change b06 _ [some<|.pu<|aJ p,some<|.pu<|aJ<|rwF n u,some<|.pu<|.int (n:Int),none,none,none,none]
 unfold b06;rw[aR,lN];refine b04 1 rfl n n4 rfl ?_;show b05 _ [some<|.pu<|aJ p,some<|.pu<|aJ<|rwF n u,some<|.pu<|.int (n:Int),some<|.pu<|aJ<|rwF n tnF,none,none,none];unfold b05;rw[aR];walk_at "u";refine⟨ac,?_⟩
 unfold bS4;rw[aR];simp only[aJ];walk_at "u";unfold bS3;rw[aR];refine bJ n (λi=> .int (0+(i:Int))) [some<|.pu<|aJ p,some<|.pu<|aJ<|rwF n u,some<|.pu<|.int (n:Int),some<|.pu<|aJ<|rwF n tnF,some<|.ow<|tbF 0 n<|itT p n u,some<|.pu<|aJ<|rwF n<|itT p n u 0,none] (λQ' q=> ?_)
  (λi ρ=> ∃x,ρ=[some<|.pu<|aJ p,some<|.pu<|aJ<|rwF n u,some<|.pu<|.int (n:Int),some<|.pu<|aJ<|rwF n tnF,some<|.ow<|tbF i n<|itT p n u,some<|.pu<|aJ<|rwF n<|itT p n u i,x]) ⟨none,rfl⟩ ?_ ?_
 ·walk_at "u"
  refine⟨⟨ad,ad⟩,?_⟩
  rw[cP];exact q
 ·rintro i ρ hi' ⟨x,rfl⟩;walk_at "u";rw[mZ];refine⟨ac,aY (show i<10 by lia) ac,p,n,e+27,tnF,cz n<|itT p n u i,?_,rp,hn,ad,λj=>bS1 _ j,?_,λj hj=>bZ1 n2 hj,λj hj=>cJ4 hj,?_⟩
  ·rw[dB1]
  ·exact c92 λj=>aM (yF (n:=n) rp.ok.small hu i j) (iD ac ad)
  ·rw[dB3 n2 n4,dB4];exact⟨_,rfl⟩
 ·rintro ρ ⟨x,rfl⟩;dsimp only;unfold bS2;walk_at "u";exact h
def mQ (n:Nat):Φ:=λds Q=> ∃t:List (List Int),ds=[.lst<|t.map aJ]/\Sq n t/\Q (.pu<|.int<|gC n t)
def cJ5 (mQ:Φ):US:=(aU (jA (gA<|uOp (jH false) (kO<|aV 0)<|uC<|.int 1) (cY<|uIx (uV<|uIx (aV 0)<|uC<|.int 0)<|uC<|.int 0) gB)<|aU (bT 1<|uC<|.int 0)<|aU (jD (gS<|a9 (kO<|aV 0) aK) (cC 2)<|aU (bT 3<|dS [] [none,none] 1 (gR<|uOp hX (uSl (aV 0) i7<|jG<|aB 2)<|uSl (aV 0) (jG<|uOp hX (aB 2)<|uC<|.int 1) i7) (cC 0) (λρ Q=>Q true ρ)<|uSl (aV 0) (jG<|uC<|.int 1) i7)<|bT 1<|uOp hX (aB 1)<|uOp hZ (uOp hZ (uOp M.gSub (uC<|.int 1)<|uOp hZ (uC<|.int 2)<|uOp oJ (aB 2)<|uC<|.int 2)<|uIx (uV<|uIx (aV 0)<|aB 2)<|uC<|.int 0)<|aQ mQ<|a9 (aB 3) aK)<|pA 1)
theorem b87 (n:Nat): ∀ds Q,mQ n ds Q->ds.length=1:=by rintro ds Q ⟨a,rfl,_⟩;rfl
theorem dB6: ∀ds Q,¬mQ 0 ds Q:=by
 rintro ds Q ⟨t,rfl,sq,_⟩;have:=sq.pos;have:=sq.le
 lia
theorem cJ6 {t:List (List Int)}{i:Nat}{o y:Option B}{Q:B->Ev->Prop}(hi:i<t.length)(h1000:t.length<=1000)(hr: ∀r∈t,1<=r.length)(h:Q (.ow<|((t.eraseIdx i).map List.tail).map aJ) [some<|.pu<|.lst<|t.map aJ,o,some<|.pu<|.int (i:Int),y]) :
  dS [] [none,none] 1 (gR<|uOp hX (uSl (aV 0) i7<|jG<|aB 2)<|uSl (aV 0) (jG<|uOp hX (aB 2)<|uC<|.int 1) i7) (cC 0) (λρ Q=>Q true ρ) (uSl (aV 0) (jG<|uC<|.int 1) i7) [some<|.pu<|.lst<|t.map aJ,o,some<|.pu<|.int (i:Int),y] Q:=by
 have hl:(t.map aJ).length=t.length:=aG _;have e1:cutD (t.map aJ) none (some (i:Int))=(t.take i).map aJ:=by rw[bD0 _ _ ad,j4]
 have e2:cutD (t.map aJ) (some<|(i:Int)+1) none=(t.drop<|i+1).map aJ:=by
  have:=uE (t.map aJ) (i+1) ad
  rw[pW]
  exact_mod_cast this
 have e3:(t.take i).map aJ++(t.drop<|i+1).map aJ=(t.eraseIdx i).map aJ:=by rw[<-bV,<-List.eraseIdx_eq_take_drop_succ]
 have le:(t.eraseIdx i).length=t.length-1:=aJ8 hi;refine eV (t0:=0) ((t.eraseIdx i).map aJ).length (λk=>((t.eraseIdx i).map aJ).getD k .non) [some<|.pu<|.lst<|t.map aJ,o,some<|.pu<|.int (i:Int),y] ?_ (by rw[aG];lia)
  (λx l=>[x,some<|.ow l]) none rfl (λ_ _ _=>rfl) (λ_ _=>cQ _) (λ_ _ _ q=>q) (λ_ _ _=>rfl) (λk=>aJ (((t.eraseIdx i).getD k []).tail)) ?_ ?_
 ·intro Q' q;simp only[gR];walk_at "u";refine⟨?_,?_⟩
  ·rw[e1,e2,aG,aG,pT,nK];exact aM (show _<=2000 by lia) ac
  ·rw[e1,e2,e3];exact q
 ·intro k l Q' hk q;rw[aG]at hk;have ek:((t.eraseIdx i).map aJ).getD k .non=aJ ((t.eraseIdx i).getD k []):=by
   rw[aI,aI,b7,aO hk];rfl
  have hm:1<=((t.eraseIdx i).getD k []).length:=by
   rw[aI,aO hk];exact hr _ (yW<|bS hk)
  rw[ek]at q⊢;generalize (t.eraseIdx i).getD k []=r at hm q;simp only[aJ]at q⊢;walk_at "u";have lr:(r.map D.int).length=r.length:=aG _;have ec:cutD (r.map D.int) (some 1) none=r.tail.map D.int:=by
   have:=uE (r.map D.int) 1 ad
   rw[show((1:Nat):Int)=1 from rfl]at this
   rw[this,<-pW,drop_one]
  refine⟨?_,by rw[ec];exact q⟩
  rw[lr];have:HT.sIx r.length 0 (some 1)=min 1 r.length:=HT.sIx_nat r.length 0 1;rw[this];lia
 ·have em:(List.range ((t.eraseIdx i).map aJ).length).map (λk=>aJ (((t.eraseIdx i).getD k []).tail))=((t.eraseIdx i).map List.tail).map aJ:=by
   rw[aG];apply kY
   ·simp
   ·intro k h1 h2;simp at h1;simp[h1,aI]
  rw[em];exact h
theorem bZ2 (n:Nat)(hn:n<4): ∀ds Q,mQ (n+1) ds Q->cJ5 (mQ n) {nx:=λ_=>Q (.pu .non),rt:=Q} (init ["t","o","i","m"] ds):=by
 rintro ds Q ⟨t,rfl,sq,h⟩;have hp:=sq.pos;have hle:=sq.le;have lt:(t.map aJ).length=t.length:=aG _;have lrow: ∀i,i<t.length->0< (t.getD i []).length:=λi hi=>by
  rw[aI,aO hi];have:=sq.row _ (bS hi);show 0< (t[i]).length
  lia
 unfold cJ5;show(aU _ _:US) _ [some<|.pu<|.lst<|t.map aJ,none,none,none];walk_at "u";rw[lt];split
 ·rename_i h1
  have h1':t.length=1:=ad
  have:=b83 (t:=t) (i:=0) ad
  rw[show(0:Int)+((0:Nat):Int)=0 from rfl]at this
  rw[this];simp only[aJ];rw[a88<|lrow 0 ad]
  unfold gC at h;rw[a7 h1']at h;exact h
 ·rename_i h1
  have h1':t.length≠1:=ad
  unfold gC at h;rw[a6 h1']at h;refine bJ t.length (λi=> .int (0+i)) [some<|.pu<|.lst<|t.map aJ,some<|.pu<|.int 0,none,none] ?_ (λi ρ=> ∃x y,ρ=[some<|.pu<|.lst<|t.map aJ,some<|.pu<|.int ((List.range i).map λi=>(if i%2=0 then 1 else -1)*(t.getD i []).getD 0 0*gC n ((t.eraseIdx i).map List.tail)).sum,x,y]) ?_ ?_ ?_
  ·intro Q' q;simp only[gS];walk_at "u";rw[lt];refine⟨⟨ad,ad⟩,?_⟩
   rw[cP];exact q
  ·exact⟨none,none,rfl⟩
  ·rintro i ρ hi ⟨x,y,rfl⟩;rw[bI];refine⟨ae,?_⟩
   dsimp only[set_cons_zero,set_cons_succ];rw[aR,lN];refine cJ6 hi ad (λr hr=>by rw[sq.row r hr];exact hp) ?_
   walk_at "u"
   have ai:=b83 hi;rw[bI]at ai;rw[ai,dE _ ad]
   simp only[aJ];rw[a88<|lrow i hi];have e1:1-2*((i:Int)%2)=(if i%2=0 then(1:Int)else -1):=by
    split<;>lia
   have eg:t.getD i []=t[i]:=by rw[aI,aO hi];rfl
   have en:((t.getD i []).getD 0 0).natAbs<=2^2000:=by
    have h0:=lrow i hi;rw[eg]at h0⊢;rw[aI,aO h0];exact nS (sq.small _ (bS hi) _<|bS h0)
   have se:Sm ((t.getD i []).getD 0 0):=Sm.pow en ac
   have sg:Sm (if i%2=0 then(1:Int)else -1):=by split<;>exact bC5 ac ac
   have sp:Sm ((if i%2=0 then(1:Int)else -1)*(t.getD i []).getD 0 0):=by
    refine Sm.pow (k:=2000) ?_ ac
    rw[fL];have e1:(if i%2=0 then(1:Int)else -1).natAbs=1:=by split<;>rfl
    rw[e1,one_mul];exact en
   have sd:Sm (gC n<|(t.eraseIdx i).map List.tail):=Sm.pow (aZ0 n _ ad<|sq.less h1' hi) ad
   have sm:Sm ((i:Int)%2):=bC5 ad ad
   rw[e1];refine⟨ac,.inr ⟨bC5 ac ac,sm⟩,.inr ⟨sg,se⟩,(t.eraseIdx i).map List.tail,rfl,sq.less h1' hi,.inr ⟨sp,sd⟩,?_⟩
   rw[bW,bV,aO1];simp
  ·rintro ρ ⟨x,y,rfl⟩;walk_at "u";exact h
inductive Gen (n:Nat) (R:(Nat->Int)->Prop):(Nat->Int)->Prop
 | base {r}:R r->Gen n R r
 | zero:Gen n R λ_=>0
 | comb {a b} (k:Int):Gen n R a->Gen n R b->Gen n R λj=>a j+k*b j
 | cong {a b}:Gen n R a->(∀j,j<n->a j=b j)->Gen n R b
theorem Gen.mono {n:Nat}{R S:(Nat->Int)->Prop}(h: ∀r,R r->Gen n S r): ∀{v:Nat->Int},Gen n R v->Gen n S v:=by
 intro v hv
 induction hv with
 | base h1=>exact h _ h1
 | zero=>exact .zero
 | comb k _ _ i1 i2=>exact .comb k i1 i2
 | cong _ h1 i1=>exact .cong i1 h1
theorem Gen.mul {n:Nat}{R:(Nat->Int)->Prop}{v:Nat->Int}(h:Gen n R v)(k:Int):Gen n R λj=>k*v j:=(Gen.comb k .zero h).cong λj _=>ad
theorem Gen.sub {n:Nat}{R:(Nat->Int)->Prop}{a b:Nat->Int}(h:Gen n R a)(h2:Gen n R b):Gen n R λj=>a j-b j:=(Gen.comb (-1) h h2).cong λj _=>ad
theorem Gen.add {n:Nat}{R:(Nat->Int)->Prop}{a b:Nat->Int}(h:Gen n R a)(h2:Gen n R b):Gen n R λj=>a j+b j:=(Gen.comb 1 h h2).cong λj _=>ad
def Rows (n:Nat)(t:Nat->Nat->Int)(v:Nat->Int):Prop:= ∃i,i<n/\v=t i
noncomputable def yG (t:Nat->Nat->Int)(c:Nat->Int):Nat->Nat->Int
 | 0,_=>0
 | i+1,j=>yG t c i j+c i*t i j
theorem bS5 (t:Nat->Nat->Int)(a b:Nat->Int)(k:Int): ∀n j,yG t (λi=>a i+k*b i) n j=yG t a n j+k*yG t b n j
 | 0,_=>by show(0:Int)=0+k*0;lia
 | n+1,j=>by
  show yG t _ n j+(a n+k*b n)*t n j=yG t a n j+a n*t n j+k*(yG t b n j+b n*t n j)
  rw[bS5 t a b k n j]
  grind
theorem bS6 (t:Nat->Nat->Int): ∀n j,yG t (λ_=>0) n j=0
 | 0,_=>rfl
 | n+1,j=>by show yG t _ n j+0*t n j=0;rw[bS6 t n j];lia
theorem c93 (t:Nat->Nat->Int)(i:Nat): ∀n j,yG t (λl=>if l=i then 1 else 0) n j=if i<n then t i j else 0
 | 0,_=>by rw[a6 ad];rfl
 | n+1,j=>by
  show yG t _ n j+(if n=i then 1 else 0)*t n j=_
  rw[c93 t i n j]
  by_cases h:n=i
  ·subst h;rw[a6 ad,a7 rfl,a7 ad]
   lia
  ·rw[a6 h]
   by_cases h2:i<n
   ·rw[a7 h2,a7 ad];lia
   ·rw[a6 h2,a6 ad];lia
theorem Gen.sum {n k:Nat}{t:Nat->Nat->Int}{v:Nat->Int}(h:Gen n (Rows k t) v): ∃c:Nat->Int,∀j,j<n->v j=yG t c k j:=by
 induction h with
 | base h=>
  obtain⟨i,hi,rfl⟩:=h;exact⟨_,λj _=>by rw[c93,a7 hi]⟩
 | zero=>exact⟨_,λj _=>(bS6 t k j).symm⟩
 | comb q _ _ i1 i2=>
  obtain⟨a,ha⟩:=i1;obtain⟨b,hb⟩:=i2;exact⟨λi=>a i+q*b i,λj hj=>by rw[bS5,<-ha j hj,<-hb j hj]⟩
 | cong _ h1 i1=>
  obtain⟨a,ha⟩:=i1;exact⟨a,λj hj=>by rw[<-h1 j hj,ha j hj]⟩
theorem cQ5 {n:Nat}{t:Nat->Nat->Int}(c:Nat->Int): ∀k,Gen n (Rows k t) (yG t c k)
 | 0=> .zero
 | k+1=> .comb (c k) ((cQ5 c k).mono λr ⟨i,hi,e⟩=> .base ⟨i,ad,e⟩) (.base ⟨k,ad,rfl⟩)
structure Tri (n:Nat)(t:Nat->Nat->Int):Prop where
 pos: ∀i,i<n->1<=t i i
 zero: ∀i,i<n-> ∀j,i<j->t i j=0
theorem bF8 {n:Nat}{t:Nat->Nat->Int}(T:Tri n t)(c:Nat->Int): ∀k j,k<=n->k<=j->yG t c k j=0
 | 0,_,_,_=>rfl
 | k+1,j,hk,hj=>by
  show yG t c k j+c k*t k j=0
  rw[bF8 T c k j ad ad,T.zero k ad j ad]
  lia
theorem Tri.cut {n:Nat}{t:Nat->Nat->Int}(T:Tri n t){v c:Nat->Int}: ∀(d k i:Nat),k-i=d->k<=n->i<=k->(∀j,j<n->v j=yG t c k j)->(∀j,i<=j->j<n->v j=0)-> ∀j,j<n->v j=yG t c i j
 | 0,k,i,hd,hk,hi,h,_=>by
  have:k=i:=ad
  subst this;exact h
 | d+1,k,i,hd,hk,hi,h,hz=>by
  obtain⟨k',rfl⟩: ∃k',k=k'+1:=⟨k-1,ad⟩
  have e:=h k' ad
  rw[hz k' ad ad]at e
  have e2:(0:Int)=yG t c k' k'+c k'*t k' k':=e;rw[bF8 T c k' k' ad<|aE _]at e2
  have p:=T.pos k' ad
  have c0:c k'=0:=by
   rcases Int.mul_eq_zero.mp (show c k'*t k' k'=0 by lia)with z|z
   ·exact z
   ·lia
  refine T.cut d k' i ad ad ad (λj hj=> ?_) hz
  rw[h j hj];show yG t c k' j+c k'*t k' j=_;rw[c0]
  lia
theorem Tri.gen_cut {n:Nat}{t:Nat->Nat->Int}(T:Tri n t){v:Nat->Int}(h:Gen n (Rows n t) v){i:Nat}(hi:i<=n)(hz: ∀j,i<=j->j<n->v j=0):Gen n (Rows i t) v:=by
 obtain⟨c,hc⟩:=h.sum;exact(cQ5 c i).cong λj hj=>(T.cut (n-i) n i rfl (aE _) hi hc hz j hj).symm
theorem Tri.lead {n:Nat}{t:Nat->Nat->Int}(T:Tri n t){v:Nat->Int}(h:Gen n (Rows n t) v){i:Nat}(hi:i<n)(hz: ∀j,i<j->j<n->v j=0):t i i∣v i:=by
 obtain⟨c,hc⟩:=h.sum;have e:=T.cut (n-(i+1)) n (i+1) rfl (aE _) hi hc hz i hi;have e2:v i=yG t c i i+c i*t i i:=e;rw[bF8 T c i i ad<|aE _]at e2
 exact⟨c i,by rw[e2,gY];lia⟩
structure bS7 (n:Nat)(t:Nat->Nat->Int):Prop extends Tri n t where
 ahead: ∀i,i<n-> ∀j,j<i->0<=t i j/\t i j<t j j
theorem bS7.uniq {n:Nat}{t u:Nat->Nat->Int}(T:bS7 n t)(U:bS7 n u)(h1: ∀i,i<n->Gen n (Rows n u) (t i))(h2: ∀i,i<n->Gen n (Rows n t) (u i)): ∀i,i<n-> ∀j,j<n->t i j=u i j:=by
 have diag: ∀i,i<n->t i i=u i i:=λi hi=>by
  have a:=U.toTri.lead (h1 i hi) hi λj hj hn=>T.zero i hi j hj
  have b:=T.toTri.lead (h2 i hi) hi λj hj hn=>U.zero i hi j hj
  have p1:=T.pos i hi;have p2:=U.pos i hi;have:=j6 ad a
  have:=j6 ad b
  lia
 intro i hi;have g:Gen n (Rows n t) λj=>t i j-u i j:=(Gen.base ⟨i,hi,rfl⟩).sub (h2 i hi)
 have main: ∀(d k:Nat),n-k=d->k<=n-> ∀j,k<=j->j<n->t i j-u i j=0:=by
  intro d
  induction d with
  | zero=>intro k hd hk j h1 h2;lia
  | succ d ih=>
   intro k hd hk j hj hn
   by_cases e:k=j
   ·subst e;have dv:=T.toTri.lead g hn λj h1 h2=>ih (k+1) ad ad j ad h2
    by_cases c1:k<i
    ·obtain⟨a1,a2⟩:=T.ahead i hi k c1;obtain⟨b1,b2⟩:=U.ahead i hi k c1;have dg:=diag k ad
     obtain⟨q,hq⟩:=dv;have p1:=T.pos k hn;have q0:q=0:=by
      rcases aN4 q 0 with z|z|z
      ·have:t k k*q<=t k k*(-1):=kP ad ad
       lia
      ·exact z
      ·have:t k k*1<=t k k*q:=kP ad ad
       lia
     rw[hq,q0]
     lia
    ·by_cases c2:k=i
     ·subst c2;have:=diag k hn;lia
     ·rw[T.zero i hi k ad,U.zero i hi k ad];lia
   ·exact ih (k+1) ad ad j ad hn
 intro j hj;have:=main n 0 ad ad j ad hj
 lia
noncomputable def mE (m:Int)(i:Nat):Nat->Int:=λj=>if j=i then m else 0
def RM (n:Nat)(m:Int)(R:(Nat->Int)->Prop)(v:Nat->Int):Prop:=R v\/ ∃i,i<n/\v=mE m i
theorem Gen.modE {n:Nat}{R:(Nat->Int)->Prop}{m:Int}{a b:Nat->Int}: ∀(k:Nat),k<=n->(∀i,i<k->Gen n R (mE m i))->Gen n R a->(∀j,j<k->m∣a j-b j)->(∀j,k<=j->j<n->a j=b j)->Gen n R b
 | 0,_,_,h,_,hz=>h.cong λj hj=>hz j ad hj
 | k+1,hk,hm,h,hd,hz=>by
  obtain⟨q,hq⟩:=hd k ad
  have h1:Gen n R λj=>a j+(-q)*mE m k j:= .comb (-q) h (hm k ad)
  refine Gen.modE k ad (λi hi=>hm i ad) h1 (λj hj=> ?_) (λj h1 h2=> ?_)
  ·have:mE m k j=0:=a6 ad
   rw[this];obtain⟨p,hp⟩:=hd j ad
   exact⟨p,ad⟩
  ·by_cases e:j=k
   ·subst e;have:mE m j j=m:=a7 rfl;rw[this,Int.neg_mul,gY q m]
    lia
   ·have:mE m k j=0:=a6 e;rw[this,hz j ad h2]
    lia
def RLs (n:Nat)(u:Nat->Nat->Int)(l:Nat->Int)(v:Nat->Int):Prop:=Rows n u v\/v=l
noncomputable def oY (u:Nat->Nat->Int)(l:Nat->Int)(m g s t:Int)(i:Nat):Nat->Nat->Int:=λr j=>if r=i then(if j<i then(s*u i j+t*l j)%m else if j=i then g else 0)else u r j
noncomputable def aP3 (u:Nat->Nat->Int)(l:Nat->Int)(m A B:Int)(i:Nat):Nat->Int:=λj=>if j<i then(A*l j+(-B)*u i j)%m else 0
theorem cQ6 (x m:Int):m∣x-x%m:=⟨x/m,by have:=gI x m;omega⟩
theorem c94 (x m:Int):m∣x%m-x:=⟨-(x/m),by have:=gI x m;rw[tX];lia⟩
theorem dN4 {n i:Nat}{u:Nat->Nat->Int}{l:Nat->Int}{m g s t A B:Int}(hi:i<n)(T:Tri n u)(hE: ∀j,j<i->Gen n (Rows i u) (mE m j))(lz: ∀j,i<j->l j=0)(ha:u i i=g*A)(hb:l i=g*B)(hd:s*A+t*B=1)(g1:1<=g) :
  Tri n (oY u l m g s t i)/\(∀v,Gen n (RLs n (oY u l m g s t i)<|aP3 u l m A B i) v↔Gen n (RLs n u l) v):=by
 have nr: ∀r,r≠i->oY u l m g s t i r=u r:=λr hr=>by funext j;exact a6 hr
 refine⟨⟨λr hr=> ?_,λr hr j hj=> ?_⟩,?_⟩
 ·by_cases e:r=i
  ·subst e;show 1<=oY u l m g s t r r r;unfold oY;rw[a7 rfl,a6 ad,a7 rfl]
   exact g1
  ·rw[nr r e];exact T.pos r hr
 ·by_cases e:r=i
  ·subst e;unfold oY;rw[a7 rfl,a6 ad,a6 ad]
  ·rw[nr r e];exact T.zero r hr j hj
 have E1: ∀j,j<i->Gen n (RLs n u l) (mE m j):=λj hj=>(hE j hj).mono λr ⟨q,hq,e⟩=> .base (.inl ⟨q,ad,e⟩)
 have E2: ∀j,j<i->Gen n (RLs n (oY u l m g s t i)<|aP3 u l m A B i) (mE m j):=λj hj=>(hE j hj).mono λr ⟨q,hq,e⟩=> .base (.inl ⟨q,ad,by rw[nr q ad];exact e⟩)
 have H1:Gen n (RLs n u l) (u i):= .base (.inl ⟨i,hi,rfl⟩);have L1:Gen n (RLs n u l) l:= .base (.inr rfl);have X1:Gen n (RLs n u l) λj=>s*u i j+t*l j:=(H1.mul s).comb t L1
 have Y1:Gen n (RLs n u l) λj=>A*l j+(-B)*u i j:=(L1.mul A).comb (-B) H1
 have xi:s*u i i+t*l i=g:=by rw[ha,hb];grind
 have yi:A*l i+(-B)*u i i=0:=by rw[ha,hb];grind
 have above: ∀j,i<j->u i j=0:=λj hj=>T.zero i hi j hj
 have X2:Gen n (RLs n (oY u l m g s t i)<|aP3 u l m A B i) λj=>s*u i j+t*l j:=by
  refine Gen.modE i ad E2 (Gen.base<|.inl ⟨i,hi,rfl⟩) (λj hj=> ?_) (λj h1 h2=> ?_)
  ·show m∣oY u l m g s t i i j-_
   unfold oY;rw[a7 rfl,a7 hj];exact c94 _ _
  ·show oY u l m g s t i i j=_
   unfold oY;rw[a7 rfl,a6 ad]
   by_cases e:j=i
   ·subst e;rw[a7 rfl];exact xi.symm
   ·rw[a6 e,above j ad,lz j ad];lia
 have Y2:Gen n (RLs n (oY u l m g s t i)<|aP3 u l m A B i) λj=>A*l j+(-B)*u i j:=by
  refine Gen.modE i ad E2 (Gen.base<|.inr rfl) (λj hj=> ?_) (λj h1 h2=> ?_)
  ·show m∣aP3 u l m A B i j-_
   unfold aP3;rw[a7 hj];exact c94 _ _
  ·show aP3 u l m A B i j=_
   unfold aP3;rw[a6 ad]
   by_cases e:j=i
   ·subst e;exact yi.symm
   ·rw[above j ad,lz j ad];lia
 intro v;constructor
 ·refine Gen.mono λr hr=> ?_
  rcases hr with⟨q,hq,rfl⟩|rfl
  ·by_cases e:q=i
   ·subst e;refine Gen.modE q ad E1 X1 (λj hj=> ?_) (λj h1 h2=> ?_)
    ·show m∣_-oY u l m g s t q q j
     unfold oY;rw[a7 rfl,a7 hj];exact cQ6 _ _
    ·show _=oY u l m g s t q q j
     unfold oY;rw[a7 rfl,a6 ad]
     by_cases e:j=q
     ·subst e;rw[a7 rfl];exact xi
     ·rw[a6 e,above j ad,lz j ad];lia
   ·rw[nr q e];exact .base (.inl ⟨q,hq,rfl⟩)
  ·refine Gen.modE i ad E1 Y1 (λj hj=> ?_) (λj h1 h2=> ?_)
   ·show m∣_-aP3 u l m A B i j
    unfold aP3;rw[a7 hj];exact cQ6 _ _
   ·show _=aP3 u l m A B i j
    unfold aP3;rw[a6 ad]
    by_cases e:j=i
    ·subst e;exact yi
    ·rw[above j ad,lz j ad];lia
 ·refine Gen.mono λr hr=> ?_
  rcases hr with⟨q,hq,rfl⟩|hr
  ·by_cases e:q=i
   ·subst e;refine((X2.mul A).comb (-t) Y2).cong λj _=> ?_
    have:A*(s*u q j+t*l j)+ -t*(A*l j+ -B*u q j)=(s*A+t*B)*u q j:=by grind
    rw[this,hd];lia
   ·exact .base (.inl ⟨q,hq,by rw[nr q e]⟩)
  ·rw[hr];refine((X2.mul B).comb s Y2).cong λj _=> ?_
   have:B*(s*u i j+t*l j)+s*(A*l j+ -B*u i j)=(s*A+t*B)*l j:=by grind
   rw[this,hd];lia
structure GS (a b g s t:Int):Prop where
 g1:1<=g
 ga:g∣a
 gb:g∣b
 eq:g=s*a+t*b
 tb:t.natAbs<=2^600
 sb:s.natAbs<=2^1700
def uS:Φ:=λds Q=> ∃a b:Int,ds=[.int a,.int b]/\1<=a/\a<=2^600/\b.natAbs<=2^1000/\ ∀g s t,GS a b g s t->Q (.pu<|.tup [.int g,.int s,.int t])
def uT:US:=(cF6 4 5<|a9 (aB 5)<|a9 (uOp M.gSub (aB 4)<|uOp hZ (aB 6)<|aB 5) aK)
def uU:US:=(aU (cF6 2 3<|a9 (aB 3)<|a9 (uOp M.gSub (aB 2)<|uOp hZ (aB 6)<|aB 3) aK) uT)
def uW:US:=(aU (bT 6<|uOp aO4 (aB 2)<|aB 3) uU)
def yH:US:=(cY<|i6<|a9 (aB 2)<|a9 (uOp aO4 (uOp M.gSub (aB 2)<|uOp hZ (aB 4)<|aB 1)<|aB 0)<|a9 (aB 4) aK)
def yI:US:=(aU (aX9 (gA<|uOp (jH true) (aB 3)<|uC<|.int 0) uW) yH)
def yJ:US:=(aU (cF5 (i6<|a9 (uC<|.int 0)<|a9 (uC<|.int 1) aK)<|mV<|d8 4<|d8 5 mU) yI)
def uX:US:=(aU (cF6 2 3<|a9 (aB 0)<|a9 (uOp oJ (aB 1)<|aB 0) aK) yJ)
structure EI (a b g low t later:Int):Prop where
 g1:1<=g
 l0:0<=low
 lg:low<g
 ga:g<=a
 d1:a∣g-t*b
 d2:a∣low-later*b
 gc: ∀d:Int,d∣g->d∣low->d∣a/\d∣b
 sg: ∃e T L:Int,(e=1\/e= -1)/\0<=T/\0<=L/\t=e*T/\later= -e*L/\g*L+low*T=a/\T<=a
theorem EI.step {a b g low t later:Int}(h:EI a b g low t later)(l1:low≠0):EI a b low (g-g/low*low) later (t-g/low*later):=by
 obtain⟨g1,l0,lg,ga,d1,d2,gc,e,T,L,he,hT,hL,rfl,rfl,hs,hTa⟩:=h;have lp:0<low:=ad
 have em:=gI g low;have m0:=bY g (show low≠0 by lia)
 have m1:=bX g lp;have q0:0<=g/low:=Int.ediv_nonneg ad ad
 have ec:g/low*low=low*(g/low):=gY _ _;generalize g/low=q at *;refine⟨ad,ad,ad,ad,d2,?_,?_,-e,L,T+q*L,?_,hL,?_,?_,?_,?_,?_⟩
 ·obtain⟨x,hx⟩:=d1;obtain⟨y,hy⟩:=d2;exact⟨x-q*y,by rw[Int.mul_sub,<-hx,show a*(q*y)=q*(a*y)by grind,<-hy];grind⟩
 ·intro d h1 h2;refine gc d ?_ h1;have:=tY h2 (Int.dvd_trans h1 ⟨q,ec⟩);rw[show g-q*low+q*low=g by lia]at this
  exact this
 ·lia
 ·have:=mul_nonneg q0 hL;lia
 ·rfl
 ·grind
 ·have:low*(T+q*L)+(g-q*low)*L=g*L+low*T:=by grind
  rw[this];exact hs
 ·have:L*1<=L*g:=kP g1 hL;have:=mul_nonneg l0 hT;rw[gY L g]at *
  lia
theorem sM {x:Int}{e:Nat}(h:x.natAbs<=2^e)(he:e<9000):Sm x:=Sm.pow h he
theorem bF9: ∀ds Q,uS ds Q->uX {nx:=λ_=>Q (.pu .non),rt:=Q} (init ["a","b","g","l","t","r","m"] ds):=by
 rintro ds Q ⟨a,b,rfl,a1,a2,b2,h⟩;unfold uX;show(aU _ _:US) _ [some<|.pu<|.int a,some<|.pu<|.int b,none,none,none,none,none];rw[aR];walk_at "u";rw[dE _ ad]
 refine⟨ad,?_⟩
 unfold yJ;rw[aR];walk_at "u";unfold yI;rw[aR];have a600:a.natAbs<=2^600:=ad
 refine⟨ac,ac,ac,trivial,?_⟩
 refine⟨λk ρ=> ∃g low t later m,ρ=[some<|.pu<|.int a,some<|.pu<|.int b,some<|.pu<|.int g,some<|.pu<|.int low,some<|.pu<|.int t,some<|.pu<|.int later,m]/\k=low.toNat/\EI a b g low t later,⟨_,a,b%a,0,1,none,rfl,rfl,?_⟩,?_⟩
 ·have em:=gI b a;refine⟨a1,bY _ ad,bX _ ad,Int.le_refl _,⟨1,ad⟩,⟨-(b/a),?_⟩,λd h1 h2=>⟨h1,?_⟩,-1,0,1,.inr rfl,ad,ad,ad,ad,ad,ad⟩
  ·rw[tX];lia
  ·have:=tY h2 (Int.dvd_trans h1<|aN5 a<|b/a);rw[em]at this;exact this
 ·rintro k ρ ⟨g,low,t,later,m,rfl,rfl,I⟩;walk_at "u";have g1:=I.g1;have l0:=I.l0;have lg:=I.lg;have ga:=I.ga;have sg:Sm g:=sM (e:=600) ad ad
  have slow:Sm low:=sM (e:=600) ad ad
  have hst:t.natAbs<=2^600/\later.natAbs<=2^600:=by
   obtain⟨e,T,L,he,hT,hL,ht,hl,hs,hTa⟩:=I.sg;have:L*1<=L*g:=kP g1 hL;have:=mul_nonneg l0 hT;rw[gY L g]at *;rcases he with rfl|rfl<;>lia
  by_cases c:low=0
  ·rw[a6 ad]
   unfold yH;walk_at "u";have ea:g∣a/\g∣b:=I.gc g (zW _) (by rw[c];exact Int.dvd_zero _)
   have dv:=I.d1;obtain⟨q,hq⟩:=dv;have ed:(g-t*b)/a=q:=by rw[hq,aK2 _ ad]
   have sb:(t*b).natAbs<=2^600*2^1000:=by rw[fL];exact j2 hst.1 b2
   have e16:(2:Nat)^600*2^1000=2^1600:=by rw[<-j8]
   rw[e16]at sb;have e17:(2:Nat)^600+2^1600<=2^1700:=af
   have gb:g.natAbs<=2^600:=ad
   have sm1:(g-t*b).natAbs<=2^1700:=by
    have:=zG g (t*b);generalize (g-t*b).natAbs=x at *;generalize (t*b).natAbs=y at *
    lia
   rw[l7 _ ad,ed]
   refine⟨.inr ⟨sM hst.1 ad,sM b2 ad⟩,⟨ad,sM a600 ad⟩,ac,h g q t ⟨g1,ea.1,ea.2,?_,hst.1,?_⟩⟩
   ·rw[gY q a];lia
   ·have:q=(g-t*b)/a:=ed.symm;rw[this];exact aM (pI _ _) sm1
  ·rw[a7 c];have st:=I.step c;unfold uW;rw[aR];walk_at "u";rw[l7 _ ad]
   refine⟨⟨ad,slow⟩,?_⟩
   have qb:(g/low).natAbs<=2^600:=aM (pI _ _) ad
   unfold uU;rw[aR];walk_at "u";refine⟨.inr ⟨sM qb ad,slow⟩,?_⟩
   unfold uT;walk_at "u";refine⟨.inr ⟨sM qb ad,sM hst.2 ad⟩,_,?_,_,_,_,_,_,rfl,rfl,st⟩
   have:=st.l0;have:=st.lg
   lia
def a21:Φ:=λds Q=> ∃(s t m:Int) (n1 n2 k:Nat) (f h:Nat->Int),ds=[.int s,aJ<|rwF n1 f,.int t,aJ<|rwF n2 h,.int m,.int (k:Int)]/\k<=n1/\k<=n2/\n1<=100/\n2<=100/\1<=m/\m<=2^600/\s.natAbs<=2^1700/\t.natAbs<=2^1700/\(∀j,(f j).natAbs<=2^1000)/\(∀j,(h j).natAbs<=2^1000)/\Q (.pu<|aJ<|rwF k λj=>(s*f j+t*h j)%m)
def aP4:US:=(cY<|aQ cX<|a9 (dS [0,2,4] [none,none,some 0,some 2,some 4,none] 5 (dJ4<|a9 (c53 (aB 1) i7<|jG<|aB 5)<|a9 (c53 (aB 3) i7<|jG<|aB 5) aK) (mV<|d8 0<|d8 1 mU) (λρ Q=>Q true ρ)<|uOp oJ (uOp hX (uOp hZ (aB 2)<|aB 0)<|uOp hZ (aB 3)<|aB 1)<|aB 4) aK)
theorem bZ3 {n k:Nat}{f:Nat->Int}(h:k<=n):cutD ((rwF n f).map D.int) none (some (k:Int))=(rwF k f).map D.int:=by
 rw[bD0 _ _ (by rw[aZ];exact h),<-j4]
 congr 1
 unfold rwF;rw[<-j4,List.take_range,nN h]
theorem cJ7: ∀ds Q,a21 ds Q->aP4 {nx:=λ_=>Q (.pu .non),rt:=Q} (init ["s","o","t","h","m","z"] ds):=by
 rintro ds Q ⟨s,t,m,n1,n2,k,f,h,rfl,k1,k2,n1b,n2b,m1,m2,sb,tb,fb,hb,q0⟩;unfold aP4;show(cY _:US) _ [some<|.pu<|.int s,some<|.pu<|aJ<|rwF n1 f,some<|.pu<|.int t,some<|.pu<|aJ<|rwF n2 h,some<|.pu<|.int m,some<|.pu<|.int (k:Int)];rw[iV,eK,dG];simp only[aJ]
 refine bD3 (t0:=0) (t1:=1) k (λj=>((rwF k f).map D.int).getD j .non) (λj=>((rwF k h).map D.int).getD j .non) [some<|.pu<|.int s,some<|.pu<|.tup<|(rwF n1 f).map .int,some<|.pu<|.int t,some<|.pu<|.tup<|(rwF n2 h).map .int,some<|.pu<|.int m,some<|.pu<|.int (k:Int)] ?_ ad
  (λx y l=>[x,y,some<|.pu<|.int s,some<|.pu<|.int t,some<|.pu<|.int m,some<|.ow l]) none none rfl (λ_ _ _ _ _=>rfl) (λ_ _ _=>⟨ae,ae⟩) (λ_ _ _ _ q=>q) (λ_ _ _ _=>rfl) (λj=> .int ((s*f j+t*h j)%m)) ?_ ?_
 ·intro Q' q;walk_at "u";rw[bZ3 k1,bZ3 k2,aZ,aZ,Nat.min_self];exact q
 ·intro j l Q' hj q;rw[rH hj,rH hj]at q⊢;walk_at "u";rw[dE _ ad]
  exact⟨.inr ⟨sM sb ad,sM (fb j) ad⟩,.inr ⟨sM tb ad,sM (hb j) ad⟩,ad,q⟩
 ·walk_at "u"
  rw[uI];exact q0
structure TOk (n:Nat)(m:Int)(t:Nat->Nat->Int):Prop extends Tri n t where
 m1:1<=m
 m2:m<=2^600
 lo: ∀i j,0<=t i j
 hi: ∀i j,t i j<=m
 all: ∀i,i<n->Gen n (Rows n t) (mE m i)
def wV:Φ:=λds Q=> ∃(n:Nat) (m:Int) (t:Nat->Nat->Int) (f:Nat->Int),ds=[.lst<|tbF n n t,.int m,aJ<|rwF n f]/\n<=8/\TOk n m t/\(∀j,(f j).natAbs<=2^1000)/\(∀j,n<=j->f j=0)/\ ∀u,TOk n m u->(∀v,Gen n (Rows n u) v↔Gen n (RLs n t f) v)->Q (.ow<|tbF n n u)
def vT:US:=(bT 4<|aQ a21<|a9 (uOp aO4 (uIx (aV 6)<|aB 5)<|aB 7)<|a9 (aB 4)<|a9 (uOp aO4 (rD<|uIx (aV 4)<|aB 5)<|aB 7)<|a9 (aB 6)<|a9 (aB 1)<|a9 (aB 5) aK)
def vU:US:=(aU (bA8 3 (uOp hX (uOp hX (aQ a21<|a9 (aB 8)<|a9 (aB 6)<|a9 (aB 9)<|a9 (aB 4)<|a9 (aB 1)<|a9 (aB 5) aK)<|i6<|a9 (aB 7) aK)<|c53 (aB 6) (jG<|uOp hX (aB 5)<|uC<|.int 1) i7)<|aB 5) vT)
def vV:US:=(aU (cF5 (aQ uS<|a9 (uIx (aV 6)<|aB 5)<|a9 (uIx (aV 4)<|aB 5) aK)<|mV<|d8 7<|d8 8<|d8 9 mU) vU)
def oQ:US:=(aU (bT 6<|uIx (aV 3)<|aB 5) vV)
def a60:US:=(pA 3)
def a61:US:=(aU (jD (c55<|a9 (kO<|aV 2) aK) (cC 5) oQ) a60)
def a62:US:=(aU (bT 4<|aB 2) a61)
def wW:US:=(aU (bT 3<|aQ aE4<|a9 (aB 0) aK) a62)
theorem dB7 {n i:Nat}{u:Nat->Nat->Int}{l:Nat->Int}{m g s t:Int}(hi:i<n)(hz: ∀j,i<j->u i j=0) :
  (rwF i λj=>(s*u i j+t*l j)%m).map D.int++[D.int g]++cutD ((rwF n<|u i).map D.int) (some<|(i:Int)+1) none=(rwF n<|oY u l m g s t i i).map D.int:=by
 rw[show(i:Int)+1=((i+1:Nat):Int)by lia,uE _ _ (by rw[aZ];lia)]
 apply nJ
 intro j
 by_cases h1:j<i
 ·rw[gH (by simp[rwF];lia),gH (by simp[rwF];lia),gE h1,gE ad]
  congr 2
  unfold oY;rw[a7 rfl,a7 h1]
 ·by_cases h2:j=i
  ·subst h2;rw[gH<|by simp[rwF],gU<|by simp[rwF],aZ,j7,gE hi]
   unfold oY;rw[a7 rfl,a6 h1,a7 rfl];rfl
  ·rw[gU (by simp[rwF];lia),List.getElem?_drop]
   simp only[bN,aZ,eO,nF];rw[show i+1+(j-(i+1))=j by lia]
   by_cases h3:j<n
   ·rw[gE h3,gE h3,hz j ad]
    unfold oY;rw[a7 rfl,a6 h1,a6 h2]
   ·rw[fK (by rw[aZ];lia),fK (by rw[aZ];lia)]
theorem dN5 {n m i:Nat}{u u':Nat->Nat->Int}(hi:i<n)(h: ∀r,r≠i->u' r=u r):(tbF n m u).set i (aJ<|rwF m<|u' i)=tbF n m u':=by
 apply nJ
 intro j
 by_cases e:i=j
 ·subst e;rw[iI (by rw[mZ];exact hi),aE8 hi]
 ·rw[get_set_ne e]
  by_cases hj:j<n
  ·rw[aE8 hj,aE8 hj,h j λz=>e z.symm]
  ·rw[fK (by rw[mZ];lia),fK (by rw[mZ];lia)]
theorem p6:(2:Nat)^600<=2^1000:=iD ac ac
theorem p6':(2:Int)^600=((2^600:Nat):Int):=by norm_cast
theorem bL6: ∀ds Q,wV ds Q->wW {nx:=λ_=>Q (.pu .non),rt:=Q} (init ["a","m","r","f","l","i","h","g","s","t"] ds):=by
 rintro ds Q ⟨n,m,t,f,rfl,n8,ok,fb,fz,h⟩;have m1:=ok.m1;have m2:=ok.m2;rw[p6']at m2;have t6: ∀x:Int,0<=x->x<=m->x.natAbs<=2^600:=λx h1 h2=>ad
 have t10: ∀x:Int,0<=x->x<=m->x.natAbs<=2^1000:=λx h1 h2=>aM (t6 x h1 h2) p6
 unfold wW;show(aU _ _:US) _ [some<|.pu<|.lst<|tbF n n t,some<|.pu<|.int m,some<|.pu<|aJ<|rwF n f,none,none,none,none,none,none,none];rw[aR];walk_at "u";unfold a62;rw[aR];walk_at "u";unfold a61;rw[aR]
 refine bJ n (λk=> .int ((n:Int)-1-k)) [some<|.pu<|.lst<|tbF n n t,some<|.pu<|.int m,some<|.pu<|aJ<|rwF n f,some<|.ow<|tbF n n t,some<|.pu<|aJ<|rwF n f,none,none,none,none,none] ?_
  (λk ρ=> ∃(u:Nat->Nat->Int) (l:Nat->Int) (x5 x6 x7 x8 x9:Option B),ρ=[some<|.pu<|.lst<|tbF n n t,some<|.pu<|.int m,some<|.pu<|aJ<|rwF n f,some<|.ow<|tbF n n u,some<|.pu<|aJ<|rwF (n-k) l,x5,x6,x7,x8,x9]/\Tri n u/\(∀i j,0<=u i j)/\(∀i j,u i j<=m)/\(∀i,i<n-k->u i=t i)/\(∀j,n-k<=j->l j=0)/\(∀j,(l j).natAbs<=2^1000)/\ ∀v,Gen n (RLs n u l) v↔Gen n (RLs n t f) v)
  ⟨t,f,_,_,_,_,_,rfl,ok.toTri,ok.lo,ok.hi,λ_ _=>rfl,fz,fb,λv=>Iff.rfl⟩ ?_ ?_
 ·intro Q' q;simp only[aJ];walk_at "u";rw[aZ];refine⟨⟨ad,ad⟩,?_⟩
  rw[cP];exact q
 ·rintro k ρ hk ⟨u,l,x5,x6,x7,x8,x9,rfl,T,lo,hi',un,lz,lb,G⟩;obtain⟨i,hi⟩: ∃i:Nat,i=n-1-k:=⟨_,rfl⟩;have hin:i<n:=ad
  have eN:n-k=i+1:=ad
  have eN':n-(k+1)=i:=ad
  have ei:(n:Int)-1-(k:Int)=(i:Int):=ad
  rw[eN]at un lz⊢;rw[ei];refine⟨ae,?_⟩
  show oQ _ [some<|.pu<|.lst<|tbF n n t,some<|.pu<|.int m,some<|.pu<|aJ<|rwF n f,some<|.ow<|tbF n n u,some<|.pu<|aJ<|rwF (i+1) l,some<|.pu<|.int (i:Int),x6,x7,x8,x9]
  have e1:atI (tbF n n u) (i:Int)=some (aJ<|rwF n<|u i):=d83 hin;have e2:atI ((rwF n<|u i).map D.int) (i:Int)=some (.int<|u i i):=mI hin;have e3:atI ((rwF (i+1) l).map D.int) (i:Int)=some (.int<|l i):=mI ad
  unfold oQ;rw[aR];walk_at "u";simp only[e1];have dg:=T.pos i hin;have dh:=hi' i i;unfold vV;rw[aR];simp only[aJ];walk_at "u";simp only[e2,e3];refine⟨u i i,l i,rfl,dg,by rw[p6'];lia,lb i,λg s t' gs=> ?_⟩
  obtain⟨g1,⟨A,hA⟩,⟨B,hB⟩,heq,tb,sb⟩:=gs;refine⟨ae,ae,ae,rfl,?_⟩
  have hd:s*A+t'*B=1:=by
   have:g*(s*A+t'*B)=g*1:=by
    rw[jZ];have:g*(s*A+t'*B)=s*(g*A)+t'*(g*B):=by grind
    rw[this,<-hA,<-hB];exact heq.symm
   exact Int.eq_of_mul_eq_mul_left ad this
  have gle:g<=u i i:=by
   have:g∣u i i:=⟨A,hA⟩;exact j6 ad this
  have dA:u i i/g=A:=by rw[hA,aK2 _ ad]
  have dB:(-l i)/g= -B:=by rw[hB,show -(g*B)=g*(-B)by rw[tX],aK2 _ ad]
  have Ab:A.natAbs<=2^1700:=by
   rw[<-dA];exact aM (pI _ _) (aM (t6 _ (lo i i) dh)<|iD ac ac)
  have Bb:(-B).natAbs<=2^1700:=by
   rw[<-dB];refine aM (pI _ _) ?_;rw[natAbs_neg];exact aM (lb i) (iD ac ac)
  have sg:Sm g:=sM (t6 g ad ad) ad
  unfold vU;rw[aR];walk_at "u";refine⟨s,t',m,n,i+1,i,u i,l,rfl,ad,ad,ad,ad,m1,by rw[p6'];lia,sb,aM tb<|iD ac ac,λj=>t10 _ (lo i j) (hi' i j),lb,?_⟩
  simp only[aJ];walk_at "u";have hz: ∀j,i<j->u i j=0:=λj hj=>T.zero i hin j hj
  have lz': ∀j,i<j->l j=0:=λj hj=>lz j ad
  have hE: ∀j,j<i->Gen n (Rows i u) (mE m j):=λj hj=>by
   have g0:=ok.toTri.gen_cut (ok.all j ad) (i:=i) ad λq h1 h2=>a6 ad
   exact g0.mono λr ⟨q,hq,e⟩=> .base ⟨q,hq,by rw[un q ad];exact e⟩
  obtain⟨T',G'⟩:=dN4 (m:=m) hin T hE lz' hA hB hd g1;have nr: ∀r,r≠i->oY u l m g s t' i r=u r:=λr hr=>by funext j;exact a6 hr
  have cl:(cutD ((rwF n<|u i).map D.int) (some<|(i:Int)+1) none).length<=n:=by
   rw[show(i:Int)+1=((i+1:Nat):Int)by lia,uE _ _ (by rw[aZ];lia),nK,aZ]
   lia
  have big:(100:Nat)<=sizeLine:=ac
  refine⟨ac,by rw[aZ];lia,by rw[bN,aZ];simp only[eO,nF];lia,?_⟩
  rw[mZ,dK1 hin];dsimp only;rw[dB7 hin hz];have es:(tbF n n u).set i (D.tup<|(rwF n<|oY u l m g s t' i i).map D.int)=tbF n n (oY u l m g s t' i):=dN5 hin nr;rw[es];unfold vT;walk_at "u";simp only[e2,e3];rw[l7 _ ad,l7 _ ad,dA,dB]
  refine⟨⟨ad,sg⟩,⟨ad,sg⟩,A,-B,m,i+1,n,i,l,u i,rfl,ad,ad,ad,ad,m1,by rw[p6'];lia,Ab,Bb,lb,λj=>t10 _ (lo i j) (hi' i j),?_⟩
  have mm: ∀x:Int,0<=x%m/\x%m<m:=λx=>⟨bY _ ad,bX _ ad⟩
  have rb: ∀r j,0<=oY u l m g s t' i r j/\oY u l m g s t' i r j<=m:=λr j=>by
   by_cases e:r=i
   ·subst e;unfold oY;rw[a7 rfl];split
    ·have:=mm (s*u r j+t'*l j);lia
    ·split<;>lia
   ·rw[nr r e];exact⟨lo r j,hi' r j⟩
  refine⟨oY u l m g s t' i,aP3 u l m A B i,some<|.pu<|.int (i:Int),some<|.pu<|.tup<|(rwF n<|u i).map .int,some<|.pu<|.int g,some<|.pu<|.int s,some<|.pu<|.int t',?_,T',λr j=>(rb r j).1,λr j=>(rb r j).2,?_,?_,?_,λv=>(G' v).trans (G v)⟩
  ·rw[eN'];simp only[aJ];rw[show rwF i (aP3 u l m A B i)=rwF i (λj=>(A*l j+ -B*u i j)%m)from iO λj hj=>a7 hj]
  ·intro r hr;rw[eN']at hr;rw[nr r ad,un r ad]
  ·intro j hj;rw[eN']at hj;exact a6 ad
  ·intro j;unfold aP3;split
   ·have:=mm (A*l j+ -B*u i j);exact t10 _ ad ad
   ·exact dN _
 ·rintro ρ ⟨u,l,x5,x6,x7,x8,x9,rfl,T,lo,hi',un,lz,lb,G⟩;unfold a60;walk_at "u";have l0:l=λ_=>0:=by funext j;exact lz j ad
  have G2: ∀v,Gen n (Rows n u) v↔Gen n (RLs n t f) v:=λv=>by
   rw[<-G v];exact⟨Gen.mono λr hr=> .base (.inl hr),Gen.mono λr hr=>hr.elim .base λe=>by rw[e,l0];exact .zero⟩
  refine h u ⟨T,m1,ok.m2,lo,hi',λi hi=>(G2 _).mpr ((ok.all i hi).mono λr hr=> .base (.inl hr))⟩ G2
noncomputable def pC (t:Nat->Nat->Int)(i:Nat)(f:Nat->Int):Nat->Int:=λj=>f j-(f i/t i i)*t i j
noncomputable def l9 (t:Nat->Nat->Int):Nat->(Nat->Int)->Nat->Int
 | 0,f=>f
 | i+1,f=>l9 t i (pC t i f)
theorem vW {n:Nat}{t:Nat->Nat->Int}(S:Tri n t): ∀(i:Nat) (f:Nat->Int),i<=n-> ∀j,i<=j->l9 t i f j=f j
 | 0,f,_,j,_=>rfl
 | i+1,f,hi,j,hj=>by
  show l9 t i (pC t i f) j=f j
  rw[vW S i _ ad j ad]
  unfold pC;rw[S.zero i ad j ad]
  lia
theorem b38 {n:Nat}{t:Nat->Nat->Int}(S:Tri n t): ∀(i:Nat) (f:Nat->Int),i<=n-> ∀j,j<i->0<=l9 t i f j/\l9 t i f j<t j j
 | i+1,f,hi,j,hj=>by
  show 0<=l9 t i (pC t i f) j/\l9 t i (pC t i f) j<t j j
  by_cases e:j=i
  ·subst e;rw[vW S j _ ad j<|aE _]
   have hp:=S.pos j ad
   have h1:=bY (f j) (show t j j≠0 by lia)
   have h2:=bX (f j) (show 0<t j j by lia)
   have h3:pC t j f j=f j%t j j:=by
    have:=gI (f j) (t j j);unfold pC;rw[gY<|f j/t j j]
    lia
   rw[h3];exact⟨h1,h2⟩
  ·exact b38 S i _ ad j ad
theorem bS8 {n:Nat}{t:Nat->Nat->Int}: ∀(i:Nat) (f:Nat->Int),Gen n (Rows i t) λj=>f j-l9 t i f j
 | 0,f=>Gen.zero.cong λj _=>by show(0:Int)=f j-f j;lia
 | i+1,f=>by
  have h1:Gen n (Rows (i+1) t) λj=>pC t i f j-l9 t i (pC t i f) j:=(bS8 i<|pC t i f).mono λr ⟨q,hq,e⟩=> .base ⟨q,ad,e⟩
  have h2:Gen n (Rows (i+1) t) (t i):= .base ⟨i,ad,rfl⟩
  refine(h1.comb (f i/t i i) h2).cong λj _=> ?_
  show pC t i f j-l9 t i (pC t i f) j+f i/t i i*t i j=f j-l9 t i (pC t i f) j
  unfold pC
  lia
theorem c95 {t:Nat->Nat->Int}{g:Nat->Int}{i b:Nat}(ht: ∀j,(t i j).natAbs<=2^600)(hg: ∀j,(g j).natAbs<=2^b): ∀j,(pC t i g j).natAbs<=2^(b+601):=by
 intro j;unfold pC;have h1:=hg j;have h2:(g i/t i i).natAbs<=2^b:=aM (pI _ _) (hg i);have h3:((g i/t i i)*t i j).natAbs<=2^b*2^600:=by rw[fL];exact j2 h2 (ht j)
 have h4:(g j-(g i/t i i)*t i j).natAbs<=(g j).natAbs+((g i/t i i)*t i j).natAbs:=zG _ _;have e:2^(b+601)=2^b*2^600+2^b*2^600:=by
  rw[show b+601=b+600+1 from rfl,zS,j8];lia
 have h5:2^b<=2^b*2^600:=Nat.le_mul_of_pos_right _ (Nat.pow_pos ac)
 generalize 2^b*2^600=X at *;generalize 2^b=Y at *;generalize 2^(b+601)=Z at *
 lia
def b07:Φ:=λds Q=> ∃(i n:Nat) (t:Nat->Nat->Int) (f:Nat->Int),ds=[.lst<|tbF i n t,aJ<|rwF i f]/\i<=n/\n<=8/\(∀r,r<i->0<t r r)/\(∀r j,(t r j).natAbs<=2^600)/\(∀j,(f j).natAbs<=2^600)/\Q (.pu<|aJ<|rwF i<|l9 t i f)
def aH9:US:=(bT 2<|aQ cX<|a9 (dS [4] [none,none,some 4,none] 3 (dJ4<|a9 (aB 2)<|a9 (uIx (aV 0)<|aB 3) aK) (mV<|d8 0<|d8 1 mU) (λρ Q=>Q true ρ)<|uOp M.gSub (aB 0)<|uOp hZ (aB 2)<|aB 1) aK)
def wX:US:=(aU (bT 4<|uOp aO4 (uIx (aV 2)<|aB 3)<|uIx (uV<|uIx (aV 0)<|aB 3)<|aB 3) aH9)
def b39:US:=(pA 2)
def b40:US:=(aU (jD (c55<|a9 (kO<|aV 1) aK) (cC 3) wX) b39)
def b08:US:=(aU (bT 2<|aB 1) b40)
theorem cX5: ∀ds Q,b07 ds Q->b08 {nx:=λ_=>Q (.pu .non),rt:=Q} (init ["t","r","l","i","m"] ds):=by
 rintro ds Q ⟨I,n,t,f,rfl,hI,n8,tp,tb,fb,h⟩;unfold b08;show(aU _ _:US) _ [some<|.pu<|.lst<|tbF I n t,some<|.pu<|aJ<|rwF I f,none,none,none];walk_at "u";unfold b40;rw[aR];refine bJ I (λk=> .int (((I:Int))-1-k)) [some<|.pu<|.lst<|tbF I n t,some<|.pu<|aJ<|rwF I f,some<|.pu<|aJ<|rwF I f,none,none] ?_
  (λk ρ=> ∃g x y,ρ=[some<|.pu<|.lst<|tbF I n t,some<|.pu<|aJ<|rwF I f,some<|.pu<|aJ<|rwF I g,x,y]/\l9 t (I-k) g=l9 t I f/\ ∀j,(g j).natAbs<=2^(600+601*k)) ⟨f,none,none,rfl,rfl,λj=>fb j⟩ ?_ ?_
 ·intro Q' q;simp only[aJ];walk_at "u";rw[aZ];refine⟨⟨ad,ad⟩,?_⟩
  rw[cP];exact q
 ·rintro k ρ hk ⟨g,x,y,rfl,hr,hb⟩;obtain⟨i,hi⟩: ∃i:Nat,i=I-1-k:=⟨_,rfl⟩;have hin:i<I:=ad
  have ei:(I:Int)-1-(k:Int)=(i:Int):=ad
  have hpos:=tp i hin;rw[ei];refine⟨ae,?_⟩
  show wX _ [some<|.pu<|.lst<|tbF I n t,some<|.pu<|aJ<|rwF I f,some<|.pu<|aJ<|rwF I g,some<|.pu<|.int (i:Int),y]
  unfold wX;rw[aR];have e1:atI ((rwF I g).map D.int) (i:Int)=some (.int<|g i):=mI hin;have e2:atI (tbF I n t) (i:Int)=some (.tup<|(rwF n<|t i).map .int):=d83 hin;have e3:atI ((rwF n<|t i).map D.int) (i:Int)=some (.int<|t i i):=mI ad
  simp only[aJ];walk_at "u";simp only[e1,e2,e3];rw[l7 _ hpos];refine⟨⟨ad,sM (tb i i) ad⟩,?_⟩
  unfold aH9;rw[lN,eK,dG];refine bD3 (t0:=0) (t1:=1) I (λj=>((rwF I g).map D.int).getD j .non) (λj=>((rwF n<|t i).map D.int).getD j .non) [some<|.pu<|.lst<|tbF I n t,some<|.pu<|.tup<|(rwF I f).map .int,some<|.pu<|.tup<|(rwF I g).map .int,some<|.pu<|.int (i:Int),some<|.pu<|.int<|g i/t i i] ?_ ad
   (λx y l=>[x,y,some<|.pu<|.int<|g i/t i i,some<|.ow l]) none none rfl (λ_ _ _ _ _=>rfl) (λ_ _ _=>⟨ae,ae⟩) (λ_ _ _ _ q=>q) (λ_ _ _ _=>rfl) (λj=> .int (pC t i g j)) ?_ ?_
  ·intro Q' q;walk_at "u";rw[e2];walk_at "u";rw[aZ,aZ,nN hI];exact q
  ·intro j l Q' hj q;rw[rH hj,rH ad]at q⊢
   walk_at "u"
   refine⟨.inr ⟨sM (aM (pI _ _)<|hb i) ad,sM (tb i j) ac⟩,?_⟩
   exact q
  ·walk_at "u"
   rw[uI];refine⟨pC t i g,_,_,rfl,?_,λj=> ?_⟩
   ·rw[<-hr,show I-k=i+1 by lia,show I-(k+1)=i by lia]
    rfl
   ·have:=c95 (i:=i) (tb i) hb j;rw[show 600+601*(k+1)=600+601*k+601 by lia]
    exact this
 ·rintro ρ ⟨g,x,y,rfl,hr,hb⟩;unfold b39;walk_at "u";rw[j7]at hr;have:g=l9 t I f:=hr;rw[this];exact h
noncomputable def fnL (l:List Int):Nat->Int:=λj=>l.getD j 0
theorem dN6 {l:List Int}{n:Nat}(h:l.length=n):aJ l=aJ (rwF n<|fnL l):=by
 rw[<-h];exact dO aJ (bX6 l)
theorem dB8 {l:List Int}{n:Nat}(h:l.length=n): ∀j,n<=j->fnL l j=0:=λj hj=>by
 unfold fnL;rw[aI,fK ad]
 rfl
theorem cX6 {l:List Int}{b:Nat}(h: ∀x∈l,x.natAbs<=b): ∀j,(fnL l j).natAbs<=b:=λj=>by
 unfold fnL;rw[aI];cases e:l[j]? with
 | none=>exact dN _
 | some x=>exact h x (zB e)
def LR (L:List (List Int))(v:Nat->Int):Prop:= ∃l∈L,v=fnL l
structure LOk (n:Nat)(L:List (List Int)):Prop where
 len: ∀l∈L,l.length=n
 sm: ∀l∈L,∀x∈l,x.natAbs<=2^1000
 few:L.length<=1000
structure SOk (n:Nat)(m:Int)(L:List (List Int))(T:Nat->Nat->Int):Prop where
 st:bS7 n T
 gen: ∀v,Gen n (Rows n T) v↔Gen n (RM n m<|LR L) v
def aP5:Φ:=λds Q=> ∃(n:Nat) (m:Int) (L:List (List Int)),ds=[.int (n:Int),.int m,.lst<|L.map aJ]/\1<=n/\n<=8/\1<=m/\m<=2^600/\LOk n L/\ ∀T,SOk n m L T->Q (.pu<|.tup<|tbF n n T)
def aU7:US:=(cY<|aQ cX<|a9 (aB 5) aK)
def aU8:US:=(aU (jD (cO9<|a9 (aB 3) aK) (mV<|d8 6<|d8 4 mU)<|aO3 5<|uOp hX (cH5<|aQ b07<|a9 (aB 5)<|a9 (c53 (aB 4) i7<|jG<|aB 6) aK)<|c53 (aB 4) (jG<|aB 6) i7) aU7)
def aU9:US:=(aU (bT 5<|kF aK) aU8)
def a22:US:=(aU (jD (gR<|aB 2) (cC 4)<|bT 3<|aQ wV<|a9 (aB 3)<|a9 (aB 1)<|a9 (aB 4) aK) aU9)
def aP6:US:=(aU (bT 3<|dS [1,0] [none,some 1,some 0,none] 3 (gS<|a9 (aB 0) aK) (cC 0) (λρ Q=>Q true ρ)<|uOp hX (uOp hX (uOp bQ1 (i6<|a9 (uC<|.int 0) aK)<|aB 0)<|i6<|a9 (aB 1) aK)<|uOp bQ1 (i6<|a9 (uC<|.int 0) aK)<|uOp M.gSub (uOp M.gSub (aB 2)<|aB 0)<|uC<|.int 1) a22)
theorem dB9 {n i:Nat}{m:Int}(hi:i<n):((replicate i [D.int 0]).flatten++[D.int m]++(replicate (n-i-1) [D.int 0]).flatten:List D)=(rwF n<|mE m i).map .int:=by
 rw[aT2,aT2];apply nJ;intro j
 by_cases h1:j<i
 ·rw[gH (by simp;lia),gH (by simp;exact h1),gE ad,b7,tE,a7 h1]
  show _=some (D.int<|mE m i j)
  rw[show mE m i j=0 from a6 ad]
  rfl
 ·by_cases h2:j=i
  ·subst h2;rw[gH ae,gU ae,gE hi,aG,tG,j7]
   show _=some (D.int<|mE m j j)
   rw[show mE m j j=m from a7 rfl]
   rfl
  ·rw[gU (by simp;lia)]
   simp only[bN,aG,tG,eO,nF];rw[b7,tE]
   by_cases h3:j<n
   ·rw[a7 ad,gE h3]
    show _=some (D.int<|mE m i j)
    rw[show mE m i j=0 from a6 h2]
    rfl
   ·rw[a6 ad,fK (by rw[aZ];lia)]
    rfl
theorem dN7 {n:Nat}{m:Int}(m1:1<=m)(m2:m<=2^600):TOk n m (mE m)/\ ∀v,Gen n (Rows n<|mE m) v↔Gen n (RM n m<|LR []) v:=by
 have z: ∀i j,0<=mE m i j/\mE m i j<=m:=λi j=>by unfold mE;split<;>lia
 refine⟨⟨⟨λi hi=>by rw[show mE m i i=m from a7 rfl];exact m1,λi hi j hj=>a6 ad⟩,m1,m2,λi j=>(z i j).1,λi j=>(z i j).2,λi hi=> .base ⟨i,hi,rfl⟩⟩,λv=>⟨Gen.mono λr ⟨i,hi,e⟩=> .base (.inr ⟨i,hi,e⟩),Gen.mono λr hr=> ?_⟩⟩
 rcases hr with⟨l,hl,_⟩| ⟨i,hi,e⟩
 ·cases hl
 ·exact .base ⟨i,hi,e⟩
theorem dC0 {n:Nat}{m:Int}{t u:Nat->Nat->Int}{L:List (List Int)}{l:List Int}(ok:TOk n m t)(g: ∀v,Gen n (Rows n t) v↔Gen n (RM n m<|LR L) v)(h: ∀v,Gen n (Rows n u) v↔Gen n (RLs n t<|fnL l) v): ∀v,Gen n (Rows n u) v↔Gen n (RM n m<|LR<|L++[l]) v:=by
 intro v;rw[h v];constructor
 ·refine Gen.mono λr hr=> ?_
  rcases hr with hr|rfl
  ·exact((g r).mp<|.base hr).mono λs hs=> .base (hs.imp (λ⟨q,hq,e⟩=>⟨q,tH _ hq,e⟩) id)
  ·exact .base (.inl ⟨l,fJ _<|gJ.mpr rfl,rfl⟩)
 ·refine Gen.mono λr hr=> ?_
  rcases hr with⟨q,hq,rfl⟩|hr
  ·rcases bM.mp hq with hq|hq
   ·exact((g _).mpr<|.base<|.inl ⟨q,hq,rfl⟩).mono λs hs=> .base (.inl hs)
   ·rw[gJ.mp hq];exact .base (.inr rfl)
  ·exact((g r).mpr<|.base<|.inr hr).mono λs hs=> .base (.inl hs)
noncomputable def sF (t:Nat->Nat->Int):Nat->Nat->Nat->Int
 | 0=>λ_ _=>0
 | i+1=>λr=>if r=i then l9 (sF t i) i (t i)else sF t i r
structure FOk (n i:Nat)(m:Int)(t T:Nat->Nat->Int):Prop where
 tri:Tri i T
 ahead: ∀r,r<i-> ∀j,j<r->0<=T r j/\T r j<T j j
 dg: ∀r,r<i->T r r=t r r
 bd: ∀r j,(T r j).natAbs<=2^600
 gen: ∀v,Gen n (Rows i T) v↔Gen n (Rows i t) v
theorem cJ8 {n:Nat}{m:Int}{t:Nat->Nat->Int}(ok:TOk n m t)(m2:m.natAbs<=2^600): ∀i,i<=n->FOk n i m t (sF t i)
 | 0,_=>⟨⟨λi hi=>absurd hi (nO _),λi hi=>absurd hi (nO _)⟩,λr hr=>absurd hr (nO _),λr hr=>absurd hr (nO _),λr j=>dN _,λv=>⟨Gen.mono λr ⟨q,hq,_⟩=>absurd hq (nO _),Gen.mono λr ⟨q,hq,_⟩=>absurd hq (nO _)⟩⟩
 | i+1,hi=>by
  have F:=cJ8 ok m2 i ad
  have new:sF t (i+1) i=l9 (sF t i) i (t i):=a7 rfl;have old: ∀r,r≠i->sF t (i+1) r=sF t i r:=λr hr=>a6 hr
  have ab: ∀j,i<=j->l9 (sF t i) i (t i) j=t i j:=vW F.tri i (t i) (aE _);have rg: ∀j,j<i->0<=l9 (sF t i) i (t i) j/\l9 (sF t i) i (t i) j<sF t i j j:=b38 F.tri i (t i) (aE _);have tt: ∀r j,(t r j).natAbs<=2^600:=λr j=>by have:=ok.lo r j;have:=ok.hi r j;lia
  have g1:Gen n (Rows i<|sF t i) λj=>t i j-sF t (i+1) i j:=by rw[new];exact bS8 i (t i)
  refine⟨⟨λr hr=> ?_,λr hr j hj=> ?_⟩,λr hr j hj=> ?_,λr hr=> ?_,λr j=> ?_,λv=>⟨Gen.mono λq hq=> ?_,Gen.mono λq hq=> ?_⟩⟩
  ·by_cases e:r=i
   ·subst e;rw[new,ab r<|aE _];exact ok.pos r ad
   ·rw[old r e];exact F.tri.pos r ad
  ·by_cases e:r=i
   ·subst e;rw[new,ab j ad];exact ok.zero r ad j hj
   ·rw[old r e];exact F.tri.zero r ad j hj
  ·by_cases e:r=i
   ·subst e;rw[new,old j ad]
    exact rg j hj
   ·rw[old r e,old j ad];exact F.ahead r ad j hj
  ·by_cases e:r=i
   ·subst e;rw[new,ab r<|aE _]
   ·rw[old r e];exact F.dg r ad
  ·by_cases e:r=i
   ·subst e;rw[new]
    by_cases hj:j<r
    ·have:=rg j hj;have:=F.bd j j
     lia
    ·rw[ab j ad];exact tt r j
   ·rw[old r e];exact F.bd r j
  ·obtain⟨r,hr,rfl⟩:=hq
   by_cases e:r=i
   ·subst e;have h1:Gen n (Rows (r+1) t) λj=>t r j-sF t (r+1) r j:=((F.gen _).mp g1).mono λs ⟨q,hq,e⟩=> .base ⟨q,ad,e⟩
    have h2:Gen n (Rows (r+1) t) (t r):= .base ⟨r,ad,rfl⟩
    exact(h2.sub h1).cong λj _=>ad
   ·rw[old r e];exact((F.gen _).mp<|.base ⟨r,ad,rfl⟩).mono λs ⟨q,hq,e⟩=> .base ⟨q,ad,e⟩
  ·obtain⟨r,hr,rfl⟩:=hq;have up: ∀{v},Gen n (Rows i<|sF t i) v->Gen n (Rows (i+1)<|sF t<|i+1) v:=λh=>h.mono λs ⟨q,hq,e⟩=> .base ⟨q,ad,by rw[old q ad];exact e⟩
   by_cases e:r=i
   ·subst e;have h2:Gen n (Rows (r+1)<|sF t<|r+1) (sF t (r+1) r):= .base ⟨r,ad,rfl⟩
    exact(h2.add<|up g1).cong λj _=>ad
   ·exact up ((F.gen _).mpr<|.base ⟨r,ad,rfl⟩)
theorem dN8 {n i:Nat}{t:Nat->Nat->Int}{f:Nat->Int}(hi:i<=n)(h: ∀j,i<=j->f j=t i j):(rwF i f).map D.int++cutD ((rwF n<|t i).map D.int) (some (i:Int)) none=(rwF n f).map D.int:=by
 rw[uE _ _ (by rw[aZ];exact hi)]
 apply nJ
 intro j
 by_cases h1:j<i
 ·rw[gH (by rw[aZ];exact h1),gE h1,gE ad]
 ·rw[gU (by rw[aZ];lia),aZ,List.getElem?_drop,show i+(j-i)=j by lia]
  by_cases h2:j<n
  ·rw[gE h2,gE h2,h j ad]
  ·rw[fK (by rw[aZ];lia),fK (by rw[aZ];lia)]
theorem dC1 {n m i:Nat}{t:Nat->Nat->Int}(h:i<n):(tbF n m t).getD i .non=aJ (rwF m<|t i):=by rw[aI,aE8 h];rfl
theorem nl_row (l:List Int):D.nl (.tup<|l.map D.int)=true:=by
 simp only[D.nl];exact c57 l
theorem cJ9: ∀ds Q,aP5 ds Q->aP6 {nx:=λ_=>Q (.pu .non),rt:=Q} (init ["k","m","r","t","w","b","i"] ds):=by
 rintro ds Q ⟨n,m,L,rfl,n1,n8,m1,m2,ok,h⟩;have big:(10000:Nat)<=sizeLine:=ac
 unfold aP6;show(aU _ _:US) _ [some<|.pu<|.int (n:Int),some<|.pu<|.int m,some<|.pu<|.lst<|L.map aJ,none,none,none,none];rw[aR,lN]
 refine eV (t0:=0) n (λk=> .int (0+(k:Int))) [some<|.pu<|.int (n:Int),some<|.pu<|.int m,some<|.pu<|.lst<|L.map aJ,none,none,none,none] ?_ ad (λx l=>[x,some<|.pu<|.int m,some<|.pu<|.int (n:Int),some<|.ow l]) none rfl (λ_ _ _=>rfl) (λ_ _=>cQ _) (λ_ _ _ q=>q) (λ_ _ _=>rfl) (λk=>aJ (rwF n<|mE m k)) ?_ ?_
 ·intro Q' q;walk_at "u";refine⟨⟨ad,ad⟩,?_⟩
  rw[cP];exact q
 ·intro k l Q' hk q;walk_at "u";have e1:(0+(k:Int)).toNat=k:=ad
  have e2:((n:Int)-(0+(k:Int))-1).toNat=n-k-1:=ad
  rw[e1,e2];have er:=dB9 (m:=m) hk;have el:=dO length er;rw[aZ]at el;simp only[bN,eO,nF]at el;refine⟨ad,⟨ae,ad,ad,ad⟩,ad,ad,ad,⟨ae,ad,ad,ad⟩,?_,?_⟩
  ·simp only[bN,eO,nF]
   lia
  ·rw[er];exact q
 show a22 _ [some<|.pu<|.int (n:Int),some<|.pu<|.int m,some<|.pu<|.lst<|L.map aJ,some<|.ow<|tbF n n<|mE m,none,none,none]
 unfold a22;rw[aR];obtain⟨ok0,g0⟩:=dN7 (n:=n) m1 m2;refine bJ (L.map aJ).length (λi=>(L.map aJ).getD i .non) [some<|.pu<|.int (n:Int),some<|.pu<|.int m,some<|.pu<|.lst<|L.map aJ,some<|.ow<|tbF n n<|mE m,none,none,none] ?_
  (λi ρ=> ∃(t:Nat->Nat->Int) (x4:Option B),ρ=[some<|.pu<|.int (n:Int),some<|.pu<|.int m,some<|.pu<|.lst<|L.map aJ,some<|.ow<|tbF n n t,x4,none,none]/\TOk n m t/\ ∀v,Gen n (Rows n t) v↔Gen n (RM n m<|LR<|L.take i) v)
  ⟨_,none,rfl,ok0,g0⟩ ?_ ?_
 ·intro Q' q;walk_at "u";exact q
 ·rintro i ρ hi ⟨t,x4,rfl,okt,gt⟩;rw[aG]at hi;have hm:=bS hi;have ei:(L.map aJ).getD i .non=aJ L[i]:=by rw[aI,b7,aO hi];rfl
  rw[ei];refine⟨ae,?_⟩
  walk_at "u"
  refine⟨n,m,t,fnL L[i],by rw[<-dN6 (ok.len _ hm)],n8,okt,cX6<|ok.sm _ hm,dB8<|ok.len _ hm,λu oku gu=>⟨u,_,rfl,oku,?_⟩⟩
  have:=dC0 okt gt gu;rw[List.take_succ,aO hi];exact this
 ·rintro ρ ⟨t,x4,rfl,okt,gt⟩;rw[aG,aL0<|aE _]at gt;have m2':m.natAbs<=2^600:=by rw[p6']at m2;lia
  try dsimp only
  unfold aU9;rw[aR];walk_at "u";refine⟨ad,?_⟩
  unfold aU8;rw[aR];refine bJ (tbF n n t).length (λi=> .tup [.int (i:Int),(tbF n n t).getD i .non]) [some<|.pu<|.int (n:Int),some<|.pu<|.int m,some<|.pu<|.lst<|L.map aJ,some<|.pu<|.lst<|tbF n n t,x4,some<|.ow [],none] ?_
   (λi ρ=> ∃(x4 x6:Option B),ρ=[some<|.pu<|.int (n:Int),some<|.pu<|.int m,some<|.pu<|.lst<|L.map aJ,some<|.pu<|.lst<|tbF n n t,x4,some<|.ow<|tbF i n<|sF t i,x6]) ⟨_,_,rfl⟩ ?_ ?_
  ·intro Q' q;walk_at "u";exact q
  ·rintro i ρ hi ⟨y4,x6,rfl⟩;rw[mZ]at hi;rw[dC1 hi];have F:=cJ8 okt m2' i ad
   refine⟨ae,ae,rfl,?_⟩
   show(aO3 5 _:US) _ [some<|.pu<|.int (n:Int),some<|.pu<|.int m,some<|.pu<|.lst<|L.map aJ,some<|.pu<|.lst<|tbF n n t,some<|.pu<|aJ<|rwF n<|t i,some<|.ow<|tbF i n<|sF t i,some<|.pu<|.int (i:Int)]
   simp only[aJ];walk_at "u";rw[bZ3 ad]
   refine⟨i,n,sF t i,t i,rfl,ad,n8,λr hr=>by have:=F.tri.pos r hr;lia,F.bd,λj=>by have:=okt.lo i j;have:=okt.hi i j;lia,?_⟩
   simp only[aJ];have ab: ∀j,i<=j->l9 (sF t i) i (t i) j=t i j:=vW F.tri i (t i) (aE _);have er:=dN8 (f:=l9 (sF t i) i (t i)) (n:=n) ad ab
   have el:=dO length er;rw[bN,aZ,aZ]at el;refine⟨nl_row _,by rw[aZ];lia,by rw[mZ];lia,some<|.pu<|.tup<|(rwF n<|t i).map .int,some<|.pu<|.int (i:Int),?_⟩
   rw[er];have:=c67 i n (sF t i) (l9 (sF t i) i<|t i);rw[aJ]at this;rw[this];rfl
  ·rintro ρ ⟨y4,x6,rfl⟩;rw[mZ];unfold aU7;walk_at "u";have F:=cJ8 okt m2' n (aE _);exact h _ ⟨⟨F.tri,F.ahead⟩,λv=>(F.gen v).trans (gt v)⟩
def aA7:Φ:=λds Q=> ∃a b:Int,ds=[.int a,.int b]/\Q (.pu<|.int (a.gcd b:Nat))
def aA8:US:=(aU (cF6 2 3<|a9 (aQ cF9<|a9 (aB 0) aK)<|a9 (aQ cF9<|a9 (aB 1) aK) aK)<|aU (aX9 (gA<|uOp (jH true) (aB 3)<|uC<|.int 0)<|cF6 2 3<|a9 (aB 3)<|a9 (uOp oJ (aB 2)<|aB 3) aK)<|pA 2)
theorem absJ (a:Int):(if a<0 then -a else a)=(a.natAbs:Int):=by split<;>omega
theorem dC2 {g l:Int}(g0:0<=g)(l0:0<=l):Int.gcd l (g%l)=Int.gcd g l:=by
 obtain⟨a,rfl⟩:=Int.eq_ofNat_of_zero_le g0;obtain⟨b,rfl⟩:=Int.eq_ofNat_of_zero_le l0;show Nat.gcd b (a%b)=Nat.gcd a b;rw[Nat.gcd_comm a b,Nat.gcd_rec b a,Nat.gcd_comm]
theorem c96: ∀ds Q,aA7 ds Q->aA8 {nx:=λ_=>Q (.pu .non),rt:=Q} (init ["a","b","g","l"] ds):=by
 rintro ds Q ⟨a,b,rfl,h⟩;unfold aA8;show(aU _ _:US) _ [some<|.pu<|.int a,some<|.pu<|.int b,none,none];walk_at "u";rw[absJ,absJ];refine⟨λn ρ=> ∃g l:Int,ρ=[some<|.pu<|.int a,some<|.pu<|.int b,some<|.pu<|.int g,some<|.pu<|.int l]/\n=l.natAbs/\0<=g/\0<=l/\g.gcd l=a.gcd b,⟨_,_,_,rfl,rfl,ad,ad,?_⟩,?_⟩
 ·simp[Int.gcd]
 ·rintro n ρ ⟨g,l,rfl,rfl,g0,l0,e⟩;walk_at "u";split
  ·rename_i hl
   have hl':l≠0:=by simpa using hl
   have e1:=bY g hl';have e2:=bX g (show 0<l by lia)
   refine⟨hl',_,?_,_,_,rfl,rfl,l0,?_,?_⟩
   ·rw[dE _ ad];lia
   ·rw[dE _ ad];exact e1
   ·rw[dE _ ad,dC2 g0 l0];exact e
  ·rename_i hl
   have hl':l=0:=by simpa using hl
   subst hl';rw[Int.gcd_zero_right]at e;have:g=(a.gcd b:Int):=ad
   rw[this];exact h
def b09:Φ:=λds Q=> ∃(C:Addr) (p:List Int) (n:Nat) (u v:Nat->Int),ds=[fG C p,.lst [aJ<|rwF n u,aJ<|rwF n v]]/\fF p/\p.length=n+1/\(∀j,(u j).natAbs<=2^12)/\(∀j,(v j).natAbs<=2^12)/\nrm p n u≠0/\(nrm p n u).natAbs<=2^600/\
 ∀T,SOk n (((nrm p n u).gcd (nrm p n v):Nat):Int) (tbL n (itT p n u)++tbL n (itT p n v)) T->Q (.pu<|.tup<|tbF n n T)
def bG0:US:=(aU (jA (gA<|uOp (jH false) (aB 2)<|uC<|.int 0) (λ_ _=>False) gB)<|cY<|aQ aP5<|a9 (a69 "degree"<|aB 0)<|a9 (aB 2)<|a9 (aB 3) aK)
def bG1:US:=(aU (jD (gR<|aB 1) (cC 4)<|aU (bT 2<|aQ aA7<|a9 (aB 2)<|a9 (aQ b02<|a9 (aB 0)<|a9 (aB 4) aK) aK)<|uExt 3<|aQ qX<|a9 (aB 0)<|a9 (aB 4) aK) bG0)
def b10:US:=(aU (bT 2<|uC<|.int 0)<|aU (bT 3<|kF aK) bG1)
theorem c97 (n:Nat)(t:Nat->Nat->Int):(tbL n t).map aJ=tbF n n t:=by
 unfold tbL tbF;rw[fX];rfl
theorem b88 {p:List Int}{n:Nat}{u:Nat->Int}(rp:fF p)(n4:n<=4)(hu: ∀j,(u j).natAbs<=2^12): ∀l∈tbL n (itT p n u),l.length=n/\ ∀x∈l,x.natAbs<=2^1000:=by
 intro l hl;obtain⟨i,hi,rfl⟩:=dM.mp hl;have hi:=dX.mp hi;refine⟨mY _ _,λx hx=> ?_⟩
 obtain⟨j,hj,rfl⟩:=dM.mp hx;exact aM (yF (n:=n) rp.ok.small hu i j) (iD ac ad)
theorem cX7: ∀ds Q,b09 ds Q->b10 {nx:=λ_=>Q (.pu .non),rt:=Q} (init ["r","n","m","o","x"] ds):=by
 rintro ds Q ⟨C,p,n,u,v,rfl,rp,hn,hu,hv,h0,hb,h⟩;have lo:=rp.ok.lo;have hi:=rp.ok.hi;unfold b10;show(aU _ _:US) _ [some<|.pu<|fG C p,some<|.pu<|.lst [aJ<|rwF n u,aJ<|rwF n v],none,none,none];walk_at "u";refine⟨ac,?_⟩
 unfold bG1;rw[aR];refine bJ 2 (λk=>[aJ<|rwF n u,aJ<|rwF n v].getD k .non) [some<|.pu<|fG C p,some<|.pu<|.lst [aJ<|rwF n u,aJ<|rwF n v],some<|.pu<|.int 0,some<|.ow [],none] (λQ' q=> ?_)
  (λk ρ=> ∃x,ρ=[some<|.pu<|fG C p,some<|.pu<|.lst [aJ<|rwF n u,aJ<|rwF n v],some<|.pu<|.int<|if k=0 then 0 else if k=1 then((nrm p n u).natAbs:Int)else((nrm p n u).gcd (nrm p n v):Nat),some<|.ow<|if k=0 then []else if k=1 then tbF n n (itT p n u)else tbF n n (itT p n u)++tbF n n (itT p n v),x]) ⟨none,rfl⟩ ?_ ?_
 ·walk_at "u"
  exact q
 ·rintro k ρ hk ⟨x,rfl⟩
  match k,hk with
  | 0,_=>
   walk_at "u"
   refine⟨ac,C,p,n,12,u,rfl,rp,hn,ac,hu,?_⟩
   walk_at "u"
   refine⟨_,_,rfl,?_⟩
   walk_at "u"
   refine⟨C,p,n,u,rfl,rp,hn,?_⟩
   dsimp only;refine⟨by simp only[nF,mZ];exact aM (show 0+n<=10 by lia) ac,some<|.pu<|aJ<|rwF n u,?_⟩
   simp
  | 1,_=>
   walk_at "u"
   refine⟨ac,C,p,n,12,v,rfl,rp,hn,ac,hv,?_⟩
   walk_at "u"
   refine⟨_,_,rfl,?_⟩
   walk_at "u"
   refine⟨C,p,n,v,rfl,rp,hn,?_⟩
   dsimp only;refine⟨by simp only[mZ];exact aM (show n+n<=10 by lia) ac,some<|.pu<|aJ<|rwF n v,?_⟩
   simp[Int.gcd]
 ·rintro ρ ⟨x,rfl⟩;dsimp only;have g1:(nrm p n u).gcd (nrm p n v)<=(nrm p n u).natAbs:=Nat.gcd_le_left _ (Int.natAbs_pos.mpr h0);have g0:0< (nrm p n u).gcd (nrm p n v):=Int.gcd_pos_of_ne_zero_left _ h0;simp only[a6<|show ¬(2=0)by decide,a6<|show ¬(2=1)by decide]
  unfold bG0;walk_at "u";rw[a6 ad,rO (C:=C) (p:=p) rfl]
  walk_at "u"
  refine⟨n,_,tbL n (itT p n u)++tbL n (itT p n v),?_,ad,ad,?_,?_,⟨λl hl=> ?_,λl hl=> ?_,?_⟩,h⟩
  ·rw[bV,c97,c97,hn]
   congr 2
   lia
  ·lia
  ·have:((2^600:Nat):Int)=2^600:=by norm_cast
   lia
  ·rcases bM.mp hl with hl|hl
   ·exact(b88 rp ad hu l hl).1
   ·exact(b88 rp ad hv l hl).1
  ·rcases bM.mp hl with hl|hl
   ·exact(b88 rp ad hu l hl).2
   ·exact(b88 rp ad hv l hl).2
  ·rw[bN,aU6,aU6]
   lia
theorem ps_tt {p:List Int}{n:Nat}(u:Nat->Int)(r:Int)(n1:1<=n)(top:p.getD n 0=1):ps (ttF p n u) r n=r*ps u r n-u (n-1)*ps (fOf p) r (n+1):=by
 obtain⟨m,rfl⟩: ∃m,n=m+1:=⟨n-1,ad⟩
 have e1: ∀k,ps (ttF p (m+1) u) r k=ps (shF u 1) r k-u m*ps (fOf p) r k:=by
  intro k
  induction k with
  | zero=>simp[ps]
  | succ k ih=>
   show ps _ r k+ttF p (m+1) u k*r^k=(ps (shF u 1) r k+shF u 1 k*r^k)-u m*(ps (fOf p) r k+fOf p k*r^k)
   rw[ih];have e:ttF p (m+1) u k=shF u 1 k-u m*fOf p k:=by
    unfold ttF shF fOf;rw[gW]
    by_cases z:k=0
    ·rw[a7 z,a6 ad]
    ·rw[a6 z,a7 ad]
   rw[e]
   grind
 rw[e1<|m+1];have e2:ps (shF u 1) r (m+1)=r*ps u r m:=by
  have:=bE0 u r 1 m;rw[show 1+m=m+1 by lia,gN]at this
  exact this
 have e3:ps u r (m+1)=ps u r m+u m*r^m:=rfl;have e4:ps (fOf p) r (m+1+1)=ps (fOf p) r (m+1)+1*r^(m+1):=by
  show _+fOf p (m+1)*_=_
  rw[show fOf p (m+1)=1 from top]
 rw[e2,e3,e4,gW,jY]
 grind
theorem cQ7 {p:List Int}{n:Nat}{u:Nat->Int}{q r:Int}(n1:1<=n)(top:p.getD n 0=1)(hf:q∣ps (fOf p) r (n+1))(hu:q∣ps u r n): ∀i,q∣ps (itT p n u i) r n
 | 0=>hu
 | i+1=>by
  show q∣ps (ttF p n<|itT p n u i) r n
  rw[ps_tt _ r n1 top];exact Int.dvd_sub (Int.dvd_mul_of_dvd_right<|cQ7 n1 top hf hu i) (Int.dvd_mul_of_dvd_right hf)
theorem cQ8 {n:Nat}(n2:2<=n)(n4:n<=4){t:Nat->Nat->Int}{q r:Int}(h: ∀i,i<n->q∣ps (t i) r n):q∣gC 4 (tbL n t):=by
 match n,n2,n4 with
 | 2,_,_=>
  obtain⟨a0,h0⟩:=h 0 ac
  obtain⟨a1,h1⟩:=h 1 ac
  simp only[ps,d5,gN,bI]at h0 h1;refine⟨a0*t 1 1-a1*t 0 1,?_⟩;rw[dR8];have e0:t 0 0=q*a0-t 0 1*r:=by grind
  have e1:t 1 0=q*a1-t 1 1*r:=by grind
  rw[e0,e1]
  grind
 | 3,_,_=>
  obtain⟨a0,h0⟩:=h 0 ac
  obtain⟨a1,h1⟩:=h 1 ac
  obtain⟨a2,h2⟩:=h 2 ac
  simp only[ps,d5,gN,bI]at h0 h1 h2;refine⟨a0*(t 1 1*t 2 2-t 2 1*t 1 2)-a1*(t 0 1*t 2 2-t 2 1*t 0 2)+a2*(t 0 1*t 1 2-t 1 1*t 0 2),?_⟩;rw[dR9];have e0:t 0 0=q*a0-t 0 1*r-t 0 2*r^2:=by grind
  have e1:t 1 0=q*a1-t 1 1*r-t 1 2*r^2:=by grind
  have e2:t 2 0=q*a2-t 2 1*r-t 2 2*r^2:=by grind
  rw[e0,e1,e2]
  grind
 | 4,_,_=>
  obtain⟨a0,h0⟩:=h 0 ac
  obtain⟨a1,h1⟩:=h 1 ac
  obtain⟨a2,h2⟩:=h 2 ac
  obtain⟨a3,h3⟩:=h 3 ac
  simp only[ps,d5,gN,bI]at h0 h1 h2 h3;refine⟨gC 4<|tbL 4 λi j=>if j=0 then(if i=0 then a0 else if i=1 then a1 else if i=2 then a2 else a3)else t i j,?_⟩
  have e0:t 0 0=q*a0-t 0 1*r-t 0 2*r^2-t 0 3*r^3:=by grind
  have e1:t 1 0=q*a1-t 1 1*r-t 1 2*r^2-t 1 3*r^3:=by grind
  have e2:t 2 0=q*a2-t 2 1*r-t 2 2*r^2-t 2 3*r^3:=by grind
  have e3:t 3 0=q*a3-t 3 1*r-t 3 2*r^2-t 3 3*r^3:=by grind
  rw[dB2,dB2];simp only[reduceEqDiff,bZ,eG,Nat.zero_ne_one,zO,reduceCtorEq,e0,e1,e2,e3]
  grind
noncomputable def aP7 (r q:Int):Nat->Int
 | 0=>1
 | i+1=>aP7 r q i*r%q
theorem aV0 (r q:Int): ∀i,∃k,aP7 r q i=r^i+q*k
 | 0=>⟨0,by show(1:Int)=r^0+q*0;rw[d5];lia⟩
 | i+1=>by
  obtain⟨k,hk⟩:=aV0 r q i;refine⟨k*r-aP7 r q i*r/q,?_⟩;show aP7 r q i*r%q=_;have:=gI (aP7 r q i*r) q;rw[jY]
  grind
noncomputable def knT (q r:Int):Nat->Nat->Int:=λi j=>if i=0 then(if j=0 then q else 0)else if j=0 then(-aP7 r q i)%q else if j=i then 1 else 0
noncomputable def knD (n:Nat)(q r:Int):D:= .tup (tbF n n<|knT q r)
theorem dC3 {n:Nat}{q r:Int}(q2:2<=q):bS7 n (knT q r):=by
 refine⟨⟨λi hi=> ?_,λi hi j hj=> ?_⟩,λi hi j hj=> ?_⟩
 ·unfold knT
  by_cases z:i=0
  ·rw[a7 z,a7 z];lia
  ·rw[a6 z,a6 z,a7 rfl];decide
 ·unfold knT
  by_cases z:i=0
  ·rw[a7 z,a6 ad]
  ·rw[a6 z,a6 ad,a6 ad]
 ·unfold knT;rw[a6 ad]
  by_cases z:j=0
  ·rw[a7 z,a7 z,a7 z];exact⟨bY _ ad,bX _ ad⟩
  ·rw[a6 z,a6 ad,a6 z,a6 z,a7 rfl]
   decide
theorem dC4 {n:Nat}(n2:2<=n)(n4:n<=4){q r:Int}{v:Nat->Int}(h:q∣ps v r n):Gen n (Rows n<|knT q r) v:=by
 obtain⟨k,hk⟩:=h;obtain⟨k1,h1⟩:=aV0 r q 1;obtain⟨k2,h2⟩:=aV0 r q 2;obtain⟨k3,h3⟩:=aV0 r q 3;have m: ∀i,∃e,(-aP7 r q i)%q= -aP7 r q i+q*e:=λi=>⟨-(-aP7 r q i/q),by have:=gI (-aP7 r q i) q;grind⟩
 obtain⟨e1,f1⟩:=m 1;obtain⟨e2,f2⟩:=m 2;obtain⟨e3,f3⟩:=m 3;have t0: ∀j,knT q r 0 j=if j=0 then q else 0:=λj=>rfl
 have t1: ∀j,knT q r 1 j=if j=0 then(-aP7 r q 1)%q else if j=1 then 1 else 0:=λj=>rfl
 have t2: ∀j,knT q r 2 j=if j=0 then(-aP7 r q 2)%q else if j=2 then 1 else 0:=λj=>rfl
 have t3: ∀j,knT q r 3 j=if j=0 then(-aP7 r q 3)%q else if j=3 then 1 else 0:=λj=>rfl
 match n,n2,n4 with
 | 2,_,_=>
  simp only[ps,d5,gN,bI]at hk;refine(Gen.comb (k+v 1*(k1-e1)) (Gen.comb (v 1) .zero<|.base ⟨1,ac,rfl⟩)<|.base ⟨0,ac,rfl⟩).cong λj hj=> ?_
  simp only[t0,t1]
  match j,hj with
  | 0,_=>simp only[bZ];rw[f1,h1,gN];grind
  | 1,_=>simp
 | 3,_,_=>
  simp only[ps,d5,gN,bI]at hk;refine(Gen.comb (k+v 1*(k1-e1)+v 2*(k2-e2)) (Gen.comb (v 2) (Gen.comb (v 1) .zero<|.base ⟨1,ac,rfl⟩)<|.base ⟨2,ac,rfl⟩)<|.base ⟨0,ac,rfl⟩).cong λj hj=> ?_
  simp only[t0,t1,t2]
  match j,hj with
  | 0,_=>simp only[bZ];rw[f1,h1,f2,h2,gN];grind
  | 1,_=>simp
  | 2,_=>simp
 | 4,_,_=>
  simp only[ps,d5,gN,bI]at hk;refine(Gen.comb (k+v 1*(k1-e1)+v 2*(k2-e2)+v 3*(k3-e3)) (Gen.comb (v 3) (Gen.comb (v 2) (Gen.comb (v 1) .zero<|.base ⟨1,ac,rfl⟩)<|.base ⟨2,ac,rfl⟩)<|.base ⟨3,ac,rfl⟩)<|.base ⟨0,ac,rfl⟩).cong λj hj=> ?_
  simp only[t0,t1,t2,t3]
  match j,hj with
  | 0,_=>simp only[bZ];rw[f1,h1,f2,h2,f3,h3,gN];grind
  | 1,_=>simp
  | 2,_=>simp
  | 3,_=>simp
theorem bZ4 {n:Nat}{f:Nat->Int}{j:Nat}(h:j<n):fnL (rwF n f) j=f j:=by
 unfold fnL;rw[aI,aT6 h];rfl
theorem yK {f g:Nat->Int}{z:Int}: ∀n,(∀j,j<n->f j=g j)->ps f z n=ps g z n
 | 0,_=>rfl
 | n+1,h=>by
  show ps f z n+f n*z^n=ps g z n+g n*z^n
  rw[yK n λj hj=>h j ad,h n ad]
theorem qJ {p:List Int}{n:Nat}{q:Int}: ∀i,i<n-> ∀j,itT p n (a72 q) i j=if j=i then q else 0
 | 0,_,j=>rfl
 | i+1,hi,j=>by
  show ttF p n (itT p n (a72 q) i) j=_
  unfold ttF;rw[qJ i ad<|n-1,a6<|show ¬n-1=i by lia,gM]
  by_cases z:j=0
  ·rw[a7 z,a6 ad];lia
  ·rw[a6 z,qJ i ad<|j-1]
   by_cases w:j=i+1
   ·rw[a7 ad,a7 w];lia
   ·rw[a6 ad,a6 w];lia
theorem cK0 {p:List Int}{n:Nat}{c:Int}{w:Nat->Int}(hw: ∀j,w j=if j=0 then c else if j=1 then 1 else 0): ∀i,i+1<n-> ∀j,itT p n w i j=if j=i then c else if j=i+1 then 1 else 0
 | 0,_,j=>hw j
 | i+1,hi,j=>by
  show ttF p n (itT p n w i) j=_
  unfold ttF;rw[cK0 hw i ad<|n-1,a6<|show ¬n-1=i by lia,a6<|show ¬n-1=i+1 by lia,gM]
  by_cases z:j=0
  ·rw[a7 z,a6 ad,a6 ad];lia
  ·rw[a6 z,cK0 hw i ad<|j-1]
   by_cases y:j=i+1
   ·rw[a7 ad,a7 y];lia
   ·by_cases x:j=i+1+1
    ·rw[a6 ad,a7 ad,a6 y,a7 x];lia
    ·rw[a6 ad,a6 ad,a6 y,a6 x];lia
theorem dN9 {p:List Int}{n:Nat}{q r c m:Int}{w:Nat->Int}{T:Nat->Nat->Int}(n2:2<=n)(n4:n<=4)(top:p.getD n 0=1)(q2:2<=q)(hr:q∣r+c)(hf:q∣ps (fOf p) r (n+1))(hw: ∀j,w j=if j=0 then c else if j=1 then 1 else 0)(hm:q∣m)
  (S:SOk n m (tbL n (itT p n<|a72 q)++tbL n (itT p n w)) T): ∀i,i<n-> ∀j,j<n->T i j=knT q r i j:=by
 have pu:q∣ps (a72 q) r n:=by
  have:ps (a72 q) r n=q*ps (λj=>if j=0 then 1 else 0) r n:=by
   rw[<-bD9];exact yK n λj _=>by unfold a72;split<;>lia
  rw[this];exact aN5 _ _
 have pw:q∣ps w r n:=by
  have e:ps w r n=r+c:=by
   rw[aZ5 (n:=2) n n2 λj h1 _=>by rw[hw,a6 ad,a6 ad]]
   simp only[ps,hw,gN];simp
   lia
  rw[e];exact hr
 refine bS7.uniq S.st (dC3 q2) (λi hi=> ?_) λi hi=> ?_
 ·refine Gen.mono (λv hv=> ?_) ((S.gen _).mp<|.base ⟨i,hi,rfl⟩)
  refine dC4 n2 n4 ?_
  rcases hv with⟨l,hl,rfl⟩| ⟨k,hk,rfl⟩
  ·rcases bM.mp hl with hl|hl
   ·obtain⟨k,hk,rfl⟩:=dM.mp hl;rw[yK n λj hj=>bZ4 hj]
    exact cQ7 ad top hf pu k
   ·obtain⟨k,hk,rfl⟩:=dM.mp hl;rw[yK n λj hj=>bZ4 hj]
    exact cQ7 ad top hf pw k
  ·have e:ps (mE m k) r n=m*ps (λj=>if j=k then 1 else 0) r n:=by
    rw[<-bD9];exact yK n λj _=>by unfold mE;split<;>lia
   rw[e];exact nB hm
 ·rw[S.gen];have gu: ∀k,k<n->Gen n (RM n m<|LR<|tbL n (itT p n<|a72 q)++tbL n (itT p n w)) λj=>if j=k then q else 0:=λk hk=>
   (Gen.base<|.inl ⟨_,bM.mpr<|.inl<|dM.mpr ⟨k,dX.mpr hk,rfl⟩,rfl⟩).cong λj hj=>by rw[bZ4 hj,qJ k hk]
  have gw: ∀k,k+1<n->Gen n (RM n m<|LR<|tbL n (itT p n<|a72 q)++tbL n (itT p n w)) λj=>if j=k then c else if j=k+1 then 1 else 0:=λk hk=>
   (Gen.base<|.inl ⟨_,bM.mpr<|.inr<|dM.mpr ⟨k,dX.mpr ad,rfl⟩,rfl⟩).cong λj hj=>by rw[bZ4 hj,cK0 hw k hk]
  obtain⟨a,ha⟩:=hr;have ge: ∀k,k<n->Gen n (RM n m<|LR<|tbL n (itT p n<|a72 q)++tbL n (itT p n w)) λj=>(if j=k then 1 else 0)-r^k*(if j=0 then 1 else 0):=by
   intro k
   induction k with
   | zero=>exact λ_=>Gen.zero.cong λj _=>by rw[d5];lia
   | succ k ih=>
    intro hk;refine(Gen.comb r (Gen.comb (-a) (gw k hk)<|gu k ad)<|ih ad).cong λj _=> ?_
    rw[jY]
    by_cases x:j=k
    ·rw[a7 x,a7 x,a7 x,a6<|show ¬j=k+1 by lia]
     grind
    ·rw[a6 x,a6 x,a6 x]
     grind
  unfold knT
  by_cases z:i=0
  ·simp only[a7 z];exact gu 0 ad
  ·simp only[a6 z];obtain⟨k,hk⟩:=aV0 r q i;have f:=gI (-aP7 r q i) q;refine(Gen.comb (-k-(-aP7 r q i)/q) (ge i hi)<|gu 0 ad).cong λj _=> ?_
   by_cases x:j=0
   ·rw[a7 x,a7 x,a7 x,a6 ad]
    grind
   ·rw[a6 x,a6 x,a6 x]
    lia
theorem dO0 {p:List Int}{n:Nat}(n2:2<=n)(n4:n<=4){q:Int}(q2:2<=q)(q3:q<200):nrm p n (a72 q)≠0/\(nrm p n<|a72 q).natAbs<=2^600:=by
 have e:nrm p n (a72 q)=q^n:=by
  unfold nrm
  match n,n2,n4 with
  | 2,_,_=>
   rw[dR8];simp only[qJ 0<|show 0<2 by decide,qJ 1<|show 1<2 by decide]
   simp
   grind
  | 3,_,_=>
   rw[dR9];simp only[qJ 0<|show 0<3 by decide,qJ 1<|show 1<3 by decide,qJ 2<|show 2<3 by decide]
   simp
   grind
  | 4,_,_=>
   rw[dB2];simp only[qJ 0<|show 0<4 by decide,qJ 1<|show 1<4 by decide,qJ 2<|show 2<4 by decide,qJ 3<|show 3<4 by decide]
   simp
   grind
 rw[e];refine⟨Int.ne_of_gt<|Int.pow_pos ad,?_⟩
 rw[Int.natAbs_pow];refine aM (Nat.pow_le_pow_left (show q.natAbs<=2^8 by lia) n) ?_
 rw[<-Nat.pow_mul];exact iD ac ad
def a23:Φ:=λds Q=> ∃(C:Addr) (p:List Int) (n d:Nat) (g:Nat->Int),ds=[fG C p,aJ<|rwF (d+1) g]/\fF p/\p.length=n+1/\d<=n/\g d=1/\(∀j,d<j->g j=0)/\(∀j,(g j).natAbs<=2^8)/\ ∀w,(∀j,(w j).natAbs<=2^12)->(d<n->w=g)->Q (.pu<|aJ<|rwF n w)
def a24:US:=(cY<|aQ rN<|a9 (uIx (uV<|aQ fP<|a9 (aB 1)<|a9 (a69 "poly"<|aB 0) aK)<|uC<|.int 1)<|a9 (a69 "degree"<|aB 0) aK)
theorem dO1 {c n:Nat}{w:Nat->Int}(h:c<=n)(hz: ∀j,c<=j->j<n->w j=0):rwF c w++replicate (n-c) 0=rwF n w:=by
 apply nJ
 intro j
 by_cases h1:j<c
 ·rw[gH (by rw[mY];exact h1),aT6 h1,aT6 ad]
 ·rw[gU (by rw[mY];lia),mY,tE]
  by_cases h2:j<n
  ·rw[a7 ad,aT6 h2,hz j ad h2]
  ·rw[a6 ad,fK (by rw[mY];lia)]
theorem bZ5: ∀ds Q,a23 ds Q->a24 {nx:=λ_=>Q (.pu .non),rt:=Q} (init ["r","f"] ds):=by
 rintro ds Q ⟨C,p,n,d,g,rfl,rp,hn,hd,g1,gz,gb,h⟩;have lo:=rp.ok.lo;have hi:=rp.ok.hi;have rf:=rp.rf;have row:=rp.row;rw[hn,gW]at rf row;unfold a24;show(cY _:US) _ [some<|.pu<|fG C p,some<|.pu<|aJ<|rwF (d+1) g];rw[iV,eK,dG];unfold uIx uV;rw[eK,dG,aT7 rfl,dG,aF1 (C:=C) (p:=p) rfl];walk_at "u";rw[row]
 refine⟨d+1,n,8,9,g,fOf p,rfl,⟨ad,ad,rf.top,rf.hi,λm _=>gb m,rf.fb,ad,ac⟩,?_⟩
 walk_at "u"
 rw[at1];dsimp only;rw[rO (C:=C) (p:=p) rfl];walk_at "u";obtain⟨w,wb,wd,wz,wc,we⟩: ∃w:Nat->Int,(∀j,(w j).natAbs<=2^12)/\(d<n->w=g)/\(∀j,gF w (d+1)<=j->j<n->w j=0)/\gF w (d+1)<=n/\divL (fOf p) n (d+1-n) g=w:=by
  by_cases c:d<n
  ·refine⟨g,λj=>aM (gb j) ac,λ_=>rfl,λj hj _=> ?_,aM (sT _ _) ad,by rw[show d+1-n=0 by lia];rfl⟩
   by_cases x:j<d+1
   ·exact aE9 g (d+1) j hj x
   ·exact gz j ad
  ·have e:d=n:=ad
   subst e;refine⟨λj=>g j-fOf p j,λj=> ?_,λz=>absurd z c,λj hj hj2=>aE9 _ (d+1) j hj ad,?_,?_⟩
   ·show(g j-fOf p j).natAbs<=_
    have b1:=gb j;have b2:=rf.fb j;have:(2:Nat)^12=4096:=rfl;have:(2:Nat)^8=256:=rfl;have:(2:Nat)^9=512:=rfl
    lia
   ·have z:g d-fOf p d=0:=by rw[g1,rf.top];rfl
    show(if g d-fOf p d=0 then gF _ d else d+1)<=d
    rw[a7 z];exact sT _ _
   ·rw[show d+1-d=1 by lia]
    funext j
    show g j-g (0+d)*shF (fOf p) 0 j=g j-fOf p j
    rw[Nat.zero_add,g1];unfold shF;rw[a7<|dN _,tV]
    lia
 rw[we];refine⟨_,(n:Int),by rw[hn];congr 3;lia,by rw[mY];lia,ad,ad,?_⟩
 rw[mY,show((n:Int)-(gF w (d+1):Int)).toNat=n-gF w (d+1)by lia,dO1 wc wz]
 exact h w wb wd
def qY:Φ:=λds Q=> ∃(C:Addr) (p:List Int) (n:Nat) (q:Int) (d:Nat) (g:Nat->Int),ds=[fG C p,.int q,aJ<|rwF (d+1) g]/\fF p/\p.length=n+1/\Pr q/\1<=d/\d<=n/\MP q d g/\(d=1->q∣ps (fOf p) ((-g 0)%q) (n+1))/\ ∀t,(d=1->t=knD n q ((-g 0)%q))->Q (.pu t)
def wY:US:=(cY<|aQ b09<|a9 (aB 0)<|a9 (kF<|a9 (aQ uP<|a9 (aB 0)<|a9 (aB 1) aK)<|a9 (aQ a23<|a9 (aB 0)<|a9 (aB 2) aK) aK) aK)
theorem cX8 {n m:Nat}{t u:Nat->Nat->Int}(h: ∀i,i<n-> ∀j,j<m->t i j=u i j):tbF n m t=tbF n m u:=by
 unfold tbF;apply zE;intro i hi;rw[iO λj hj=>h i (dX.mp hi) j hj]
theorem bL7: ∀ds Q,qY ds Q->wY {nx:=λ_=>Q (.pu .non),rt:=Q} (init ["r","p","g"] ds):=by
 rintro ds Q ⟨C,p,n,q,d,g,rfl,rp,hn,pq,d1,dn,mg,hf,h⟩;have lo:=rp.ok.lo;have hi:=rp.ok.hi;have q2:=pq.lo;have q3:=pq.hi;have rf:=rp.rf;rw[hn,gW]at rf;unfold wY;show(cY _:US) _ [some<|.pu<|fG C p,some<|.pu<|.int q,some<|.pu<|aJ<|rwF (d+1) g];walk_at "u";refine⟨C,p,n,q,rfl,rp,hn,?_⟩;walk_at "u";refine⟨C,p,n,d,g,rfl,rp,hn,dn,mg.top,mg.hi,λj=>cJ0 pq mg j,λw wb wd=> ?_⟩
 walk_at "u"
 obtain⟨c1,c2⟩:=dO0 (p:=p) (show 2<=n by lia) (show n<=4 by lia) q2 q3
 refine⟨ac,C,p,n,a72 q,w,rfl,rp,hn,λj=> ?_,wb,c1,c2,λT S=>h _ λe=> ?_⟩
 ·unfold a72;have:(2:Nat)^12=4096:=rfl;split<;>lia
 ·subst e;have wg:=wd ad
  subst wg;have hf:=hf rfl;have hw: ∀j,w j=if j=0 then w 0 else if j=1 then 1 else 0:=λj=>by
   match j with
   | 0=>rfl
   | 1=>exact mg.top
   | j+2=>rw[a6 ad,a6 ad];exact mg.hi _ ad
  have top:p.getD n 0=1:=rf.top;have hr:q∣(-w 0)%q+w 0:=⟨-((-w 0)/q),by have:=gI (-w 0) q;grind⟩
  have pw:q∣ps w ((-w 0)%q) n:=by
   have e:ps w ((-w 0)%q) n=(-w 0)%q+w 0:=by
    rw[aZ5 (n:=2) n ad λj h1 _=>mg.hi j ad]
    show 0+w 0*_^0+w 1*_^1=_
    rw[show w 1=1 from mg.top,d5,gN]
    lia
   rw[e];exact hr
  have d2:q∣nrm p n w:=cQ8 ad ad λi _=>cQ7 ad top hf pw i
  have d1:q∣nrm p n (a72 q):=cQ8 (r:=0) ad ad λi hi=>by
   have e:ps (itT p n (a72 q) i) 0 n=q*ps (λj=>if j=i then 1 else 0) 0 n:=by
    rw[<-bD9];exact yK n λj _=>by rw[qJ i hi];split<;>lia
   rw[e];exact aN5 _ _
  unfold knD;rw[cX8<|dN9 ad ad top q2 hr hf hw (Int.dvd_coe_gcd d1 d2) S]
theorem bZ6 {js:List Nat}{cap:List (Option Nat)}{last t0 t1:Nat}{ui:UI}{te:UE}{ρ:Ev}{Q:B->Ev->Prop}(n:Nat)(it i1 i2:Nat->D)(hit: ∀i,i<n->it i= .tup [i1 i,i2 i])(ρ1:Ev)(hui: ∀Q:Nat->(Nat->D)->Ev->Prop,Q n it ρ1->ui ρ Q)(hn:n<=1000000)
  (G:Option B->Option B->List D->Ev) (x0 y0:Option B) (h0:rE (a04 ρ1 js) cap last=G x0 y0 []) (h1: ∀x y l b c,((G x y l).set t0<|some b).set t1 (some c)=G (some b) (some c) l) (h1': ∀x y l,t0< (G x y l).length/\t1< (G x y l).length)
  (h2: ∀x y l (Q:List D->Prop),Q l->oC (G x y l) last Q) (h3: ∀x y l l',(G x y l).set last (some<|.ow l')=G x y l')
  (P:Nat->D->Prop) (hte: ∀i l (Q':B->Ev->Prop),i<n->(∀d,P i d->Q' (.pu d) (G (some<|.pu<|i1 i) (some<|.pu<|i2 i) l))->te (G (some<|.pu<|i1 i) (some<|.pu<|i2 i) l) Q') (hq: ∀l:List D,l.length=n->(∀i,i<n->P i (l.getD i .non))->Q (.ow l) (a04 ρ1 js)) :
  dS js cap last ui (mV<|d8 t0<|d8 t1 mU) (λρ Q=>Q true ρ) te ρ Q:=by
 refine hui _ ⟨λi ρ'=> ∃x y l,ρ'=G x y l/\l.length=i/\ ∀k,k<i->P k (l.getD k .non),⟨x0,y0,[],h0,rfl,λk hk=>absurd hk (nO _)⟩,?_,?_⟩
 ·rintro i ρ' hi ⟨x,y,l,rfl,hl,hP⟩;rw[hit i hi];refine⟨(h1' _ _ _).1,by rw[eE];exact(h1' _ _ _).2,rfl,?_⟩
  rw[h1];dsimp only;rw[a7 rfl];refine hte i _ _ hi λd hd=>h2 _ _ _ _ ⟨?_,some<|.pu<|i1 i,some<|.pu<|i2 i,l++[d],?_,?_,λk hk=> ?_⟩
  ·rw[hl];exact aY hi (aM hn ac)
  ·rw[h3];rfl
  ·rw[bN,hl];rfl
  ·by_cases c:k<i
   ·have:=hP k c;rw[aI,gH ad,<-aI]
    exact this
   ·have e:k=i:=ad
    subst e;rw[aI,gU ad,hl,j7]
    exact hd
 ·rintro ρ' ⟨x,y,l,rfl,hl,hP⟩;exact h2 _ _ _ _ (hq l hl hP)
theorem Pr.no_zero {p:Int}(pp:Pr p){a b:Int}(h:a*b%p=0):a%p=0\/b%p=0:=by
 have p2:=pp.lo
 by_cases c:a%p=0
 ·exact .inl c
 ·refine .inr ?_
  have a0:=bY a (show p≠0 by lia)
  have a1:=bX a (show 0<p by lia)
  have iv:=pp.inv (a%p) ad a1
  generalize bD7 (a%p) p (p.toNat-2)=t at iv;have e:b%p=(t*(a%p))%p*b%p:=by rw[iv,zY]
  rw[e,emL,nR,<-emR,emL a b p,h,bO,dL]
theorem cK1 {p:Int}(p2:2<=p)(a:Nat×(Nat->Int))(z:Int):va p a z%p=va p a z:=j5 _ _
theorem bZ7 {p:Int}{a g:Nat×(Nat->Int)}(hg: ∀j,g.1<j->g.2 j=0){z:Int}(h:va p a z=0\/va p g z=0): ∀k,(va p a z=0\/1<=k)->va p (powT p a g k) z=0
 | 0,hk=>by
  rcases hk with hk|hk
  ·exact hk
  ·omega
 | k+1,_=>by
  show va p (tm p (powT p a g k) g) z=0
  rw[cP8 hg];rcases h with h|h
  ·rw[bZ7 hg (.inl h) k<|.inl h,gM,dL]
  ·rw[h,bO,dL]
theorem cQ9 {p:Int}{z:Int}: ∀(l:List ((Nat×(Nat->Int))×Nat)) (a:Nat×(Nat->Int)),(∀x∈l,(∀j,x.1.1<j->x.1.2 j=0)/\1<=x.2)->(va p a z=0\/ ∃x∈l,va p x.1 z=0)->va p (allT p a l) z=0
 | [],a,_,h=>by
  rcases h with h| ⟨x,hx,_⟩
  ·exact h
  ·cases hx
 | y::l,a,hl,h=>by
  have hy:=hl y (cO ..);refine cQ9 l (powT p a y.1 y.2) (λx hx=>hl x (bH _ hx)) ?_
  rcases h with h| ⟨x,hx,h⟩
  ·exact .inl (bZ7 hy.1 (.inl h) _<|.inl h)
  ·rcases aX.mp hx with rfl|hx
   ·exact .inl (bZ7 hy.1 (.inr h) _<|.inr hy.2)
   ·exact .inr ⟨x,hx,h⟩
theorem cR0 {p:Int}(pp:Pr p){a g:Nat×(Nat->Int)}(hg: ∀j,g.1<j->g.2 j=0){z:Int}(h:va p a z≠0)(h2:va p g z≠0): ∀k,va p (powT p a g k) z≠0
 | 0=>h
 | k+1=>by
  show va p (tm p (powT p a g k) g) z≠0
  rw[cP8 hg];intro e;rcases pp.no_zero e with e|e
  ·rw[cK1 pp.lo]at e;exact cR0 pp hg h h2 k e
  ·rw[cK1 pp.lo]at e;exact h2 e
theorem b89 {p:Int}(pp:Pr p){z:Int}: ∀(l:List ((Nat×(Nat->Int))×Nat)) (a:Nat×(Nat->Int)),(∀x∈l,∀j,x.1.1<j->x.1.2 j=0)->va p a z≠0->(∀x∈l,va p x.1 z≠0)->va p (allT p a l) z≠0
 | [],a,_,h,_=>h
 | y::l,a,hl,h,h2=>b89 pp l (powT p a y.1 y.2) (λx hx=>hl x (bH _ hx)) (cR0 pp (hl y<|cO ..) h (h2 y<|cO ..) _) λx hx=>h2 x (bH _ hx)
theorem cK2 {p:Int}(p2:2<=p){g:Nat×(Nat->Int)}(mg:MP p g.1 g.2)(h1:g.1=1)(z:Int):va p g z=(z+g.2 0)%p:=by
 have e:g.2 1=1:=by have:=mg.top;rw[h1]at this;exact this
 unfold va;rw[h1];show(0+g.2 0*z^0+g.2 1*z^1)%p=_;rw[e,d5,gN]
 congr 1
 lia
def AbD (n:Nat)(q:Int)(x:(Nat×(Nat->Int))×Nat)(d:D):Prop:= ∃t,d= .tup [t,.int (x.2:Int),.int (x.1.1:Int)]/\(x.1.1=1->t=knD n q ((-x.1.2 0)%q))
def uY:Φ:=λds Q=> ∃(C:Addr) (p:List Int) (n:Nat) (q:Int),ds=[fG C p,.int q]/\fF p/\p.length=n+1/\q∈prL/\ ∀xs l,SP q (n,md q<|fOf p) xs->l.length=xs.length->(∀i,i<xs.length->AbD n q (xs.getD i (cZ,0)) (l.getD i .non))->Q (.ow l)
def aP8:US:=(cY<|dS [0,1] [none,none,some 0,some 1,none] 4 (gR<|aQ qV<|a9 (a69 "poly"<|aB 0)<|a9 (aB 1) aK) (mV<|d8 0<|d8 1 mU) (λρ Q=>Q true ρ)<|i6<|a9 (aQ qY<|a9 (aB 2)<|a9 (aB 3)<|a9 (aB 0) aK)<|a9 (aB 1)<|a9 (uOp M.gSub (kO<|aV 0)<|uC<|.int 1) aK)
theorem cK3: ∀ds Q,uY ds Q->aP8 {nx:=λ_=>Q (.pu .non),rt:=Q} (init ["r","p"] ds):=by
 rintro ds Q ⟨C,p,n,q,rfl,rp,hn,hq,h⟩;have lo:=rp.ok.lo;have hi:=rp.ok.hi;have pq:=a15 hq;have q2:=pq.lo;have rf:=rp.rf;have row:=rp.row;rw[hn,gW]at rf row;unfold aP8;show(cY _:US) _ [some<|.pu<|fG C p,some<|.pu<|.int q];rw[iV]
 have key: ∀xs,SP q (n,md q<|fOf p) xs->dS [0,1] [none,none,some 0,some 1,none] 4 (λρ Q=>Q (xs.map vS).length (λi=>(xs.map vS).getD i .non) ρ) (mV<|d8 0<|d8 1 mU) (λρ Q=>Q true ρ) (i6<|a9 (aQ qY<|a9 (aB 2)<|a9 (aB 3)<|a9 (aB 0) aK)<|a9 (aB 1)<|a9 (uOp M.gSub (kO<|aV 0)<|uC<|.int 1) aK) [some<|.pu<|fG C p,some<|.pu<|.int q] λb _=>Q b:=by
  intro xs sp
  refine bZ6 (t0:=0) (t1:=1) xs.length (λi=>(xs.map vS).getD i .non) (λi=>aJ (rwF ((xs.getD i (cZ,0)).1.1+1) (xs.getD i (cZ,0)).1.2)) (λi=> .int ((xs.getD i (cZ,0)).2:Int)) (λi hi=> ?_) [some<|.pu<|fG C p,some<|.pu<|.int q] (λQ' q=> ?_) (aM sp.len ac) (λx y l=>[x,y,some<|.pu<|fG C p,some<|.pu<|.int q,some<|.ow l]) none none rfl (λ_ _ _ _ _=>rfl) (λ_ _ _=>⟨ae,ae⟩) (λ_ _ _ _ q=>q) (λ_ _ _ _=>rfl) (λi=>AbD n q (xs.getD i (cZ,0))) ?_ ?_
  ·rw[aI,b7,aI,aO hi];rfl
  ·rw[aG];exact q
  ·intro i l Q' hi' q';have hm:xs.getD i (cZ,0)∈xs:=by
    rw[aI,aO hi'];exact bS hi'
   obtain⟨mx,x1,x4,o1,_⟩:=sp.mem _ hm;have dg:=a93 q xs cZ _ hm;rw[sp.prod]at dg;have root:(xs.getD i (cZ,0)).1.1=1->q∣ps (fOf p) ((-(xs.getD i (cZ,0)).1.2 0)%q) (n+1):=by
    intro h1;have z:va q (xs.getD i (cZ,0)).1 ((-(xs.getD i (cZ,0)).1.2 0)%q)=0:=by
     rw[cK2 q2 mx h1];have:=gI (-(xs.getD i (cZ,0)).1.2 0) q;exact mod_of (-(-(xs.getD i (cZ,0)).1.2 0/q)) (by grind)
    have v:=cQ9 (p:=q) (z:=(-(xs.getD i (cZ,0)).1.2 0)%q) xs cZ (λx hx=>⟨(sp.mem x hx).1.hi,(sp.mem x hx).2.2.2.1⟩) (.inr ⟨_,hm,z⟩)
    rw[sp.prod]at v;unfold va at v;rw[d94]at v;exact d3 v
   generalize xs.getD i (cZ,0)=x at *;have dn:x.1.1<=n:=by
    have:x.1.1*1<=x.1.1*x.2:=tK _ o1;have e0:cZ.1=0:=rfl;dsimp only at dg
    lia
   walk_at "u"
   refine⟨C,p,n,q,x.1.1,x.1.2,rfl,rp,hn,pq,x1,dn,mx,root,λt ht=> ?_⟩
   walk_at "u"
   simp only[aJ]at q'⊢;rw[aZ];rw[show((x.1.1+1:Nat):Int)-1=(x.1.1:Int)by lia]
   exact⟨ac,q' _ ⟨t,rfl,ht⟩⟩
  ·intro l hl hP;exact h xs l sp hl hP
 unfold dS at key⊢;unfold gR;rw[eK,dG,aF1 (C:=C) (p:=p) rfl];walk_at "u";rw[row];exact⟨n,fOf p,q,rfl,ad,hq,rf.mp q2,λxs sp=>key xs sp⟩
def aA9:Φ:=λds Q=> ∃i:Nat,ds=[.int<|2+(i:Int)]/\Q (.pu<|.bl<|prC i)
def aB0:US:=(cY<|aQ d38<|a9 (dS [0] [none,some 0,none] 2 (aS0<|a9 (uC<|.int 2)<|a9 (uC<|.int 15) aK) (cC 0) (λρ Q=>Q true ρ)<|uOrV (uOp (jH true) (uOp oJ (aB 1)<|aB 0)<|uC<|.int 0)<|uOp (jH false) (aB 1)<|aB 0) aK)
theorem c98: ∀ds Q,aA9 ds Q->aB0 {nx:=λ_=>Q (.pu .non),rt:=Q} (init ["m"] ds):=by
 rintro ds Q ⟨i,rfl,h⟩;unfold aB0;show(cY _:US) _ [some<|.pu<|.int<|2+(i:Int)];rw[iV,eK,dG];refine eV (t0:=0) 13 (λk=> .int (2+(k:Int))) [some<|.pu<|.int<|2+(i:Int)] ?_ ac (λx l'=>[x,some<|.pu<|.int<|2+(i:Int),some<|.ow l']) none rfl (λ_ _ _=>rfl) (λ_ _=>cQ _) (λ_ _ _ q=>q) (λ_ _ _=>rfl) (λk=> .bl (prB i k)) ?_ ?_
 ·intro Q'' q';walk_at "u";exact⟨ac,q'⟩
 ·intro k l' Q'' hk q';walk_at "u";unfold prB at q';refine⟨ad,?_⟩
  rw[dE _ ad]
  by_cases c:(2:Int)+(i:Int)=2+(k:Int)
  ·rw[a7 c]at q';have ik:i=k:=ad
   subst ik;rw[Int.emod_self]
   simpa using q'
  ·rw[a6 c]at q'
   by_cases c2:((2:Int)+(i:Int))%(2+(k:Int))=0
   ·rw[c2]at q'⊢;simp only[c,decide_false,Bool.not_true,decide_true]at q'⊢
    simpa using q'
   ·simp only[c2,decide_false,Bool.not_false]at q'⊢
    simpa using q'
 ·have e:(List.range 13).map (λk=>D.bl (prB i k))=((List.range 13).map<|prB i).map D.bl:=by rw[fX];rfl
  rw[e];walk_at "u";rw[a05];exact h
def uZ:Φ:=λds Q=>ds=[]/\Q (.ow<|prL.map .int)
def aP9:US:=(cY<|dS [] [none,none] 1 (aS0<|a9 (uC<|.int 2)<|a9 (uC<|.int 200) aK) (cC 0) (gA<|aQ aA9<|a9 (aB 0) aK)<|aB 0)
theorem cK4: ∀ds Q,uZ ds Q->aP9 {nx:=λ_=>Q (.pu .non),rt:=Q} (init [] ds):=by
 rintro ds Q ⟨rfl,h⟩;unfold aP9;show(cY _:US) _ [];rw[iV];refine aT9 (t0:=0) 198 (λk=> .int (2+(k:Int))) [] ?_ ac (λx l=>[x,some<|.ow l]) none rfl (λ_ _ _=>rfl) (λ_ _=>cQ _) (λ_ _ _ q=>q) (λ_ _ _=>rfl) prC (λi=> .int (2+(i:Int))) ?_ ?_ ?_
 ·intro Q' q;walk_at "u";exact⟨ac,q⟩
 ·intro i l Q' hi q;walk_at "u";exact⟨i,rfl,q⟩
 ·intro i l Q' hi q;walk_at "u";exact q
 ·have e:((List.range 198).filter prC).map (λi:Nat=>D.int (2+(i:Int)))=prL.map .int:=by unfold prL;rw[fX];rfl
  rw[e];exact h
def cK5 (q:Int)(F:Nat×(Nat->Int))(c:Int)(k:Nat):Prop:= ∃H:Nat×(Nat->Int),MP q H.1 H.2/\F=powT q H (jC c) k/\va q H (-c)≠0
noncomputable def hb (r q:Int)(f:Nat->Int)(m:Nat):Nat->Int
 | 0=>0
 | k+1=>(hb r q f m k*r+f (m-k))%q
theorem dO2 {p:Int}(p2:2<=p){g:Nat×(Nat->Int)}(mg:MP p g.1 g.2){l:List ((Nat×(Nat->Int))×Nat)}{a:Nat×(Nat->Int)}(ma:MP p a.1 a.2)(hl: ∀x∈l,MP p x.1.1 x.1.2):allT p (tm p a g) l=tm p (allT p a l) g:=by
 rw[aF0 ma.hi mg.hi,aZ7 p2 l ma hl,aF0 mg.hi (MP.allT p2 l ma hl).hi]
theorem aV1 {p:Int}(p2:2<=p){g:Nat×(Nat->Int)}(mg:MP p g.1 g.2){l:List ((Nat×(Nat->Int))×Nat)}{a:Nat×(Nat->Int)}(ma:MP p a.1 a.2)(hl: ∀x∈l,MP p x.1.1 x.1.2): ∀k,allT p (powT p a g k) l=powT p (allT p a l) g k
 | 0=>rfl
 | k+1=>by
  show allT p (tm p (powT p a g k) g) l=tm p (powT p (allT p a l) g k) g
  rw[dO2 p2 mg (MP.powT p2 ma mg k) hl,aV1 p2 mg ma hl k]
theorem cR1: ∀r:List Int,ltL r r=false
 | []=>rfl
 | a::r=>by unfold ltL;rw[a7 rfl];exact cR1 r
theorem bZ8 {x y:(Nat×(Nat->Int))×Nat}(h:ltP x y):x.1≠y.1:=by
 intro e;unfold ltP at h;rw[e]at h;rcases h with h|h
 ·lia
 ·rw[cR1]at h;exact absurd h.2 ac
theorem c99 {q c:Int}(pq:Pr q)(c0:0<=c)(c1:c<q){g:Nat×(Nat->Int)}(mg:MP q g.1 g.2)(d1:1<=g.1)(nr:2<=g.1->NoR q g)(h:g≠jC c):va q g (-c)≠0:=by
 have q2:=pq.lo
 by_cases d2:g.1=1
 ·rw[cK2 q2 mg d2];intro z;have r:=mg.rng 0;obtain⟨k,hk⟩:=d3 z;have k0:k=0:=by
   rcases aN4 k 0 with z|z|z
   ·have:q*k<=q*(-1):=kP ad ad
    lia
   ·exact z
   ·have:q*1<=q*k:=kP ad ad
    lia
  rw[k0,bO]at hk;refine h ?_;rw[bY3 mg d2,show g.2 0=c by lia]
 ·have:=nr ad c.toNat ad
  rw[aM2 c0]at this;exact this
theorem dO3 {q c:Int}(pq:Pr q){F:Nat×(Nat->Int)}(mF:MP q F.1 F.2){xs:List ((Nat×(Nat->Int))×Nat)}(sp:SP q F xs)(c0:0<=c)(c1:c<q) :
  (∀x∈xs,x.1=jC c->cK5 q F c x.2)/\((∀x∈xs,x.1≠jC c)->cK5 q F c 0):=by
 have q2:=pq.lo;have mx: ∀x∈xs,MP q x.1.1 x.1.2:=λx hx=>(sp.mem x hx).1
 have nz: ∀x∈xs,x.1≠jC c->va q x.1 (-c)≠0:=λx hx h=>c99 pq c0 c1 (mx x hx) (sp.mem x hx).2.1 (sp.mem x hx).2.2.2.2.2.1 h
 have v1:va q cZ (-c)≠0:=by
  show(0+(if 0=0 then(1:Int)else 0)*(-c)^0)%q≠0
  rw[a7 rfl,d5,jZ,bI,dU ac ad]
  decide
 refine⟨λx hx e=> ?_,λh=>⟨F,mF,rfl,?_⟩⟩
 ·obtain⟨l1,l2,rfl⟩:=aM9 hx;have od:=sp.ord;rw[aL8,aM8]at od;have m1: ∀y∈l1,MP q y.1.1 y.1.2:=λy hy=>mx y (bM.mpr<|.inl hy)
  have m2: ∀y∈l2,MP q y.1.1 y.1.2:=λy hy=>mx y (bM.mpr<|.inr<|bH _ hy)
  have mA:=MP.allT q2 l1 (MP.one q2) m1;refine⟨allT q (allT q cZ l1) l2,MP.allT q2 l2 mA m2,?_,?_⟩
  ·rw[<-sp.prod,l8];show allT q (powT q (allT q cZ l1) x.1 x.2) l2=_;rw[aV1 q2 (mx x hx) mA m2,e]
  ·rw[<-l8];refine b89 pq _ _ (λy hy=> ?_) v1 λy hy=> ?_
   ·rcases bM.mp hy with hy|hy
    ·exact(m1 y hy).hi
    ·exact(m2 y hy).hi
   ·rcases bM.mp hy with hy|hy
    ·exact nz y (bM.mpr<|.inl hy) λz=>bZ8 (od.2.2 y hy x<|cO ..) (z.trans e.symm)
    ·exact nz y (bM.mpr<|.inr<|bH _ hy) λz=>bZ8 (od.2.1.1 y hy) (e.trans z.symm)
 ·rw[<-sp.prod];exact b89 pq xs cZ (λy hy=>(mx y hy).hi) v1 λy hy=>nz y hy (h y hy)
noncomputable def dA (c b:Int):Int:=b*b-4*c
noncomputable def dB (d c b:Int):Int:=b*b*c*c-4*c*c*c-4*b*b*b*d-27*d*d+18*b*c*d
noncomputable def dC (e d c b:Int):Int:= -27*b*b*b*b*e*e+18*b*b*b*c*d*e-4*b*b*b*d*d*d-4*b*b*c*c*c*e+b*b*c*c*d*d+144*b*b*c*e*e-6*b*b*d*d*e-80*b*c*c*d*e+18*b*c*d*d*d-192*b*d*e*e+16*c*c*c*c*e-4*c*c*c*d*d-128*c*c*e*e+144*c*d*d*e-27*d*d*d*d+256*e*e*e
theorem hank4 (e d c b:Int):gC 4 (cJ [e,d,c,b,1])=dC e d c b:=by
 have h:=id4 e d c b;have h2:27*dC e d c b=27*gC 4 (cJ [e,d,c,b,1]):=by
  rw[h];unfold dC
  grind
 lia
theorem dB_lin (r u v:Int):dB (r*v) (v+r*u) (u+r)=dA v u*((r*r-u*r+v)*(r*r-u*r+v)):=by unfold dB dA;grind
theorem dC_lin (r u v w:Int):dC (r*w) (w+r*v) (v+r*u) (u+r)=dB w v u*((-(r*r*r)+u*r*r-v*r+w)*(-(r*r*r)+u*r*r-v*r+w)):=by unfold dB dC;grind
theorem dC_qu (u v s t:Int):dC (v*t) (u*t+v*s) (v+u*s+t) (u+s)=dA v u*dA t s*(((v-t)*(v-t)-(u-s)*(s*v-u*t))*((v-t)*(v-t)-(u-s)*(s*v-u*t))):=by unfold dA dC;grind
theorem Pr.or {q:Int}(pq:Pr q){a b:Int}(h:q∣a*b):q∣a\/q∣b:=by
 rcases pq.no_zero (kS h)with h|h
 ·exact .inl (d3 h)
 ·exact .inr (d3 h)
theorem Pr.sq {q:Int}(pq:Pr q){a:Int}(h:q∣a*a):q∣a:=(pq.or h).elim id id
theorem Pr.cut {q:Int}(pq:Pr q){a b:Int}(h:q∣a*b)(n: ¬q∣a):q∣b:=(pq.or h).resolve_left n
theorem Pr.sol {q:Int}(pq:Pr q){a:Int}(h: ¬q∣a)(b:Int): ∃z,q∣a*z-b:=by
 have p2:=pq.lo;have a0:=bY a (show q≠0 by lia)
 have a1:=bX a (show 0<q by lia)
 have ne:a%q≠0:=λe=>h (d3 e)
 have iv:=pq.inv (a%q) ad a1
 generalize bD7 (a%q) q (q.toNat-2)=t at iv;have e1:=gI (t*(a%q)) q;have e2:=gI a q;rw[iv]at e1;refine⟨t*b,t*(a/q)*b+t*(a%q)/q*b,?_⟩;have:a*(t*b)-b=(a%q+q*(a/q))*(t*b)-b:=by rw[e2]
 rw[this];have:t*(a%q)*b=(1+q*(t*(a%q)/q))*b:=by rw[e1]
 grind
theorem Pr.no {q:Int}(pq:Pr q)(h:5<=q): ¬q∣2/\ ¬q∣3/\ ¬q∣4:=
 ⟨λh=>by have:=j6 ac h;lia,λh=>by have:=j6 ac h;lia,λh=>by have:=j6 ac h;lia⟩
theorem fM {q:Int}(pq:Pr q){a b:Int}(h: ¬q∣a)(h2: ¬q∣b): ¬q∣a*b:=λh3=>(pq.or h3).elim h h2
theorem dv2 {q a b x y e:Int}(h:q∣a)(h2:q∣b)(he:e=a*x+b*y):q∣e:=by
 rw[he];exact tY (nB h) (nB h2)
theorem dv3 {q a b c x y z e:Int}(h:q∣a)(h2:q∣b)(h3:q∣c)(he:e=a*x+b*y+c*z):q∣e:=by
 rw[he];exact tY (tY (nB h)<|nB h2) (nB h3)
theorem dv1 {q a x e:Int}(h:q∣a)(he:e=a*x):q∣e:=by rw[he];exact nB h
theorem root2 {q:Int}(pq:Pr q){c b:Int}(h:q∣dA c b): ∃z,q∣z*z+b*z+c:=by
 by_cases c2:q∣2
 ·have e:q=2:=by have:=j6 ac c2;have:=pq.lo;lia
  subst e;refine⟨c,?_⟩;have hb:(2:Int)∣b:=pq.sq (dv2 (x:=1) (y:=2*c) h (zW 2) (by unfold dA;grind))
  rcases Int.emod_two_eq c with e|e
  ·exact dv2 (x:=c+b+1) (y:=0) (d3 e) (zW 2) (by grind)
  ·exact dv2 (a:=c+1) (x:=c) (y:=c) ad hb (by grind)
 ·obtain⟨z,hz⟩:=pq.sol c2 (-b);refine⟨z,pq.cut (a:=2*2) ?_<|fM pq c2 c2⟩;exact dv2 (x:=2*z+b) (y:= -1) hz h (by unfold dA;grind)
theorem root3 {q:Int}(pq:Pr q)(q5:5<=q){d c b:Int}(h:q∣dB d c b): ∃z,q∣z*z*z+b*z*z+c*z+d:=by
 obtain⟨n2,n3,_⟩:=pq.no q5
 by_cases cA:q∣b*b-3*c
 ·have hN:q∣2*b*b*b-9*b*c+27*d:=pq.sq (dv2 (x:=4*(b*b-3*c)*(b*b-3*c)) (y:= -27) cA h (by unfold dB;grind))
  obtain⟨z,hz⟩:=pq.sol n3 (-b);refine⟨z,pq.cut (a:=3*3*3) ?_<|fM pq (fM pq n3 n3) n3⟩;exact dv2 (x:=9*z*z+6*b*z-2*b*b+9*c) (y:=1) hz hN (by grind)
 ·obtain⟨z,hz⟩:=pq.sol (fM pq n2 cA) (9*d-b*c);have n:=fM pq n2 cA;refine⟨z,pq.cut (a:=2*(b*b-3*c)*(2*(b*b-3*c))*(2*(b*b-3*c))) ?_<|fM pq (fM pq n n) n⟩;obtain⟨A,eA⟩: ∃A,A=2*(b*b-3*c):=⟨_,rfl⟩;obtain⟨B,eB⟩: ∃B,B=9*d-b*c:=⟨_,rfl⟩;rw[<-eA,<-eB]at hz;rw[<-eA];have h1:q∣B*B*B+b*A*B*B+c*A*A*B+d*A*A*A:=dv1 (x:= -(2*b*b*b-9*b*c+27*d)) h (by rw[eA,eB];unfold dB;grind)
  exact dv2 (x:=A*A*z*z+A*z*B+B*B+b*A*(A*z+B)+c*A*A) (y:=1) hz h1 (by grind)
theorem root4d {q:Int}(pq:Pr q)(q5:5<=q){P Q R:Int}(h:q∣4*(12*R+P*P)*(12*R+P*P)*(12*R+P*P)-(72*P*R-27*Q*Q-2*P*P*P)*(72*P*R-27*Q*Q-2*P*P*P)) :
  (∃y,q∣y*y*y*y+P*y*y+Q*y+R)\/ ∃m,q∣Q/\q∣2*m-P/\q∣R-m*m:=by
 obtain⟨n2,n3,_⟩:=pq.no q5;obtain⟨I,eI⟩: ∃I,I=12*R+P*P:=⟨_,rfl⟩;obtain⟨J,eJ⟩: ∃J,J=72*P*R-27*Q*Q-2*P*P*P:=⟨_,rfl⟩;rw[<-eI,<-eJ]at h;obtain⟨s,h3,h4⟩: ∃s,q∣s*s-I/\q∣2*I*s-J:=by
  by_cases cI:q∣I
  ·have hJ:q∣J:=pq.sq (dv2 (x:=4*I*I) (y:= -1) cI h<|by grind)
   exact⟨0,dv1 (x:= -1) cI<|by grind,dv1 (x:= -1) hJ<|by grind⟩
  ·obtain⟨s,hs⟩:=pq.sol (fM pq n2 cI) J;refine⟨s,pq.cut (a:=2*I*(2*I)) ?_<|fM pq (fM pq n2 cI)<|fM pq n2 cI,hs⟩;exact dv2 (x:=2*I*s+J) (y:= -1) hs h (by grind)
 have h2:q∣27*Q*Q+2*(s+P)*(s-2*P)*(s-2*P):=dv2 (x:= -2*s+6*P) (y:=1) (a:=I-s*s) (b:=2*I*s-J) (dv1 (x:= -1) h3<|by grind) h4 (by rw[eJ,eI];grind)
 by_cases cK:q∣s-2*P
 ·have hQ:q∣Q:=pq.sq (pq.cut (a:=3*3*3) (dv2 (x:=1) (y:= -(2*(s+P)*(s-2*P))) h2 cK<|by grind)<|fM pq (fM pq n3 n3) n3)
  obtain⟨m,hm⟩:=pq.sol n2 P;refine .inr ⟨m,hQ,hm,pq.cut (a:=2*2*3) ?_<|fM pq (fM pq n2 n2) n3⟩;exact dv3 (x:= -1) (y:=s+2*P) (z:= -3*(2*m+P)) h3 cK hm (by rw[eI];grind)
 ·obtain⟨y,hy⟩:=pq.sol (fM pq n2 cK) (3*Q);have hy2:q∣6*y*y+s+P:=pq.cut (a:=2*((s-2*P)*(s-2*P))) (dv2 (x:=3*(2*(s-2*P)*y+3*Q)) (y:=1) hy h2<|by grind) (fM pq n2<|fM pq cK cK)
  refine .inl ⟨y,pq.cut (a:=2*2*(3*3)) ?_<|fM pq (fM pq n2 n2)<|fM pq n3 n3⟩
  exact dv3 (x:=6*y*y-s-P+6*P+4*(s-2*P)) (y:= -12*y) (z:= -3) hy2 hy h3 (by rw[eI];grind)
theorem root4 {q:Int}(pq:Pr q)(q5:5<=q){e d c b:Int}(h:q∣dC e d c b) :
  (∃z,q∣z*z*z*z+b*z*z*z+c*z*z+d*z+e)\/ ∃u v,q∣2*u-b/\q∣u*u+2*v-c/\q∣2*u*v-d/\q∣v*v-e:=by
 obtain⟨n2,n3,n4⟩:=pq.no q5;obtain⟨P,eP⟩: ∃P,P=16*c-6*b*b:=⟨_,rfl⟩;obtain⟨Q,eQ⟩: ∃Q,Q=64*d-32*b*c+8*b*b*b:=⟨_,rfl⟩;obtain⟨R,eR⟩: ∃R,R=256*e-64*b*d+16*b*b*c-3*b*b*b*b:=⟨_,rfl⟩;have hD:q∣4*(12*R+P*P)*(12*R+P*P)*(12*R+P*P)-(72*P*R-27*Q*Q-2*P*P*P)*(72*P*R-27*Q*Q-2*P*P*P):=dv1 (x:=452984832) h (by rw[eP,eQ,eR];unfold dC;grind)
 have n16:=fM pq n4 n4;rcases root4d pq q5 hD with⟨y,hy⟩| ⟨m,hQ,hm,hR⟩
 ·obtain⟨z,hz⟩:=pq.sol n4 (y-b);refine .inl ⟨z,pq.cut (a:=4*4*(4*4)) ?_<|fM pq n16 n16⟩;obtain⟨Y,eY⟩: ∃Y,Y=4*z+b:=⟨_,rfl⟩;have hz':q∣Y-y:=by rw[eY,show 4*z+b-y=4*z-(y-b)by lia];exact hz
  exact dv2 (x:=Y*Y*Y+Y*Y*y+Y*y*y+y*y*y+P*(Y+y)+Q) (y:=1) hz' hy (by rw[eP,eQ,eR,eY];grind)
 ·obtain⟨u,hu⟩:=pq.sol n2 b;obtain⟨v,hv⟩:=pq.sol n16 (b*b+m);refine .inr ⟨u,v,hu,pq.cut (a:=4*4) ?_ n16,pq.cut (a:=4*4*4) ?_<|fM pq n16 n4,pq.cut (a:=4*4*(4*4)) ?_<|fM pq n16 n16⟩
  ·exact dv3 (x:=4*(2*u+b)) (y:=2) (z:=1) hu hv hm (by rw[eP];grind)
  ·exact dv3 (a:=4*(2*u-b)) (x:=4*4*v) (y:=4*b) (z:=1) (dv1 (x:=4) hu<|by grind) hv (dv2 (x:=2*b) (y:= -1) hm hQ rfl) (by rw[eP,eQ];grind)
  ·exact dv3 (x:=4*4*v+b*b+m) (y:= -1) (z:=1) hv hR (dv2 (x:=b*b) (y:= -b) hm hQ rfl) (by rw[eP,eQ,eR];grind)
theorem sm3_2: ∀d c b:Fin 2,dB (d.1:Int) (c.1:Int) (b.1:Int)%2=0-> ∃z:Fin 2,((z.1:Int)*z.1*z.1+b.1*z.1*z.1+c.1*z.1+d.1)%2=0:=af
theorem sm3_3: ∀d c b:Fin 3,dB (d.1:Int) (c.1:Int) (b.1:Int)%3=0-> ∃z:Fin 3,((z.1:Int)*z.1*z.1+b.1*z.1*z.1+c.1*z.1+d.1)%3=0:=af
theorem sm4_2: ∀e d c b:Fin 2,dC (e.1:Int) (d.1:Int) (c.1:Int) (b.1:Int)%2=0->(∃z:Fin 2,((z.1:Int)*z.1*z.1*z.1+b.1*z.1*z.1*z.1+c.1*z.1*z.1+d.1*z.1+e.1)%2=0)\/ ∃u v:Fin 2,(2*(u.1:Int)-b.1)%2=0/\((u.1:Int)*u.1+2*v.1-c.1)%2=0/\(2*(u.1:Int)*v.1-d.1)%2=0/\((v.1:Int)*v.1-e.1)%2=0:=af
theorem sm4_3: ∀e d c b:Fin 3,dC (e.1:Int) (d.1:Int) (c.1:Int) (b.1:Int)%3=0->(∃z:Fin 3,((z.1:Int)*z.1*z.1*z.1+b.1*z.1*z.1*z.1+c.1*z.1*z.1+d.1*z.1+e.1)%3=0)\/ ∃u v:Fin 3,(2*(u.1:Int)-b.1)%3=0/\((u.1:Int)*u.1+2*v.1-c.1)%3=0/\(2*(u.1:Int)*v.1-d.1)%3=0/\((v.1:Int)*v.1-e.1)%3=0:=af
theorem Pr.big {q:Int}(pq:Pr q):q=2\/q=3\/5<=q:=by
 have:=pq.lo
 by_cases c:q=4
 ·subst c;exact absurd (pq.inv 2 ac ac) af
 ·omega
theorem vX {k:Nat}{b:Int}(h:0<=b/\b< (k:Int)): ∃x:Fin k,(x.1:Int)=b:=⟨⟨b.toNat,aa⟩,aM2 h.1⟩
theorem root3' {q:Int}(pq:Pr q){d c b:Int}(hd:0<=d/\d<q)(hc:0<=c/\c<q)(hb:0<=b/\b<q)(h:q∣dB d c b): ∃z,q∣z*z*z+b*z*z+c*z+d:=by
 rcases pq.big with rfl|rfl|q5
 ·obtain⟨d,rfl⟩:=vX hd;obtain⟨c,rfl⟩:=vX hc;obtain⟨b,rfl⟩:=vX hb;obtain⟨z,hz⟩:=sm3_2 d c b (kS h);exact⟨_,d3 hz⟩
 ·obtain⟨d,rfl⟩:=vX hd;obtain⟨c,rfl⟩:=vX hc;obtain⟨b,rfl⟩:=vX hb;obtain⟨z,hz⟩:=sm3_3 d c b (kS h);exact⟨_,d3 hz⟩
 ·exact root3 pq q5 h
theorem root4' {q:Int}(pq:Pr q){e d c b:Int}(he:0<=e/\e<q)(hd:0<=d/\d<q)(hc:0<=c/\c<q)(hb:0<=b/\b<q)(h:q∣dC e d c b) :
  (∃z,q∣z*z*z*z+b*z*z*z+c*z*z+d*z+e)\/ ∃u v,q∣2*u-b/\q∣u*u+2*v-c/\q∣2*u*v-d/\q∣v*v-e:=by
 rcases pq.big with rfl|rfl|q5
 ·obtain⟨e,rfl⟩:=vX he;obtain⟨d,rfl⟩:=vX hd;obtain⟨c,rfl⟩:=vX hc;obtain⟨b,rfl⟩:=vX hb;rcases sm4_2 e d c b (kS h)with⟨z,hz⟩| ⟨u,v,h1,h2,h3,h4⟩
  ·exact .inl ⟨_,d3 hz⟩
  ·exact .inr ⟨_,_,d3 h1,d3 h2,d3 h3,d3 h4⟩
 ·obtain⟨e,rfl⟩:=vX he;obtain⟨d,rfl⟩:=vX hd;obtain⟨c,rfl⟩:=vX hc;obtain⟨b,rfl⟩:=vX hb;rcases sm4_3 e d c b (kS h)with⟨z,hz⟩| ⟨u,v,h1,h2,h3,h4⟩
  ·exact .inl ⟨_,d3 hz⟩
  ·exact .inr ⟨_,_,d3 h1,d3 h2,d3 h3,d3 h4⟩
 ·exact root4 pq q5 h
theorem cgA {q a b c d:Int}(h:q∣a-b)(h2:q∣c-d):q∣a+c-(b+d):=dv2 (x:=1) (y:=1) h h2 (by grind)
theorem cgS {q a b c d:Int}(h:q∣a-b)(h2:q∣c-d):q∣a-c-(b-d):=dv2 (x:=1) (y:= -1) h h2 (by grind)
theorem cgM {q a b c d:Int}(h:q∣a-b)(h2:q∣c-d):q∣a*c-b*d:=dv2 (x:=c) (y:=b) h h2 (by grind)
theorem cgR {q:Int}(a:Int):q∣a-a:=by rw[Int.sub_self];exact Int.dvd_zero q
theorem cgE {q:Int}(a:Int):q∣a%q-a:=by
 have:=gI a q;exact⟨-(a/q),by grind⟩
theorem cgT {q a b:Int}(h:q∣a-b):q∣a↔q∣b:=⟨λg=>dv2 (x:=1) (y:= -1) g h (by grind),λg=>dv2 (x:=1) (y:=1) g h (by grind)⟩
theorem dS0 {q c c' b b':Int}(hc:q∣c-c')(hb:q∣b-b'):q∣dA c b-dA c' b':=by
 unfold dA
 repeat' (with_reducible (first|assumption|apply cgM|apply cgA|apply cgS|exact cgR _))
theorem dS1 {q d d' c c' b b':Int}(hd:q∣d-d')(hc:q∣c-c')(hb:q∣b-b'):q∣dB d c b-dB d' c' b':=by
 unfold dB
 repeat' (with_reducible (first|assumption|apply cgM|apply cgA|apply cgS|exact cgR _))
theorem dC5 {q e e' d d' c c' b b':Int}(he:q∣e-e')(hd:q∣d-d')(hc:q∣c-c')(hb:q∣b-b'):q∣dC e d c b-dC e' d' c' b':=by
 unfold dC
 repeat' (with_reducible (first|assumption|apply cgM|apply cgA|apply cgS|exact cgR _))
noncomputable def dF (F:Nat×(Nat->Int)):Int:=if F.1=2 then dA (F.2 0) (F.2 1)else if F.1=3 then dB (F.2 0) (F.2 1) (F.2 2)else if F.1=4 then dC (F.2 0) (F.2 1) (F.2 2) (F.2 3)else 1
theorem b90 {q c:Int}{G:Nat×(Nat->Int)}(mG:MP q G.1 G.2)(m:Nat):q∣(tm q G<|jC c).2 m-(c*G.2 m+(if m=0 then 0 else G.2 (m-1))):=by
 show q∣conv G.2 (jC c).2 (G.1+1) m%q-_
 rw[c76 c mG.z];exact cgE _
theorem dC6 {q c:Int}{G:Nat×(Nat->Int)}(mG:MP q G.1 G.2)(l1:1<=G.1)(l3:G.1<=3):q∣dF (tm q G<|jC c)-dF G*(va q G (-c)*va q G (-c)):=by
 have c0:=b90 (c:=c) mG 0;have c1:=b90 (c:=c) mG 1;have c2:=b90 (c:=c) mG 2;have c3:=b90 (c:=c) mG 3;have tp:=mG.top;have hv:q∣va q G (-c)-ps G.2 (-c) (G.1+1):=cgE _;have hi:=mG.hi;have e0:(tm q G<|jC c).1=G.1+1:=rfl;generalize tm q G (jC c)=T at *;obtain⟨T1,T⟩:=T;obtain⟨n,g⟩:=G;generalize va q (n,g) (-c)=V at *;dsimp only at *;subst e0;have hn:n=1\/n=2\/n=3:=aa
 rcases hn with rfl|rfl|rfl
 ·have hz:q∣V-(g 0-c):=by
   have e:ps g (-c) (1+1)=g 0-c:=by
    show 0+g 0*(-c)^0+g 1*(-c)^1=_
    rw[tp];grind
   rw[e]at hv;exact hv
  show q∣dA (T 0) (T 1)-1*(V*V)
  simp only[bZ,eG,zO,j7,tp,reduceEqDiff]at c0 c1;have:=dS0 c0 c1;have k:=cgM hz hz;exact dv2 (x:=1) (y:= -1) this k (by unfold dA;grind)
 ·have hz:q∣V-(c*c-g 1*c+g 0):=by
   have e:ps g (-c) (2+1)=c*c-g 1*c+g 0:=by
    show 0+g 0*(-c)^0+g 1*(-c)^1+g 2*(-c)^2=_
    rw[tp];grind
   rw[e]at hv;exact hv
  show q∣dB (T 0) (T 1) (T 2)-dA (g 0) (g 1)*(V*V)
  have k:=dS1 c0 c1 c2;have k2:=cgM (cgR (q:=q)<|dA (g 0)<|g 1) (cgM hz hz);have k3:=dB_lin c (g 1) (g 0);simp only[bZ,eG,zO,j7,tp,reduceEqDiff,Nat.reduceSub]at k;rw[show c*g 0+0=c*g 0 by omega,show c*g 1+g 0=g 0+c*g 1 by omega,show c*1+g 1=g 1+c by omega,k3]at k
  exact dv2 (x:=1) (y:= -1) k k2 (by grind)
 ·have hz:q∣V-(-(c*c*c)+g 2*c*c-g 1*c+g 0):=by
   have e:ps g (-c) (3+1)= -(c*c*c)+g 2*c*c-g 1*c+g 0:=by
    show 0+g 0*(-c)^0+g 1*(-c)^1+g 2*(-c)^2+g 3*(-c)^3=_
    rw[tp];grind
   rw[e]at hv;exact hv
  show q∣dC (T 0) (T 1) (T 2) (T 3)-dB (g 0) (g 1) (g 2)*(V*V)
  have k:=dC5 c0 c1 c2 c3;have k2:=cgM (cgR (q:=q)<|dB (g 0) (g 1)<|g 2) (cgM hz hz);have k3:=dC_lin c (g 2) (g 1) (g 0);simp only[bZ,eG,zO,j7,tp,reduceEqDiff,Nat.reduceSub]at k;rw[show c*g 0+0=c*g 0 by omega,show c*g 1+g 0=g 0+c*g 1 by omega,show c*g 2+g 1=g 1+c*g 2 by omega,show c*1+g 2=g 2+c by omega,k3]at k
  exact dv2 (x:=1) (y:= -1) k k2 (by grind)
theorem dS2 {q u v s t:Int}:q∣dF (tm q (quF v u)<|quF t s)-dA v u*dA t s*(((v-t)*(v-t)-(u-s)*(s*v-u*t))*((v-t)*(v-t)-(u-s)*(s*v-u*t))):=by
 obtain⟨a0,a1,a2,a3⟩:=cQ1 v u t s;show q∣dC (conv (quF v u).2 (quF t s).2 3 0%q) (conv (quF v u).2 (quF t s).2 3 1%q) (conv (quF v u).2 (quF t s).2 3 2%q) (conv (quF v u).2 (quF t s).2 3 3%q)-_;rw[a0,a1,a2,a3,<-dC_qu,show v*s+u*t=u*t+v*s by omega]
 exact dC5 (cgE _) (cgE _) (cgE _) (cgE _)
theorem dC7 {q:Int}(pq:Pr q){F:Nat×(Nat->Int)}(mF:MP q F.1 F.2)(f4:F.1<=4){xs:List ((Nat×(Nat->Int))×Nat)}(sp:SP q F xs){x:(Nat×(Nat->Int))×Nat}(hx:x∈xs)(h2:2<=x.2):q∣dF F:=by
 have q2:=pq.lo;obtain⟨mx,x1,_⟩:=sp.mem x hx;have dg:=a93 q xs cZ x hx;rw[sp.prod]at dg;have e0:cZ.1=0:=rfl;have dg2:x.1.1*2<=x.1.1*x.2:=tK _ h2
 by_cases d1:x.1.1=1
 ·have e:=bY3 mx d1;have r:=mx.rng 0;generalize x.1.2 0=c at *;obtain⟨H,mH,eF,_⟩:=(dO3 pq mF sp r.1 r.2).1 x hx e;have ml:=MP.lin q2 r.1 r.2;obtain⟨k,hk⟩: ∃k,x.2=k+2:=⟨x.2-2,aa⟩
  rw[hk]at eF;have mK:MP q (powT q H (jC c)<|k+1).1 (powT q H (jC c)<|k+1).2:=MP.powT q2 mH ml _;have vz:va q (powT q H (jC c)<|k+1) (-c)=0:=by
   show va q (tm q (powT q H (jC c) k)<|jC c) (-c)=0
   rw[cP8 ml.hi,cK2 q2 ml rfl];show _*((-c+c)%q)%q=0;rw[show -c+c=0 by omega,dL,bO,dL]
  have dK:=uJ q H (jC c) (k+1);have e1:(jC c).1=1:=rfl;have dF':F.1=(powT q H (jC c)<|k+1).1+1:=by rw[eF];rfl
  have:=dC6 (c:=c) mK aa aa
  rw[vz,bO,bO,Int.sub_zero]at this;rw[eF];exact this
 ·have d2:x.1.1=2:=aa
  have k2:x.2=2:=by
   rw[d2]at dg;omega
  obtain⟨l1,l2,rfl⟩:=aM9 hx;have mx': ∀y∈l1++x::l2,MP q y.1.1 y.1.2:=λy hy=>(sp.mem y hy).1
  have m1: ∀y∈l1,MP q y.1.1 y.1.2:=λy hy=>mx' y (bM.mpr<|.inl hy)
  have m2: ∀y∈l2,MP q y.1.1 y.1.2:=λy hy=>mx' y (bM.mpr<|.inr<|bH _ hy)
  have mA:=MP.allT q2 l1 (MP.one q2) m1;have mH:=MP.allT q2 l2 mA m2;have eF:F=powT q (allT q (allT q cZ l1) l2) x.1 2:=by
   rw[<-sp.prod,l8];show allT q (powT q (allT q cZ l1) x.1 x.2) l2=_;rw[aV1 q2 mx mA m2,k2]
  generalize allT q (allT q cZ l1) l2=H at *;have dH:H.1=0:=by
   have:=uJ q H x.1 2;rw[<-eF]at this;omega
  have eH:H=cZ:=by
   refine j9 dH (funext λj=> ?_)
   show H.2 j=if j=0 then 1 else 0
   split
   ·rename_i z;rw[z,<-mH.top,dH]
   ·exact mH.hi j aa
  rw[eF,eH];show q∣dF (tm q (tm q cZ x.1) x.1);rw[bE2 mx,bY1 mx d2];have:=dS2 (q:=q) (u:=x.1.2 1) (v:=x.1.2 0) (s:=x.1.2 1) (t:=x.1.2 0);refine(cgT this).mpr ⟨0,by grind⟩
theorem dC8 {q z w:Int}(h:q∣z-w)(g:Nat->Int): ∀n,q∣ps g z n-ps g w n
 | 0=>cgR _
 | n+1=>by
  have p: ∀k:Nat,q∣z^k-w^k:=by
   intro k
   induction k with
   | zero=>rw[d5,d5];exact cgR _
   | succ k ih=>rw[jY,jY];exact cgM ih h
  exact cgA (dC8 h g n) (cgM (cgR _)<|p n)
theorem NoR.no {q:Int}(pq:Pr q){G:Nat×(Nat->Int)}(nr:NoR q G){z:Int}(h:q∣ps G.2 z (G.1+1)):False:=by
 have q2:=pq.lo;have r0:=bY (-z) (show q≠0 by omega)
 have r1:=bX (-z) (show 0<q by omega)
 refine nr ((-z)%q).toNat aa ?_
 rw[aM2 r0];refine kS ((cgT<|dC8 ?_ G.2<|G.1+1).mpr h);have:=cgE (q:=q) (-z);exact dv1 (x:= -1) this (by grind)
theorem cK6 {q:Int}(pq:Pr q){G:Nat×(Nat->Int)}(mG:MP q G.1 G.2)(l4:G.1<=4)(nr:2<=G.1->NoR q G)(nq:G.1=4->NoQ q G): ¬q∣dF G:=by
 intro h;have q2:=pq.lo;have tp:=mG.top;have rg:=mG.rng
 by_cases d:2<=G.1
 ·have no:=λz=>NoR.no pq (nr d) (z:=z)
  obtain⟨n,g⟩:=G;dsimp only at *;have hn:n=2\/n=3\/n=4:=aa
  rcases hn with rfl|rfl|rfl
  ·obtain⟨z,hz⟩:=root2 pq (show q∣dA (g 0) (g 1)from h)
   refine no z ?_
   show q∣0+g 0*z^0+g 1*z^1+g 2*z^2
   rw[tp];exact dv1 (x:=1) hz (by grind)
  ·obtain⟨z,hz⟩:=root3' pq (rg 0) (rg 1) (rg 2) (show q∣dB (g 0) (g 1) (g 2)from h)
   refine no z ?_
   show q∣0+g 0*z^0+g 1*z^1+g 2*z^2+g 3*z^3
   rw[tp];exact dv1 (x:=1) hz (by grind)
  ·rcases root4' pq (rg 0) (rg 1) (rg 2) (rg 3) (show q∣dC (g 0) (g 1) (g 2) (g 3)from h)with⟨z,hz⟩| ⟨u,v,h3,h2,h1,h0⟩
   ·refine no z ?_
    show q∣0+g 0*z^0+g 1*z^1+g 2*z^2+g 3*z^3+g 4*z^4
    rw[tp];exact dv1 (x:=1) hz (by grind)
   ·have u0:=bY u (show q≠0 by omega)
    have u1:=bX u (show 0<q by omega)
    have v0:=bY v (show q≠0 by omega)
    have v1:=bX v (show 0<q by omega)
    have mq:=MP.qu q2 v0 v1 u0 u1;have cu:=cgE (q:=q) u;have cv:=cgE (q:=q) v;generalize u%q=U at *;generalize v%q=V at *;refine nq rfl V U V U v0 v1 u0 u1 v0 v1 u0 u1 ((d97 mG mq mq q2).mpr ?_);have eqm: ∀{a b:Int},0<=a/\a<q->q∣b-a->a=b%q:=by
     intro a b ha hb;have:=Int.emod_emod_of_dvd b (zW q);have e:=dU ha.1 ha.2;obtain⟨k,hk⟩:=hb;rw[<-e,show b=a+q*k by omega,Int.add_mul_emod_self_left]
    refine⟨eqm (rg 0) ?_,eqm (rg 1) ?_,eqm (rg 2) ?_,eqm (rg 3) ?_⟩
    ·exact dv2 (x:=V+v) (y:=1) cv h0 (by grind)
    ·exact dv3 (x:=2*v) (y:=2*U) (z:=1) cu cv h1 (by grind)
    ·exact dv3 (x:=U+u) (y:=2) (z:=1) cu cv h2 (by grind)
    ·exact dv2 (x:=2) (y:=1) cu h3 (by grind)
 ·have:dF G=1:=by
   unfold dF;rw[a6 aa,a6 aa,a6 aa]
  rw[this]at h;have:=j6 ac h
  omega
theorem cR2 {q:Int}(pq:Pr q): ∀(xs:List ((Nat×(Nat->Int))×Nat)),(∀x∈xs,MP q x.1.1 x.1.2/\1<=x.1.1/\x.1.1<=4/\1<=x.2/\x.2<=4/\(2<=x.1.1->NoR q x.1)/\(x.1.1=4->NoQ q x.1))->xs.Pairwise ltP->(∀x∈xs,x.2=1)->(allT q cZ xs).1<=4-> ¬q∣dF (allT q cZ xs)
 | [],_,_,_,_=>by
  intro h;have:=j6 ac (show q∣1 from h)
  have:=pq.lo;omega
 | x::l,hm,hp,h1,h4=>by
  have q2:=pq.lo;obtain⟨mx,x1,x4,_,_,nr,nq⟩:=hm x (cO ..);have hml: ∀y∈l,MP q y.1.1 y.1.2:=λy hy=>(hm y<|bH _ hy).1
  rw[aM8]at hp;have e1:=h1 x (cO ..);have eA:allT q cZ (x::l)=tm q (allT q cZ l) x.1:=by
   show allT q (powT q cZ x.1 x.2) l=_
   rw[aV1 q2 mx (MP.one q2) hml,e1];rfl
  have mL:=MP.allT q2 l (MP.one q2) hml;rw[eA]at h4⊢
  by_cases d1:x.1.1=1
  ·have e:=bY3 mx d1;have r:=mx.rng 0;generalize x.1.2 0=c at *;have h4':(allT q cZ l).1+1<=4:=by
    have:(tm q (allT q cZ l) x.1).1=(allT q cZ l).1+x.1.1:=rfl;omega
   have ih:=cR2 pq l (λy hy=>hm y (bH _ hy)) hp.2 (λy hy=>h1 y (bH _ hy)) aa
   rw[e]
   by_cases z:(allT q cZ l).1=0
   ·intro h;have:dF (tm q (allT q cZ l)<|jC c)=1:=by
     have k:(tm q (allT q cZ l)<|jC c).1=(allT q cZ l).1+1:=rfl;unfold dF;rw[a6 aa,a6 aa,a6 aa]
    rw[this]at h;have:=j6 ac h
    omega
   ·have vn:va q (allT q cZ l) (-c)≠0:=by
     refine b89 pq l cZ (λy hy=>(hml y hy).hi) ?_ λy hy=> ?_
     ·show(0+(if 0=0 then(1:Int)else 0)*(-c)^0)%q≠0
      rw[a7 rfl,d5,jZ,bI,dU ac aa]
      decide
     ·obtain⟨my,y1,_,_,_,ny,_⟩:=hm y (bH _ hy);exact c99 pq r.1 r.2 my y1 ny λze=>bZ8 (hp.1 y hy) (e.trans ze.symm)
    have vn': ¬q∣va q (allT q cZ l) (-c):=λhd=>vn (by
     have:=kS hd;rw[cK1 q2]at this;exact this)
    have k:=dC6 (c:=c) mL aa aa
    exact λhd=>fM pq ih (fM pq vn' vn') ((cgT k).mp hd)
  ·have ge: ∀y∈l,2<=y.1.1:=λy hy=>by
    have:=hp.1 y hy;unfold ltP at this;omega
   match l,hm,hp,h1,h4,eA,mL,hml,ge with
   | [],_,_,_,_,_,_,_,_=>
    show ¬q∣dF (tm q cZ x.1)
    rw[bE2 mx];exact cK6 pq mx x4 nr nq
   | [y],hm,hp,h1,h4,_,_,_,ge=>
    obtain⟨my,y1,y4,_,_,nry,nqy⟩:=hm y (bH _<|cO ..);have ey:=h1 y (bH _<|cO ..);have gy:=ge y (cO ..);have eL:allT q cZ [y]=y.1:=by
     show powT q cZ y.1 y.2=y.1
     rw[ey];exact bE2 my
    rw[eL]at h4⊢;have ds:y.1.1+x.1.1<=4:=h4;have dx:x.1.1=2:=aa
    have dy:y.1.1=2:=aa
    have ix:=cK6 pq mx x4 nr nq;have iy:=cK6 pq my y4 nry nqy;have ne:=bZ8 (hp.1 y<|cO ..);have nr:=nr aa
    have rx0:=mx.rng 0;have rx1:=mx.rng 1;have ry0:=my.rng 0;have ry1:=my.rng 1;rw[bY1 mx dx]at ix nr ne⊢;rw[bY1 my dy]at iy ne⊢;generalize x.1.2 0=t at *;generalize x.1.2 1=s at *;generalize y.1.2 0=v at *;generalize y.1.2 1=u at *;have ix: ¬q∣dA t s:=ix;have iy: ¬q∣dA v u:=iy;have res: ¬q∣(v-t)*(v-t)-(u-s)*(s*v-u*t):=by
     intro hr
     by_cases us:q∣u-s
     ·have hv:q∣v-t:=pq.sq (dv2 (x:=1) (y:=s*v-u*t) hr us<|by grind)
      have small: ∀{a b:Int},0<=a/\a<q->0<=b/\b<q->q∣a-b->b=a:=by
       intro a b ha hb ⟨k,hk⟩;have k0:k=0:=by
        rcases aN4 k 0 with z|z|z
        ·have:q*k<=q*(-1):=kP aa aa
         omega
        ·exact z
        ·have:q*1<=q*k:=kP aa aa
         omega
       rw[k0,bO]at hk;omega
      exact ne (by rw[small ry0 rx0 hv,small ry1 rx1 us])
     ·obtain⟨z,hz⟩:=pq.sol us (-(v-t));refine NoR.no pq nr (z:=z) ?_;show q∣0+t*z^0+s*z^1+1*z^2;refine pq.cut (a:=(u-s)*(u-s)) ?_ (fM pq us us);exact dv2 (x:=(u-s)*z-(v-t)+s*(u-s)) (y:=1) hz hr (by grind)
    exact λhd=>fM pq (fM pq iy ix) (fM pq res res) ((cgT<|dS2 (q:=q) (u:=u) (v:=v) (s:=s) (t:=t)).mp hd)
   | y::y2::l',hm,_,h1,h4,_,_,_,ge=>
    have g1:=ge y (cO ..);have g2:=ge y2 (bH _<|cO ..);have b1:=h1 y (bH _<|cO ..);have b2:=h1 y2 (bH _<|bH _<|cO ..);have dg:=a93 q (y2::l') (powT q cZ y.1 y.2) y2 (cO ..);rw[uJ,b1,b2]at dg;have ds:(allT q cZ (y::y2::l')).1+x.1.1<=4:=h4;have eq:allT q cZ (y::y2::l')=allT q (powT q cZ y.1 1) (y2::l'):=by rw[<-b1];rfl
    rw[eq]at ds;have e0:cZ.1=0:=rfl;omega
theorem dO4 {p:List Int}{n:Nat}(rp:fF p)(hn:p.length=n+1)(q:Int):q∣dF (n,md q<|fOf p)-gC 4 (cJ p):=by
 rcases rp.cases with⟨x,y,rfl,_⟩| ⟨x,y,z,rfl,_⟩| ⟨x,y,z,w,rfl,_⟩
 ·have h:3=n+1:=hn;obtain rfl:n=2:=aa
  rw[id2];exact dS0 (c:=x%q) (b:=y%q) (cgE x) (cgE y)
 ·have h:4=n+1:=hn;obtain rfl:n=3:=aa
  rw[id3];exact dS1 (d:=x%q) (c:=y%q) (b:=z%q) (cgE x) (cgE y) (cgE z)
 ·have h:5=n+1:=hn;obtain rfl:n=4:=aa
  rw[hank4];exact dC5 (e:=x%q) (d:=y%q) (c:=z%q) (b:=w%q) (cgE x) (cgE y) (cgE z) (cgE w)
theorem cK7 {p:List Int}{n:Nat}{q:Int}(rp:fF p)(hn:p.length=n+1)(pq:Pr q)(mF:MP q n (md q<|fOf p)){xs:List ((Nat×(Nat->Int))×Nat)}(sp:SP q (n,md q<|fOf p) xs):(∃x∈xs,2<=x.2)↔gC 4 (cJ p)%q=0:=by
 have hi:=rp.ok.hi;have n4:n<=4:=aa
 have cg:=cgT (dO4 rp hn q);constructor
 ·rintro⟨x,hx,h2⟩;exact kS (cg.mp<|dC7 pq (F:=(n,md q<|fOf p)) mF n4 sp hx h2)
 ·intro h;refine Classical.byContradiction λno=> ?_
  have h1: ∀x∈xs,x.2=1:=λx hx=>by
   have:=(sp.mem x hx).2.2.2.1;have: ¬2<=x.2:=λh2=>no ⟨x,hx,h2⟩
   omega
  have:=cR2 pq xs sp.mem sp.ord h1 (by rw[sp.prod];exact n4)
  rw[sp.prod]at this;exact this (cg.mpr<|d3 h)
noncomputable def unF (c:Nat):Nat->Int:=λk=>if k=c then 1 else 0
noncomputable def trc (p:List Int)(n k:Nat):Int:=((List.range n).map λi=>itT p n (itT p n (unF 0) k) i i).sum
theorem trc2 (x y:Int):(List.range 3).map (trc [x,y,1] 2)=cR [x,y,1] 2:=by
 simp[trc,unF,itT,ttF,cR,iJ,bW]
 try grind
theorem trc3 (x y z:Int):(List.range 5).map (trc [x,y,z,1] 3)=cR [x,y,z,1] 4:=by
 simp[trc,unF,itT,ttF,cR,iJ,bW]
 try grind
theorem trc4 (x y z w:Int):(List.range 7).map (trc [x,y,z,w,1] 4)=cR [x,y,z,w,1] 6:=by
 simp[trc,unF,itT,ttF,cR,iJ,bW]
 try grind
theorem cK8 {p:List Int}{n:Nat}(rp:fF p)(hn:p.length=n+1):(List.range<|2*n-1).map (trc p n)=cR p (2*(p.length-1)-2):=by
 rcases rp.cases with⟨x,y,rfl,_⟩| ⟨x,y,z,rfl,_⟩| ⟨x,y,z,w,rfl,_⟩
 ·have h:3=n+1:=hn;obtain rfl:n=2:=aa
  exact trc2 x y
 ·have h:4=n+1:=hn;obtain rfl:n=3:=aa
  exact trc3 x y z
 ·have h:5=n+1:=hn;obtain rfl:n=4:=aa
  exact trc4 x y z w
theorem cX9 (c j:Nat):(unF c j).natAbs<=2^0:=by unfold unF;split<;>decide
def aB1:Φ:=λds Q=> ∃(p:List Int) (n:Nat),ds=[aJ p]/\fF p/\p.length=n+1/\Q (.pu<|.int<|gC 4<|cJ p)
def aV2:US:=(cY<|aQ (mQ 4)<|a9 (dS [1] [none,some 4,some 1,none] 3 (gS<|a9 (aB 1) aK) (cC 0) (λρ Q=>Q true ρ)<|aQ cX<|a9 (uSl (aV 1) (jG<|aB 0)<|jG<|uOp hX (aB 0)<|aB 2) aK) aK)
def aV3:US:=(aU (jD (gS<|a9 (uOp M.gSub (uOp hZ (uC<|.int 2)<|aB 1)<|uC<|.int 1) aK) (cC 5)<|aU (bT 6<|aQ bF6<|a9 (aB 0)<|a9 (aB 3) aK)<|aU (aO3 4<|aQ dI9<|a9 (dS [] [none,some 6,none] 2 (gS<|a9 (aB 1) aK) (cC 0) (λρ Q=>Q true ρ)<|uIx (uV<|uIx (aV 1)<|aB 0)<|aB 0) aK)<|bT 3<|aQ aU4<|a9 (aB 0)<|a9 (aB 2)<|a9 (aB 3) aK) aV2)
def a25:US:=(aU (bT 4<|kF aK) aV3)
def a26:US:=(aU (bT 3<|aQ cX<|a9 (dS [] [none,none] 1 (gS<|a9 (aB 1) aK) (cC 0) (λρ Q=>Q true ρ)<|aQ aY0<|a9 (uOp (jH false) (aB 0)<|uC<|.int 0) aK) aK) a25)
def a27:US:=(aU (bT 2<|aQ cX<|a9 (dS [] [none,none] 1 (gS<|a9 (aB 1) aK) (cC 0) (λρ Q=>Q true ρ)<|aQ aY0<|a9 (uOp (jH false) (aB 0)<|uC<|.int 1) aK) aK) a26)
def aB2:US:=(aU (bT 1<|uOp M.gSub (kO<|aV 0)<|uC<|.int 1) a27)
theorem cA0: ∀ds Q,aB1 ds Q->aB2 {nx:=λ_=>Q (.pu .non),rt:=Q} (init ["p","m","t","r","s","k","w"] ds):=by
 rintro ds Q ⟨p,n,rfl,rp,hn,h⟩;have lo:=rp.ok.lo;have hi:=rp.ok.hi;have n2:2<=n:=ad
 have n4:n<=4:=ad
 unfold aB2;show(aU _ _:US) _ [some<|.pu<|.tup<|p.map .int,none,none,none,none,none,none];rw[aR];walk_at "u";rw[aG,show(p.length:Int)-1=(n:Int)by lia]
 change a27 _ [some<|.pu<|aJ p,some<|.pu<|.int (n:Int),none,none,none,none,none]
 unfold a27;rw[aR,lN];refine b04 1 rfl n n4 rfl ?_;show a26 _ [some<|.pu<|aJ p,some<|.pu<|.int (n:Int),some<|.pu<|aJ<|rwF n tnF,none,none,none,none];unfold a26;rw[aR,lN];refine b04 0 rfl n n4 rfl ?_;show a25 _ [some<|.pu<|aJ p,some<|.pu<|.int (n:Int),some<|.pu<|aJ<|rwF n tnF,some<|.pu<|aJ<|rwF n<|unF 0,none,none,none];unfold a25;rw[aR];walk_at "u";refine⟨ac,?_⟩
 unfold aV3;rw[aR];have bd: ∀i,i<=7-> ∀j,(itT p n (unF 0) i j).natAbs<=2^63:=λi hi j=>aM (yF (n:=n) rp.ok.small (cX9 0) i j) (iD ac ad)
 refine bJ (2*n-1) (λi=> .int (0+(i:Int))) [some<|.pu<|aJ p,some<|.pu<|.int (n:Int),some<|.pu<|aJ<|rwF n tnF,some<|.pu<|aJ<|rwF n<|itT p n (unF 0) 0,some<|.ow<|((List.range 0).map<|trc p n).map .int,none,none] (λQ' q=> ?_)
  (λi ρ=> ∃x y,ρ=[some<|.pu<|aJ p,some<|.pu<|.int (n:Int),some<|.pu<|aJ<|rwF n tnF,some<|.pu<|aJ<|rwF n<|itT p n (unF 0) i,some<|.ow<|((List.range i).map<|trc p n).map .int,x,y]) ⟨none,none,rfl⟩ ?_ ?_
 ·walk_at "u"
  refine⟨cmL ac ac,ad,?_⟩
  rw[show(2*(n:Int)-1).toNat=2*n-1 by lia]
  exact q
 ·rintro i ρ hi' ⟨x,y,rfl⟩;have b:=bd i ad
  have b1:=bd (i+1) ad
  have tl:(((List.range i).map<|trc p n).map D.int).length=i:=by rw[aG,aG,kX]
  have tg:((List.range i).map<|trc p n).map D.int++[D.int<|trc p n i]=((List.range<|i+1).map<|trc p n).map D.int:=by rw[bW,bV,bV];rfl
  generalize ((List.range i).map<|trc p n).map D.int=L at *;rw[<-tg];clear tg;walk_at "u";refine⟨ac,p,n,63,itT p n (unF 0) i,rfl,rp,hn,ac,b,?_⟩
  try dsimp only
  refine eV (t0:=0) n (λk=> .int (0+(k:Int))) [some<|.pu<|aJ p,some<|.pu<|.int (n:Int),some<|.pu<|aJ<|rwF n tnF,some<|.pu<|aJ<|rwF n<|itT p n (unF 0) i,some<|.ow L,some<|.pu<|.int<|0+(i:Int),some<|.ow<|tbF n n<|itT p n<|itT p n (unF 0) i] (λQ' q=> ?_) ad (λx l'=>[x,some<|.bo<|tbF n n<|itT p n<|itT p n (unF 0) i,some<|.ow l']) none rfl (λ_ _ _=>rfl) (λ_ _=>cQ _) (λ_ _ _ q=>q) (λ_ _ _=>rfl) (λk=> .int (itT p n (itT p n (unF 0) i) k k)) ?_ ?_
  ·walk_at "u"
   refine⟨ad,?_⟩
   rw[cP];exact q
  ·intro k l' Q' hk q';rw[bI]at q'⊢;walk_at "u";have e1:atI (tbF n n<|itT p n<|itT p n (unF 0) i) (k:Int)=some (aJ<|rwF n<|itT p n (itT p n (unF 0) i) k):=cS (by unfold tbF;rw[b7,List.getElem?_range hk];rfl)
   have e2:atI ((rwF n<|itT p n (itT p n (unF 0) i) k).map D.int) (k:Int)=some (.int<|itT p n (itT p n (unF 0) i) k k):=cS (by unfold rwF;rw[b7,b7,List.getElem?_range hk];rfl)
   rw[e1];dsimp only[aJ];rw[e2];exact q'
  ·rw[uI];walk_at "u";rw[bP4];dsimp only;rw[tl];refine⟨aY (show i<10 by lia) ac,p,n,63,tnF,cz n<|itT p n (unF 0) i,by rw[dB1],rp,hn,ac,λj=>bS1 _ j,c92 b,λj hj=>bZ1 n2 hj,λj hj=>cJ4 hj,?_⟩
   rw[dB3 n2 n4];exact⟨_,_,rfl⟩
 ·rintro ρ ⟨x,y,rfl⟩;dsimp only;rw[cK8 rp hn];unfold aV2;have nl:=qE p (2*(p.length-1)-2);have pn:p.length-1=n:=ad
  rw[iV,eK,dG];refine eV (t0:=0) n (λi=> .int (0+(i:Int))) [some<|.pu<|aJ p,some<|.pu<|.int (n:Int),some<|.pu<|aJ<|rwF n tnF,some<|.pu<|aJ<|rwF n<|itT p n (unF 0)<|2*n-1,some<|.ow<|(cR p<|2*(p.length-1)-2).map .int,x,y] (λQ' q=> ?_) ad
   (λx l=>[x,some<|.bo<|(cR p<|2*(p.length-1)-2).map .int,some<|.pu<|.int (n:Int),some<|.ow l]) none rfl (λ_ _ _=>rfl) (λ_ _=>cQ _) (λ_ _ _ q=>q) (λ_ _ _=>rfl)
   (λi=>aJ (((cR p<|2*(p.length-1)-2).drop i).take n)) ?_ ?_
  ·walk_at "u"
   refine⟨ad,?_⟩
   rw[cP];exact q
  ·intro i l Q' hi q;walk_at "u";have e:cutD ((cR p<|2*(p.length-1)-2).map D.int) (some<|0+(i:Int)) (some<|0+(i:Int)+(n:Int))=(((cR p<|2*(p.length-1)-2).drop i).take n).map D.int:=by
    rw[bI,show(i:Int)+(n:Int)=((i+n:Nat):Int)by lia,cP5 _ _ _ (by rw[aG,nl];lia),j4,pW]
   rw[e];exact q
  ·walk_at "u"
   refine⟨cJ p,?_,bQ7 rp.ok,h⟩
   unfold cJ;rw[fX,pn];rfl
theorem cY0 {xs:List ((Nat×(Nat->Int))×Nat)}{z:Bool}(h:(∃x∈xs,2<=x.2)↔z=true):((List.range xs.length).map λi=>decide ((1:Int)< ((xs.getD i (cZ,0)).2:Int))).any id=z:=by
 rw[tP,<-h];simp only[List.any_map,List.any_eq_true,dX];constructor
 ·rintro⟨i,hi,hd⟩;refine⟨xs.getD i (cZ,0),?_,?_⟩
  ·rw[aI,aO hi];exact bS hi
  ·have:=tM hd;omega
 ·rintro⟨x,hx,h2⟩;obtain⟨i,hi,rfl⟩:=List.getElem_of_mem hx;refine⟨i,hi,?_⟩;show decide _=true;rw[aI,aO hi];exact jW (by simp only[Option.getD_some];omega)
def cR3:US:=(cY<|uC<|.bl true)
def cR4:US:=(aU (jD (gR<|aB 4) (cC 5)<|jA (gA<|uOp (jH true) (aQ gAny<|a9 (dS [] [none,none] 1 (gR<|aQ uY<|a9 (aB 1)<|a9 (aB 5) aK) (cC 0) (λρ Q=>Q true ρ)<|uOp (sS λi j=>decide (j<i)) (uIx (aV 0)<|uC<|.int 1)<|uC<|.int 1) aK)<|uOp (jH false) (uOp oJ (aB 2)<|aB 5)<|uC<|.int 0) (cY<|uC<|.bl false) gB) cR3)
def bZ9:US:=(aU (bT 4<|uOp hX (dS [2] [none,some 2,none] 2 (gR<|aQ uZ aK) (cC 0) (gA<|uOp (jH false) (uOp oJ (aB 1)<|aB 0)<|uC<|.int 0)<|aB 0)<|kF<|a9 (uIx (uV<|aQ uZ aK)<|uIx (aV 3)<|uC<|.int 0)<|a9 (uIx (uV<|aQ uZ aK)<|uIx (aV 3)<|uC<|.int 1) aK) cR4)
def cR5:US:=(aU (bT 3<|aQ rG<|a9 (aQ aT3<|a9 (aB 0)<|a9 (uC<|.int 3) aK)<|a9 (kF<|a9 (uC<|.int 46)<|a9 (uC<|.int 8) aK)<|a9 (uC<|.int 999999929) aK) bZ9)
def cR6:US:=(aU (jA (uOr (dH3<|gA<|aQ bC7<|a9 (a69 "measure"<|aB 1) aK)<|gA<|uOp (jH true) (a69 "measure"<|aB 1)<|aB 2) (cY<|uC<|.bl false) gB) cR5)
def cR7:US:=(aU (bT 2<|aQ aB1<|a9 (a69 "poly"<|aB 1) aK) cR6)
def c00:US:=(aU (bT 1<|aQ bY8<|a9 (aB 0)<|a9 (uC<|.int 0)<|a9 (uC<|.int 999999937) aK) cR7)
theorem rd_law: ∀ds Q,bP0 ds Q->c00 {nx:=λ_=>Q (.pu .non),rt:=Q} (init ["s","r","m","d","a","p"] ds):=by
 rintro ds Q ⟨ns,rfl,hns,h⟩;unfold c00;show(aU _ _:US) _ [some<|.pu<|.rol<|ns.map .int,none,none,none,none,none];rw[aR];walk_at "u";refine⟨ns,0,999999937,rfl,hns,ac,ac,λC p rp=> ?_⟩
 try dsimp only
 have lo:=rp.ok.lo;have hi:=rp.ok.hi;obtain⟨n,hn⟩: ∃n,p.length=n+1:=⟨p.length-1,aa⟩
 have rf:=rp.rf;rw[hn,gW]at rf;unfold cR7;rw[aR,lN,eK,dG,aF1 (C:=C) (p:=p) rfl];walk_at "u";refine⟨p,n,rfl,rp,hn,?_⟩;try dsimp only
 unfold cR6;rw[aR];walk_at "u";rw[aU5 (C:=C) (p:=p) rfl];try dsimp only
 refine⟨_,rfl,?_⟩
 walk_at "u"
 rw[aU5 (C:=C) (p:=p) rfl];dsimp only[List.getElem?_cons_succ,List.getElem?_cons_zero];rw[a6 λz=>z rfl]
 unfold cR5;walk_at "u";refine⟨ns,3,rfl,hns,ac,ac,λc=> ?_⟩
 walk_at "u"
 refine⟨ac,c,[46,8],999999929,rfl,ac,ac,ac,λys hy=> ?_⟩
 obtain⟨a,b,rfl⟩: ∃a b,ys=[a,b]:=by
  match ys,hy.1 with
  | [a,b],_=>exact⟨a,b,rfl⟩
 have b1:=hy.2 0 a 46 rfl rfl;have b2:=hy.2 1 b 8 rfl rfl;have a0:atI [D.int a,.int b] 0=some (.int a):=cS (j:=0) rfl;have a1:atI [D.int a,.int b] 1=some (.int b):=cS (j:=1) rfl;show bZ9 _ [some<|.pu<|.rol<|ns.map .int,some<|.pu<|fG C p,some<|.pu<|.int<|gC 4<|cJ p,some<|.ow [.int a,.int b],none,none];unfold bZ9;rw[aR,lN,bX8]
 refine aT9 (t0:=0) 46 (λk=>(prL.map D.int).getD k .non) [some<|.pu<|.rol<|ns.map .int,some<|.pu<|fG C p,some<|.pu<|.int<|gC 4<|cJ p,some<|.ow [.int a,.int b],none,none] ?_ ac (λx l=>[x,some<|.pu<|.int<|gC 4<|cJ p,some<|.ow l]) none rfl (λ_ _ _=>rfl) (λ_ _=>cQ _) (λ_ _ _ q=>q) (λ_ _ _=>rfl) (λi=>decide (gC 4 (cJ p)%prL.getD i 0=0)) (λi=> .int (prL.getD i 0)) ?_ ?_ ?_
 ·intro Q' q';walk_at "u";refine⟨rfl,?_⟩;dsimp only;rw[aG,aZ4];exact q'
 ·intro i l Q' hi q';have hi':i<prL.length:=by rw[aZ4];exact hi
  have e:(prL.map D.int).getD i .non= .int (prL.getD i 0):=by
   rw[aI,b7,aI,aO hi'];rfl
  have hm:prL.getD i 0∈prL:=by
   rw[aI,aO hi'];exact bS hi'
  have p2:=(a15 hm).lo;rw[e]at q'⊢;generalize prL.getD i 0=z at *;walk_at "u";refine⟨aa,?_⟩
  rw[dE _ aa]
  exact q'
 ·intro i l Q' hi q';have hi':i<prL.length:=by rw[aZ4];exact hi
  have e:(prL.map D.int).getD i .non= .int (prL.getD i 0):=by
   rw[aI,b7,aI,aO hi'];rfl
  rw[e]at q'⊢;walk_at "u";exact q'
 ·obtain⟨zs,e1,e2⟩: ∃zs:List Int,((List.range 46).filter λi=>decide (gC 4 (cJ p)%prL.getD i 0=0)).map (λi=>D.int (prL.getD i 0))=zs.map .int/\(∀z∈zs,z∈prL)/\zs.length<=46:=by
   refine⟨((List.range 46).filter λi=>decide (gC 4 (cJ p)%prL.getD i 0=0)).map λi=>prL.getD i 0,by rw[fX];rfl,λz hz=> ?_,?_⟩
   ·obtain⟨i,hi,rfl⟩:=dM.mp hz;have hi:=dX.mp (aN8.mp hi).1;have hi':i<prL.length:=by rw[aZ4];exact hi
    rw[aI,aO hi'];exact bS hi'
   ·rw[aG];exact aM (List.length_filter_le ..) (by rw[kX];exact aE _)
  rw[e1];clear e1;obtain⟨z1,hz1,g1⟩:=d89 (ns:=prL) b1.1 (by rw[aZ4];omega)
  obtain⟨z2,hz2,g2⟩:=d89 (ns:=prL) b2.1 (by rw[aZ4];omega)
  walk_at "u"
  refine⟨rfl,?_⟩
  rw[a0];dsimp only;rw[g1];dsimp only;refine⟨rfl,?_⟩;rw[a1];dsimp only;rw[g2];dsimp only;refine⟨ac,by rw[aG];exact aM (Nat.add_le_add_right e2.2 _) ac,?_⟩
  obtain⟨ws,ew,hw,lw⟩: ∃ws:List Int,zs.map D.int++[.int z1,.int z2]=ws.map D.int/\(∀z∈ws,z∈prL)/\ws.length<=48:=by
   refine⟨zs++[z1,z2],by rw[bV];rfl,λz hz=> ?_,by rw[bN];exact Nat.add_le_add_right e2.2 2⟩
   rcases bM.mp hz with hz|hz
   ·exact e2.1 z hz
   ·rcases aX.mp hz with rfl|hz
    ·exact hz1
    ·rw[gJ.mp hz];exact hz2
  rw[ew];unfold cR4;rw[aR];refine bJ ws.length (λi=>(ws.map D.int).getD i .non) [some<|.pu<|.rol<|ns.map .int,some<|.pu<|fG C p,some<|.pu<|.int<|gC 4<|cJ p,some<|.ow [.int a,.int b],some<|.pu<|.lst<|ws.map .int,none] (λQ' q=> ?_)
   (λi ρ=> ∃x,ρ=[some<|.pu<|.rol<|ns.map .int,some<|.pu<|fG C p,some<|.pu<|.int<|gC 4<|cJ p,some<|.ow [.int a,.int b],some<|.pu<|.lst<|ws.map .int,x]) ⟨none,rfl⟩ ?_ ?_
  ·walk_at "u"
   rw[aG];exact q
  ·rintro i ρ hi' ⟨x,rfl⟩;have e:(ws.map D.int).getD i .non= .int (ws.getD i 0):=by
    rw[aI,b7,aI,aO hi'];rfl
   have hm:ws.getD i 0∈ws:=by
    rw[aI,aO hi'];exact bS hi'
   have hq:=hw _ hm;rw[e];generalize ws.getD i 0=q at *;have pq:=a15 hq;have q2:=pq.lo
   have key: ∀xs (l:List D),SP q (n,md q<|fOf p) xs->l.length=xs.length->(∀i,i<xs.length->AbD n q (xs.getD i (cZ,0)) (l.getD i .non))-> ∀Q':B->Ev->Prop,Q' (.ow<|((List.range xs.length).map λi=>decide ((1:Int)< ((xs.getD i (cZ,0)).2:Int))).map D.bl) [some<|.pu<|.rol<|ns.map .int,some<|.pu<|fG C p,some<|.pu<|.int<|gC 4<|cJ p,some<|.ow [.int a,.int b],some<|.pu<|.lst<|ws.map .int,some<|.pu<|.int q]->
     dS [] [none,none] 1 (λρ Q=>Q l.length (λi=>l.getD i .non) ρ) (cC 0) (λρ Q=>Q true ρ) (uOp (sS λi j=>decide (j<i)) (uIx (aV 0)<|uC<|.int 1)<|uC<|.int 1) [some<|.pu<|.rol<|ns.map .int,some<|.pu<|fG C p,some<|.pu<|.int<|gC 4<|cJ p,some<|.ow [.int a,.int b],some<|.pu<|.lst<|ws.map .int,some<|.pu<|.int q] Q':=by
    intro xs l sp hl hA Q' q'
    refine eV (t0:=0) xs.length (λi=>l.getD i .non) [some<|.pu<|.rol<|ns.map .int,some<|.pu<|fG C p,some<|.pu<|.int<|gC 4<|cJ p,some<|.ow [.int a,.int b],some<|.pu<|.lst<|ws.map .int,some<|.pu<|.int q] (λQ' q=>by rw[hl];exact q) (aM sp.len ac) (λx l'=>[x,some<|.ow l']) none rfl (λ_ _ _=>rfl) (λ_ _=>cQ _) (λ_ _ _ q=>q) (λ_ _ _=>rfl) (λi=> .bl (decide ((1:Int)< ((xs.getD i (cZ,0)).2:Int)))) ?_ ?_
    ·intro k l' Q' hk q';obtain⟨t,e,_⟩:=hA k hk;rw[e]at q'⊢;walk_at "u";rw[show atI [t,D.int ((xs.getD k (cZ,0)).2:Int),D.int ((xs.getD k (cZ,0)).1.1:Int)] 1=some (.int ((xs.getD k (cZ,0)).2:Int))from cS (j:=1) rfl]
     exact q'
    ·rw[fX]at q';exact q'
   walk_at "u"
   refine⟨ac,?_⟩
   change dS [] [none,none] 1 (gR<|aQ uY<|a9 (aB 1)<|a9 (aB 5) aK) (cC 0) (λρ Q=>Q true ρ) (uOp (sS λi j=>decide (j<i)) (uIx (aV 0)<|uC<|.int 1)<|uC<|.int 1) _ _
   have H: ∀Q':B->Ev->Prop,(∀xs,SP q (n,md q<|fOf p) xs->Q' (.ow<|((List.range xs.length).map λi=>decide ((1:Int)< ((xs.getD i (cZ,0)).2:Int))).map D.bl) [some<|.pu<|.rol<|ns.map .int,some<|.pu<|fG C p,some<|.pu<|.int<|gC 4<|cJ p,some<|.ow [.int a,.int b],some<|.pu<|.lst<|ws.map .int,some<|.pu<|.int q])->dS [] [none,none] 1 (gR<|aQ uY<|a9 (aB 1)<|a9 (aB 5) aK) (cC 0) (λρ Q=>Q true ρ) (uOp (sS λi j=>decide (j<i)) (uIx (aV 0)<|uC<|.int 1)<|uC<|.int 1) [some<|.pu<|.rol<|ns.map .int,some<|.pu<|fG C p,some<|.pu<|.int<|gC 4<|cJ p,some<|.ow [.int a,.int b],some<|.pu<|.lst<|ws.map .int,some<|.pu<|.int q] Q':=by
    intro Q' hQ;unfold dS at key⊢;unfold gR;rw[eK,dG];exact⟨C,p,n,q,rfl,rp,hn,hq,λxs l sp hl hA=>key xs l sp hl hA Q' (hQ xs sp)⟩
   refine H _ λxs sp=> ?_
   ·dsimp only;rw[a05];dsimp only[List.getElem?_cons_succ,List.getElem?_cons_zero];refine⟨aa,?_⟩
    rw[a6]
    ·exact⟨_,rfl⟩
    ·rw[dE _ aa]
     exact λz=>z (cY0 (by rw[fW];exact cK7 rp hn pq (rf.mp q2) sp))
  ·rintro ρ ⟨x,rfl⟩;dsimp only;unfold cR3;walk_at "u";exact h
abbrev pE:=sB
abbrev pF:=sC
theorem a73: ∀ds Q,pE ds Q->pF {nx:=λ_=>Q (.pu .non),rt:=Q} (init ["f","p","u","s","total","v","w"] ds):=b57
theorem cY1:bootBuiltins "sorted"=some (.builtin "sorted"):=af
end M
end
namespace M
open PySem PySem.Spec PyProof.Rows L2
set_option maxHeartbeats 4000000
noncomputable def top (i:Nat):Stmt:=PySem.Challenge.pw_ringhouse_k40_measure_and_often.main.body.getD i (.Pass ⟨0,0,0,0⟩)
noncomputable abbrev c01:Stmt:=top 9
noncomputable abbrev cR8:List Str:=["row","size"]
noncomputable abbrev cA1:List Str:=["row"]
noncomputable abbrev aQ0:Stmt:=top 10
noncomputable abbrev bG2:List Str:=["row","size"]
noncomputable abbrev b41:List Str:=["row","size"]
noncomputable abbrev sG:Stmt:=top 11
noncomputable abbrev a63:List Str:=["f","g","degree","size","left","quotient","at","many","j","c"]
noncomputable abbrev yL:List Str:=["f","g"]
noncomputable abbrev aB3:Stmt:=top 12
noncomputable abbrev b42:List Str:=["f","z","value","c"]
noncomputable abbrev aV4:List Str:=["f","z"]
noncomputable abbrev b91:Stmt:=top 14
noncomputable abbrev cR9:List Str:=["table","total","sign","i"]
noncomputable abbrev jK:List Str:=["table"]
noncomputable abbrev vY:Stmt:=top 15
noncomputable abbrev aB4:List Str:=["table","i"]
noncomputable abbrev aV5:List Str:=["table","i"]
noncomputable abbrev wZ:Stmt:=top 17
noncomputable abbrev aI0:List Str:=["ring","k"]
noncomputable abbrev aB5:List Str:=["ring","k"]
noncomputable abbrev vZ:Stmt:=top 18
noncomputable abbrev aB6:List Str:=["ring","x","last","moved"]
noncomputable abbrev aV6:List Str:=["ring","x"]
noncomputable abbrev a28:Stmt:=top 19
noncomputable abbrev aV7:List Str:=["ring","x","rows","step"]
noncomputable abbrev aI1:List Str:=["ring","x"]
noncomputable abbrev bG3:Stmt:=top 20
noncomputable abbrev cA2:List Str:=["ring","x"]
noncomputable abbrev bS9:List Str:=["ring","x"]
noncomputable abbrev aQ1:Stmt:=top 23
noncomputable abbrev bG4:List Str:=["a","b","great","low"]
noncomputable abbrev b43:List Str:=["a","b"]
noncomputable abbrev xA:Stmt:=top 24
noncomputable abbrev aI2:List Str:=["a","b","g","low","t","later","many"]
noncomputable abbrev aB7:List Str:=["a","b"]
noncomputable abbrev bG5:Stmt:=top 25
noncomputable abbrev cA3:List Str:=["m","guess","better"]
noncomputable abbrev bT0:List Str:=["m"]
noncomputable abbrev qK:Stmt:=top 26
noncomputable abbrev yM:List Str:=[]
noncomputable abbrev w6:List Str:=[]
noncomputable abbrev aF2:Stmt:=top 28
noncomputable abbrev b11:List Str:=["k","m","rows","triangle","row","table","i"]
noncomputable abbrev bG6:List Str:=["k","m","rows"]
noncomputable abbrev a29:Stmt:=top 29
noncomputable abbrev aV8:List Str:=["triangle","m","row","found","left","i","high","g","s","t"]
noncomputable abbrev aI3:List Str:=["triangle","m","row"]
noncomputable abbrev aF3:Stmt:=top 30
noncomputable abbrev b12:List Str:=["s","one","t","other","m","size"]
noncomputable abbrev bG7:List Str:=["s","one","t","other","m","size"]
noncomputable abbrev aV9:Stmt:=top 31
noncomputable abbrev bG8:List Str:=["table","row","left","i","many"]
noncomputable abbrev bT1:List Str:=["table","row"]
noncomputable abbrev bG9:Stmt:=top 33
noncomputable abbrev cA4:List Str:=["ring","numbers","m","rows","x"]
noncomputable abbrev bT2:List Str:=["ring","numbers"]
noncomputable abbrev sV:Stmt:=top 35
noncomputable abbrev a30:List Str:=["row","p"]
noncomputable abbrev aI4:List Str:=["row","p"]
noncomputable abbrev v3:Stmt:=top 36
noncomputable abbrev aB8:List Str:=["a","b","p","low","turn","quotient","rest"]
noncomputable abbrev a64:List Str:=["a","b","p"]
noncomputable abbrev a31:Stmt:=top 37
noncomputable abbrev aQ2:List Str:=["f","k","p"]
noncomputable abbrev b44:List Str:=["f","k","p"]
noncomputable abbrev v4:Stmt:=top 38
noncomputable abbrev aB9:List Str:=["c","p","value","step"]
noncomputable abbrev a65:List Str:=["c","p"]
noncomputable abbrev a32:Stmt:=top 40
noncomputable abbrev aW0:List Str:=["poly","p","parts","left"]
noncomputable abbrev aI5:List Str:=["poly","p"]
noncomputable abbrev xB:Stmt:=top 41
noncomputable abbrev aI6:List Str:=["f","p","parts","left","c","often"]
noncomputable abbrev aC0:List Str:=["f","p"]
noncomputable abbrev kB:Stmt:=top 42
noncomputable abbrev nX:List Str:=["f","p","pair"]
noncomputable abbrev sN:List Str:=["f","p"]
noncomputable abbrev lB:Stmt:=top 43
noncomputable abbrev rP:List Str:=["f","p","u","s","total","v","w"]
noncomputable abbrev pG:List Str:=["f","p"]
noncomputable abbrev aF4:Stmt:=top 46
noncomputable abbrev b13:List Str:=["ring","p"]
noncomputable abbrev bH0:List Str:=["ring","p"]
noncomputable abbrev a33:Stmt:=top 47
noncomputable abbrev aW1:List Str:=["ring","p","g"]
noncomputable abbrev aI7:List Str:=["ring","p","g"]
noncomputable abbrev aC1:Stmt:=top 48
noncomputable abbrev b45:List Str:=["ring","f"]
noncomputable abbrev aW2:List Str:=["ring","f"]
noncomputable abbrev lQ:Stmt:=top 51
noncomputable abbrev qL:List Str:=["row"]
noncomputable abbrev w8:List Str:=["row"]
noncomputable abbrev nY:Stmt:=top 52
noncomputable abbrev v5:List Str:=["row"]
noncomputable abbrev sO:List Str:=["row"]
noncomputable abbrev b14:Stmt:=top 54
noncomputable abbrev bT3:List Str:=["poly","pair"]
noncomputable abbrev bH1:List Str:=["poly"]
noncomputable abbrev a34:Stmt:=top 55
noncomputable abbrev aW3:List Str:=["m","found","d"]
noncomputable abbrev aI8:List Str:=["m"]
noncomputable abbrev oR:Stmt:=top 56
noncomputable abbrev wA:List Str:=["poly","z","left"]
noncomputable abbrev v6:List Str:=["poly"]
noncomputable abbrev lD:Stmt:=top 57
noncomputable abbrev rQ:List Str:=["poly","v","w","u","s"]
noncomputable abbrev pH:List Str:=["poly"]
noncomputable abbrev a35:Stmt:=top 59
noncomputable abbrev aW4:List Str:=["total","times","square","gap"]
noncomputable abbrev aI9:List Str:=["total","times"]
noncomputable abbrev wB:Stmt:=top 61
noncomputable abbrev aC2:List Str:=["poly","n","sums"]
noncomputable abbrev aW5:List Str:=["poly"]
noncomputable abbrev qZ:Stmt:=top 62
noncomputable abbrev xC:List Str:=["poly","many","n","sums","k","total"]
noncomputable abbrev aC3:List Str:=["poly","many"]
noncomputable abbrev r6:Stmt:=top 64
noncomputable abbrev xD:List Str:=["poly","size"]
noncomputable abbrev aC4:List Str:=["poly","size"]
noncomputable abbrev sW:Stmt:=top 65
noncomputable abbrev a36:List Str:=["poly","p"]
noncomputable abbrev aJ0:List Str:=["poly","p"]
noncomputable abbrev oS:Stmt:=top 66
noncomputable abbrev v7:List Str:=["poly","rows","p","parts","g","often","rest"]
noncomputable abbrev a66:List Str:=["poly","rows"]
noncomputable abbrev iX:Stmt:=top 70
noncomputable abbrev wC:List Str:=["poly","pair"]
noncomputable abbrev v8:List Str:=["poly"]
noncomputable abbrev jL:Stmt:=top 71
noncomputable abbrev v9:List Str:=["poly","size","found","p","f"]
noncomputable abbrev a67:List Str:=["poly","size"]
noncomputable abbrev cK9:Stmt:=top 73
noncomputable abbrev dC9:List Str:=["_law_script","_law_k"]
noncomputable abbrev cS0:List Str:=["_law_script","_law_k"]
noncomputable abbrev c02:Stmt:=top 74
noncomputable abbrev cS1:List Str:=["_law_cell_here","_law_k","_law_prime","_law_far"]
noncomputable abbrev cA5:List Str:=["_law_cell_here","_law_k","_law_prime"]
noncomputable abbrev c03:Stmt:=top 75
noncomputable abbrev cS2:List Str:=["_law_cell_here","_law_widths","_law_prime","_law_left","_law_found","_law_k"]
noncomputable abbrev cA6:List Str:=["_law_cell_here","_law_widths","_law_prime"]
noncomputable abbrev b15:Stmt:=top 76
noncomputable abbrev bT4:List Str:=["_law_poly_here","_law_s","_law_row","_law_low","_law_at"]
noncomputable abbrev bH2:List Str:=["_law_poly_here","_law_s"]
noncomputable abbrev c04:Stmt:=top 77
noncomputable abbrev cL0:List Str:=["_law_cell_here","_law_prime","_law_deep","_law_wide","_law_found"]
noncomputable abbrev cS3:List Str:=["_law_cell_here","_law_prime"]
noncomputable abbrev a37:Stmt:=top 78
noncomputable abbrev aW6:List Str:=["_law_cell_here","_law_known"]
noncomputable abbrev aJ1:List Str:=["_law_cell_here"]
noncomputable abbrev cL1:Stmt:=top 79
noncomputable abbrev dD0:List Str:=["_law_script","_law_k","_law_prime","_law_found","_law_j"]
noncomputable abbrev cS4:List Str:=["_law_script","_law_k","_law_prime"]
noncomputable abbrev c05:Stmt:=top 80
noncomputable abbrev cS5:List Str:=["_law_poly_here","_law_x","_law_y","_law_many","_law_raw","_law_i","_law_j","_law_k","_law_at"]
noncomputable abbrev cA7:List Str:=["_law_poly_here","_law_x","_law_y"]
noncomputable abbrev cA8:Stmt:=top 81
noncomputable abbrev dD1:List Str:=["_law_rows","_law_total","_law_i","_law_minor"]
noncomputable abbrev qM:List Str:=["_law_rows"]
noncomputable abbrev b92:Stmt:=top 82
noncomputable abbrev c06:List Str:=["_law_poly_here","_law_x","_law_many","_law_turn","_law_rows","_law_row","_law_k"]
noncomputable abbrev cA9:List Str:=["_law_poly_here","_law_x"]
noncomputable abbrev c07:Stmt:=top 83
noncomputable abbrev cS6:List Str:=["_law_found"]
noncomputable abbrev cB0:List Str:=["_law_found"]
noncomputable abbrev a38:Stmt:=top 84
noncomputable abbrev aQ3:List Str:=["_law_m"]
noncomputable abbrev b46:List Str:=["_law_m"]
noncomputable abbrev aF5:Stmt:=top 85
noncomputable abbrev b16:List Str:=[]
noncomputable abbrev bH3:List Str:=[]
noncomputable abbrev nZ:Stmt:=top 86
noncomputable abbrev qN:List Str:=["_law_poly_here","_law_many","_law_turn","_law_row","_law_sums","_law_k","_law_table_here"]
noncomputable abbrev b47:List Str:=["_law_poly_here"]
noncomputable abbrev aW7:Stmt:=top 87
noncomputable abbrev cS7:List Str:=["_law_script","_law_ring_here","_law_due","_law_draws_here","_law_asked","_law_p"]
noncomputable abbrev PP_law:List Str:=["_law_script"]
local macro_rules| `(tactic| walk_at "s")=> `(tactic| exact⟨rfl,rfl,rfl,by decide +kernel,rfl,by decide +kernel,by decide +kernel⟩)
theorem bH4:aW cR8 cA1 (aD c01):=by walk_at "s"
theorem cB1:aW bG2 b41 (aD aQ0):=by walk_at "s"
theorem eM:aW a63 yL (aD sG):=by walk_at "s"
theorem sX:aW b42 aV4 (aD aB3):=by walk_at "s"
theorem oU:aW cR9 jK (aD b91):=by walk_at "s"
theorem c08:aW aB4 aV5 (aD vY):=by walk_at "s"
theorem bH5:aW aI0 aB5 (aD wZ):=by walk_at "s"
theorem a39:aW aB6 aV6 (aD vZ):=by walk_at "s"
theorem xE:aW aV7 aI1 (aD a28):=by walk_at "s"
theorem cY2:aW cA2 bS9 (aD bG3):=by walk_at "s"
theorem aC5:aW bG4 b43 (aD aQ1):=by walk_at "s"
theorem iK:aW aI2 aB7 (aD xA):=by walk_at "s"
theorem yN:aW cA3 bT0 (aD bG5):=by walk_at "s"
theorem aW8:aW yM w6 (aD qK):=by walk_at "s"
theorem o7:aW b11 bG6 (aD aF2):=by walk_at "s"
theorem gT:aW aV8 aI3 (aD a29):=by walk_at "s"
theorem cL2:aW b12 bG7 (aD aF3):=by walk_at "s"
theorem yO:aW bG8 bT1 (aD aV9):=by walk_at "s"
theorem yP:aW cA4 bT2 (aD bG9):=by walk_at "s"
theorem bL8:aW a30 aI4 (aD sV):=by walk_at "s"
theorem kD:aW aB8 a64 (aD v3):=by walk_at "s"
theorem cB2:aW aQ2 b44 (aD a31):=by walk_at "s"
theorem n6:aW aB9 a65 (aD v4):=by walk_at "s"
theorem xF:aW aW0 aI5 (aD a32):=by walk_at "s"
theorem iL:aW aI6 aC0 (aD xB):=by walk_at "s"
theorem sP:aW nX sN (aD kB):=by walk_at "s"
theorem eW:aW rP pG (aD lB):=by walk_at "s"
theorem cL3:aW b13 bH0 (aD aF4):=by walk_at "s"
theorem bL9:aW aW1 aI7 (aD a33):=by walk_at "s"
theorem c09:aW b45 aW2 (aD aC1):=by walk_at "s"
theorem aW9:aW qL w8 (aD lQ):=by walk_at "s"
theorem aG8:aW v5 sO (aD nY):=by walk_at "s"
theorem aQ4:aW bT3 bH1 (aD b14):=by walk_at "s"
theorem xG:aW aW3 aI8 (aD a34):=by walk_at "s"
theorem o8:aW wA v6 (aD oR):=by walk_at "s"
theorem gG:aW rQ pH (aD lD):=by walk_at "s"
theorem xH:aW aW4 aI9 (aD a35):=by walk_at "s"
theorem a40:aW aC2 aW5 (aD wB):=by walk_at "s"
theorem jM:aW xC aC3 (aD qZ):=by walk_at "s"
theorem bH6:aW xD aC4 (aD r6):=by walk_at "s"
theorem bM0:aW a36 aJ0 (aD sW):=by walk_at "s"
theorem iP:aW v7 a66 (aD oS):=by walk_at "s"
theorem vA:aW wC v8 (aD iX):=by walk_at "s"
theorem nA:aW v9 a67 (aD jL):=by walk_at "s"
theorem dO5:aW dC9 cS0 (aD cK9):=by walk_at "s"
theorem bH7:aW cS1 cA5 (aD c02):=by walk_at "s"
theorem yQ:aW cS2 cA6 (aD c03):=by walk_at "s"
theorem a41:aW bT4 bH2 (aD b15):=by walk_at "s"
theorem aF6:aW cL0 cS3 (aD c04):=by walk_at "s"
theorem xI:aW aW6 aJ1 (aD a37):=by walk_at "s"
theorem aF7:aW dD0 cS4 (aD cL1):=by walk_at "s"
theorem rR:aW cS5 cA7 (aD c05):=by walk_at "s"
theorem aC6:aW dD1 qM (aD cA8):=by walk_at "s"
theorem vB:aW c06 cA9 (aD b92):=by walk_at "s"
theorem dD2:aW cS6 cB0 (aD c07):=by walk_at "s"
theorem cB3:aW aQ3 b46 (aD a38):=by walk_at "s"
theorem cL4:aW b16 bH3 (aD aF5):=by walk_at "s"
theorem jQ:aW qN b47 (aD nZ):=by walk_at "s"
theorem b17:aW cS7 PP_law (aD aW7):=by walk_at "s"
noncomputable abbrev oV:Stmt:=(bW8<|top 3).getD 0 (.Pass ⟨0,0,0,0⟩)
theorem bM1:aW ["self","left","right"] ["self","left","right"] (aD oV):=by walk_at "s"
noncomputable abbrev vC:Stmt:=(bW8<|top 5).getD 0 (.Pass ⟨0,0,0,0⟩)
theorem cB4:aW ["self","prime","number"] ["self","prime","number"] (aD vC):=by walk_at "s"
noncomputable abbrev aC7:Stmt:=(bW8<|top 69).getD 0 (.Pass ⟨0,0,0,0⟩)
theorem cS8:aW ["self","poly","size"] ["self","poly"] (aD aC7):=by walk_at "s"
structure Zs (mg:Str->Option Value):Prop where
 z0:mg "len"=none
 z1:mg "max"=none
 z2:mg "list"=none
 z3:mg "reversed"=none
 z4:mg "range"=none
 z5:mg "enumerate"=none
 z6:mg "tuple"=none
 z7:mg "abs"=none
 z8:mg "zip"=none
 z9:mg "sorted"=none
 z10:mg "all"=none
 z11:mg "sum"=none
 z12:mg "min"=none
 z13:mg "int"=none
 z14:mg "isinstance"=none
 z15:mg "bool"=none
 z16:mg "any"=none
abbrev DT (P:Program)(w:World)(K:Frag)(mg:Str->Option Value)(base:Heap)(N:List Str)(q:Str)(t:Stmt)(k:Nat)(u:US):Prop:= ∀{f:Addr} {cdv:Value} {A:Around} {outer:List Env} {s:Shared} {H:Hp} {E:XK},i5 k (A.deeper<|envOfC q (aD t) s.heap.objs.size f cdv)->rV (u5 CX0 P w K mg base N q (aD t) f cdv A outer s H E).nox (dZ t) u
section
variable (P:Program)(w:World)(K:Frag)(mg:Str->Option Value)(base:Heap)
abbrev cB5:=Fn P w K mg base "cut" cA1 1 a90
abbrev aC8:=Fn P w K mg base "padded" b41 1 rN
abbrev jN:=Fn P w K mg base "poly_parted" yL 2 fP
abbrev aX0:=Fn P w K mg base "poly_at" aV4 1 sU
abbrev cB6:=Fn P w K mg base "det" jK 5 (gD 4)
abbrev c12:=Fn P w K mg base "without" aV5 1 a10
abbrev bH8:=Fn P w K mg base "number_of" aB5 2 uP
abbrev c13:=Fn P w K mg base "t_times" aV6 1 a17
abbrev aJ2:=Fn P w K mg base "table_of" aI1 2 qX
abbrev cY3:=Fn P w K mg base "norm" bS9 6 b02
abbrev cB7:=Fn P w K mg base "shared" b43 1 aA7
abbrev bH9:=Fn P w K mg base "shared_by" aB7 1 uS
abbrev cY4:=Fn P w K mg base "root" bT0 1 aZ9
abbrev wD:=Fn P w K mg base "small_primes" w6 1 kN
abbrev cL5:=Fn P w K mg base "stair" bG6 3 aP5
abbrev bM2:=Fn P w K mg base "taken_in" aI3 2 wV
abbrev cL6:=Fn P w K mg base "mixed" bG7 1 a21
abbrev cY5:=Fn P w K mg base "rest" bT1 1 b07
abbrev cY6:=Fn P w K mg base "made" bT2 7 b09
abbrev xJ:=Fn P w K mg base "mod_poly" aI4 2 jB
abbrev b60:=Fn P w K mg base "mod_parted" a64 4 rZ
abbrev cB8:=Fn P w K mg base "scaled" b44 3 vR
abbrev b61:=Fn P w K mg base "inverse_of" a65 1 rX
abbrev aJ3:=Fn P w K mg base "split_by" aI5 6 qV
abbrev bI0:=Fn P w K mg base "lines_out" aC0 5 uK
abbrev aG9:=Fn P w K mg base "rootless_parts" sN 2 mJ
abbrev a74:=Fn P w K mg base "two_by_two_split" pG 1 pE
abbrev cL7:=Fn P w K mg base "above" bH0 9 uY
abbrev bM3:=Fn P w K mg base "prime_of" aI7 8 qY
abbrev c14:=Fn P w K mg base "at_root" aW2 3 a23
abbrev aX1:=Fn P w K mg base "is_ring_poly" w8 1 oN
abbrev mS:=Fn P w K mg base "need_ring_poly" sO 2 i4
abbrev cL8:=Fn P w K mg base "apart" bH1 4 aO9
abbrev aJ4:=Fn P w K mg base "dividers" aI8 1 qW
abbrev aQ5:=Fn P w K mg base "line_and_rest" v6 3 nV
abbrev a75:=Fn P w K mg base "two_by_two_apart" pH 3 kI
abbrev bM4:=Fn P w K mg base "two_with" aI9 2 wQ
abbrev c15:=Fn P w K mg base "measure" aW5 6 a13
abbrev bI1:=Fn P w K mg base "root_sums" aC3 1 uF
abbrev bI2:=Fn P w K mg base "papers_of" aC4 8 uM
abbrev bM5:=Fn P w K mg base "parts_at" aJ0 7 wN
abbrev b62:=Fn P w K mg base "outside_of" a66 3 sD
abbrev cS9:=Fn P w K mg base "_law_cell" cS0 1 aT3
abbrev cB9:=Fn P w K mg base "_law_mixed" cA5 1 a87
abbrev cC0:=Fn P w K mg base "_law_draws" cA6 2 rG
abbrev cL9:=Fn P w K mg base "_law_shifted" bH2 1 a20
abbrev dO6:=Fn P w K mg base "_law_poly" cS3 3 bY7
abbrev bM6:=Fn P w K mg base "_law_known_ring" aJ1 2 wT
abbrev dO7:=Fn P w K mg base "_law_ring" cS4 12 bY8
abbrev cC1:=Fn P w K mg base "_law_times" cA7 1 aU4
abbrev TF_det:=Fn P w K mg base "_law_det" qM 5 (mQ 4)
abbrev dD3:=Fn P w K mg base "_law_table" cA9 2 bF6
abbrev dD4:=Fn P w K mg base "_law_whole" cB0 1 bC7
abbrev cC2:=Fn P w K mg base "_law_is_prime" b46 1 aA9
abbrev cM0:=Fn P w K mg base "_law_primes" bH3 2 uZ
abbrev cC3:=Fn P w K mg base "_law_measure" b47 6 aB1
end
section
variable {P:Program}{w:World}{K:Frag}{mg:Str->Option Value}{base:Heap}
theorem cY7 (Z:Zs mg):DT P w K mg base cR8 "cut" c01 0 bD6:=λhr=>
 (bQ 1 bH4.nd (fU (cG 0) rfl Z.z0)<|bB (a77 gX (PUW.pt<|b75 (kH bO9 (aP 1) aF)<|aR9<|kH jI (dY (cG 0)<|aL bP (aP 1) aF) aF)<|bE<|us_g 1 bH4.nd aF iu_sub)<|fV<|t7 (aP 0) iU<|fO<|aP 1)
theorem c16 (Z:Zs mg):DT P w K mg base bG2 "padded" aQ0 0 aA1:=λhr=>
 (fV<|aL cV (aP 0)<|aL bV7 (dR<|bF aA)<|aL bP (aP 1)<|fU (cG 0) rfl Z.z0)
theorem aX2 (Z:Zs mg)(a44:cB5 P w K mg base):DT P w K mg base a63 "poly_parted" sG 1 qF:=λhr=>
 (bQ 2 eM.nd (aL bP (fU (cG 1) rfl Z.z0) aF)<|bQ 3 eM.nd (hV (cu_max rfl) rfl Z.z1 bt_max (bF<|aC (aL bP (fU (cG 0) rfl Z.z0)<|aP 2) aA))<|bQ 4 eM.nd (cD b76 rfl Z.z2 b82 (aN 0 aA))<|bQ 5 eM.nd (aL cN (fA<|bF aA)<|aP 3)<|bB (qC 6 eM.nd (bV5 rfl Z.z3 rfl Z.z4 (aN 3 aA))<|bQ 7 eM.nd (dY (cG 4)<|aL cV (aP 6)<|aP 2)<|bB (u8 5 (pv 5) (aP 7)<|aP 6)<|bE<|aO2 gX rfl (cP0 (by rfl) Z.z5<|aN 1 aA) (qB rfl (cW 8 (cL eM.nd rfl (Or.inl rfl))<|cW 9 (cL eM.nd rfl (Or.inl rfl)) lM) (cE<|cE jJ)) (bE<|dJ3 4 (pv 4) (aL cV (aP 6)<|aP 8) (aL cN (aP 7)<|aP 9) d08))<|fV<|dR<|aC (dQ a44 hr<|aC (cD fB rfl Z.z6 fE (aN 5 aA)) aA)<|aC (dQ a44 hr<|aC (cD fB rfl Z.z6 fE (aN 4 aA)) aA) aA)
theorem bM7 (Z:Zs mg):DT P w K mg base b42 "poly_at" aB3 0 a16:=λhr=>
 (bQ 2 sX.nd aF<|bB (qC 3 sX.nd (dJ9 rfl Z.z3 (aN 0 aA))<|bE<|aS4 2 sX.nd<|aL cV (aL cN (aP 2)<|aP 1)<|aP 3)<|bE<|kM 2<|pv 2)
theorem aF8 (Z:Zs mg){k:Nat}{gD:Φ}(hk:1<=k)(wE:Fn P w K mg base "det" jK k gD)(oG:c12 P w K mg base):DT P w K mg base cR9 "det" b91 k (bD1 gD):=λhr=>
 (bB (cO3 (aR8 jI (fU (lZ 0<|pv 0) rfl Z.z0) aF<|b99 _) (bE<|cF4<|a78 (u7<|a78 (lZ 0<|pv 0) aF λ_ _=>rfl) aF λ_ _=>rfl) bU8)<|bB (wI 1 oU.nd rfl (Or.inl rfl) aF (hl:=il (n:=4) rfl ac))<|bB (wI 2 oU.nd rfl (Or.inl rfl) aF (hl:=il (n:=4) rfl ac))<|bB (aO2 gX rfl (dD rfl Z.z4 (aC (fU (lZ 0<|pv 0) rfl Z.z0) aA)) (a02 3<|cL oU.nd rfl (Or.inl rfl)) (bB (d31 1 oU.nd rfl (Or.inl rfl) (aL cN (aL cN (eX 2<|pv 2)<|a78 (u7<|a78 (lZ 0<|pv 0) (eX 3<|pv 3) λ_ _=>rfl) aF λ_ _=>rfl)<|aH1 wE hr (aE _) rfl (aC (aH1 oG hr hk rfl (aC (eX 0<|pv 0)<|aC (eX 3<|pv 3) aA)) aA)) cF7 (hl:=il (n:=4) rfl ac))<|bE<|wI 2 oU.nd rfl (Or.inl rfl) (kG<|eX 2<|pv 2) (hl:=il (n:=4) rfl ac)))<|bE<|kM 1<|pv 1)
theorem bM8 (Z:Zs mg):DT P w K mg base aB4 "without" vY 0 a11:=λhr=>
 (fV<|cD fB rfl Z.z6 fE (aC (oE ["row",".acc"] (aD vY).names aB4 (iN<|aL cV (l6 (cG 0) iU<|fO<|aP 1)<|l6 (cG 0) (fO<|aL cV (aP 1) aF) iU) (λ_ _ _ _ _ _=>fS) λ_ _ _ _ _ _=>(l6 (cG 0) (fO aF) iU)) aA))
theorem b63 (Z:Zs mg)(kC:aC8 P w K mg base):DT P w K mg base aI0 "number_of" wZ 1 uQ:=λhr=>
 (fV<|dQ kC hr<|rF (dR<|aN 1 aA)<|aC (uD<|aP 0) aA)
theorem bM9 (Z:Zs mg):DT P w K mg base aB6 "t_times" vZ 0 a18:=λhr=>
 (bQ 2 a39.nd (dY (cG 1)<|kG aF)<|bQ 3 a39.nd (aL cV (dR<|bF aA)<|l6 (cG 1) iU<|fO<|kG aF)<|fV<|cD fB rfl Z.z6 fE (aC (oE ["i","moved","last","ring",".acc"] (aD vZ).names aB6 (dD rfl Z.z4 (aC (uD<|aP 0) aA)) (λ_ _ _ _ _ _=>fS) λ_ _ _ _ _ _=>(aL bP (dY (cG 1)<|aP 0)<|aL cN (aP 2)<|dY (u7<|uD<|aP 3)<|aP 0)) aA))
theorem bI3 (Z:Zs mg)(aD2:c13 P w K mg base):DT P w K mg base aV7 "table_of" a28 1 wS:=λhr=>
 (bQ 2 xE.nd (fA<|aN 1 aA)<|bB (qC 3 xE.nd (dD rfl Z.z4 (aC (aL bP (uD<|aP 0) aF) aA))<|bE<|kE 2 (pv 2)<|dQ aD2 hr<|aN 0<|aC (dY (cG 2)<|kG aF) aA)<|fV<|cD fB rfl Z.z6 fE (aN 2 aA))
theorem cM1 (Z:Zs mg)(wE:cB6 P w K mg base)(lU:aJ2 P w K mg base):DT P w K mg base cA2 "norm" bG3 5 b03:=λhr=>
 (fV<|dQ wE hr<|aC (dQ lU hr<|aN 0<|aN 1 aA) aA)
theorem c17 (Z:Zs mg):DT P w K mg base bG4 "shared" aQ1 0 aA8:=λhr=>
 (bB (bA6 2 3 rfl aC5.nd rfl rfl ac rfl rfl (aC (hV bB0 rfl Z.z7 bC9 (aN 0 aA))<|aC (hV bB0 rfl Z.z7 bC9 (aN 1 aA)) aA) rfl (hl:=il2 (n:=4) rfl ac ac))<|bB (a77 gX (kH bA9 (aP 3) aF)<|bE<|bA6 2 3 rfl aC5.nd rfl rfl ac rfl rfl (aN 3<|aC (aL gZ (aP 2)<|aP 3) aA) rfl (hl:=il2 (n:=4) rfl ac ac))<|bE<|kM 2<|pv 2)
theorem b64 (Z:Zs mg):DT P w K mg base aI2 "shared_by" xA 0 uX:=λhr=>
 (bB (bA6 2 3 rfl iK.nd rfl rfl ac rfl rfl (aN 0<|aC (aL gZ (aP 1)<|aP 0) aA) rfl (hl:=il2 (n:=7) rfl ac ac))<|bB (bA5 (dR<|bF<|bF aA)<|qB rfl (cW 4 (cL iK.nd rfl (Or.inl rfl))<|cW 5 (cL iK.nd rfl (Or.inl rfl)) lM) (cE<|cE jJ))<|bB (a77 gX (kH bA9 (aP 3) aF)<|bQ 6 iK.nd (aL rW (aP 2)<|aP 3)<|bB (bA6 2 3 rfl iK.nd rfl rfl ac rfl rfl (aN 3<|aC (aL bP (aP 2)<|aL cN (aP 6)<|aP 3) aA) rfl (hl:=il2 (n:=7) rfl ac ac))<|bE<|bA6 4 5 rfl iK.nd rfl rfl ac rfl rfl (aN 5<|aC (aL bP (aP 4)<|aL cN (aP 6)<|aP 5) aA) rfl (hl:=il2 (n:=7) rfl ac ac))<|fV<|dR<|aN 2<|aC (aL rW (aL bP (aP 2)<|aL cN (aP 4)<|aP 1)<|aP 0)<|aN 4 aA)
theorem cM2 (Z:Zs mg):DT P w K mg base cA3 "root" bG5 0 b00:=λhr=>
 (bQ 1 yN.nd (aP 0)<|bQ 2 yN.nd (aL rW (aL cV (aP 0) aF) aF)<|bB (a77 gX (kH cO5 (aP 2)<|aP 1)<|bQ 1 yN.nd (aP 2)<|bE<|aS4 2 yN.nd<|aL rW (aL cV (aP 1)<|aL rW (aP 0)<|aP 1) aF)<|bE<|kM 1<|pv 1)
theorem aQ6 (Z:Zs mg){jO:Addr}(iM:mg "SMALL_PRIMES"=some (.ref jO))(vD:KT K jO (T_SMALL_PRIMES.map V.int)):DT P w K mg base yM "small_primes" qK 0 oP:=λhr=>
 (fV<|cD b76 rfl Z.z2 b82 (aC (dK0 rfl iM vD) aA))
theorem cC4 (Z:Zs mg)(a45:bM2 P w K mg base)(bJ2:cY5 P w K mg base):DT P w K mg base b11 "stair" aF2 2 aP6:=λhr=>
 (bB (b32 (js:=[1,0]) (N:=["i","m","k",".acc"]) (cap:=[none,some 1,some 0,none]) (last:=3) (esc:=(aD aF2).names) (XN:=b11) 3 rfl rfl af ac ac rfl (dD rfl Z.z4 (aN 0 aA)) (λ_ _ _ _ _ _=>(a02 0<|cL (show Nodup (["i","m","k",".acc"]:List Str)by decide +kernel) rfl (Or.inl rfl))) (λ_ _ _ _ _ _=>fS) (λ_ _ _ _ _ _=>(aL cV (aL cV (aL bV7 (dR<|bF aA)<|aP 0)<|dR<|aN 1 aA)<|aL bV7 (dR<|bF aA)<|aL bP (aL bP (aP 2)<|aP 0) aF)) (cL o7.nd rfl (Or.inl rfl)) (il (n:=7) rfl ac))<|bB (qC 4 o7.nd (iN<|aP 2)<|bE<|aS4 3 o7.nd<|dQ a45 hr<|aN 3<|aN 1<|aN 4 aA)<|bQ 5 o7.nd (fA aA)<|bB (aO2 gX rfl (cP0 (by rfl) Z.z5<|aN 3 aA) (qB rfl (cW 6 (cL o7.nd rfl (Or.inl rfl))<|cW 4 (cL o7.nd rfl (Or.inl rfl)) lM) (cE<|cE jJ)) (bE<|kE 5 (pv 5)<|aL cV (d62<|dQ bJ2 hr<|aN 5<|aC (t7 (aP 4) iU<|fO<|aP 6) aA)<|t7 (aP 4) (fO<|aP 6) iU))<|fV<|cD fB rfl Z.z6 fE (aN 5 aA))
theorem bI4 (Z:Zs mg)(xK:bH9 P w K mg base)(aF9:cL6 P w K mg base):DT P w K mg base aV8 "taken_in" a29 1 wW:=λhr=>
 (bQ 3 gT.nd (cD b76 rfl Z.z2 b82 (aN 0 aA))<|bQ 4 gT.nd (aP 2)<|bB (qC 5 gT.nd (bV5 rfl Z.z3 rfl Z.z4 (aC (fU (cG 2) rfl Z.z0) aA))<|bQ 6 gT.nd (dY (cG 3)<|aP 5)<|bB (bA5 (dQ xK hr<|aC (dY (cG 6)<|aP 5)<|aC (dY (cG 4)<|aP 5) aA)<|qB rfl (cW 7 (cL gT.nd rfl (Or.inl rfl))<|cW 8 (cL gT.nd rfl (Or.inl rfl))<|cW 9 (cL gT.nd rfl (Or.inl rfl)) lM) (cE<|cE<|cE jJ))<|bB (u8 3 (pv 3) (aL cV (aL cV (dQ aF9 hr<|aN 8<|aN 6<|aN 9<|aN 4<|aN 1<|aN 5 aA)<|dR<|aN 7 aA)<|t7 (aP 6) (fO<|aL cV (aP 5) aF) iU)<|aP 5)<|bE<|aS4 4 gT.nd<|dQ aF9 hr<|aC (aL rW (dY (cG 6)<|aP 5)<|aP 7)<|aN 4<|aC (aL rW (kG<|dY (cG 4)<|aP 5)<|aP 7)<|aN 6<|aN 1<|aN 5 aA)<|bE<|kM 3<|pv 3)
theorem cC5 (Z:Zs mg):DT P w K mg base b12 "mixed" aF3 0 aP4:=λhr=>
 (fV<|cD fB rfl Z.z6 fE (aC (y9 (js:=[0,2,4]) (N:=["c","d","s","t","m",".acc"]) (cap:=[none,none,some 0,some 2,some 4,none]) (last:=5) (esc:=(aD aF3).names) (XN:=b12) rfl rfl af ac ac rfl (d51 (by rfl) Z.z8<|aC (t7 (aP 1) iU<|fO<|aP 5)<|aC (t7 (aP 3) iU<|fO<|aP 5) aA) (λ_ _ _ _ _ _=>(qB rfl (cW 0 (cL (show Nodup (["c","d","s","t","m",".acc"]:List Str)by decide +kernel) rfl (Or.inl rfl))<|cW 1 (cL (show Nodup (["c","d","s","t","m",".acc"]:List Str)by decide +kernel) rfl (Or.inl rfl)) lM) (cE<|cE jJ))) (λ_ _ _ _ _ _=>fS) (λ_ _ _ _ _ _=>(aL gZ (aL cV (aL cN (aP 2)<|aP 0)<|aL cN (aP 3)<|aP 1)<|aP 4))) aA))
theorem cM3 (Z:Zs mg):DT P w K mg base bG8 "rest" aV9 0 b08:=λhr=>
 (bQ 2 yO.nd (aP 1)<|bB (qC 3 yO.nd (bV5 rfl Z.z3 rfl Z.z4 (aC (fU (cG 1) rfl Z.z0) aA))<|bQ 4 yO.nd (aL rW (dY (cG 2)<|aP 3)<|dY (u7<|dY (cG 0)<|aP 3)<|aP 3)<|bE<|aS4 2 yO.nd<|cD fB rfl Z.z6 fE (aC (y9 (js:=[4]) (N:=["c","d","many",".acc"]) (cap:=[none,none,some 4,none]) (last:=3) (esc:=(aD aV9).names) (XN:=bG8) rfl rfl af ac ac rfl (d51 (by rfl) Z.z8<|aN 2<|aC (dY (cG 0)<|aP 3) aA) (λ_ _ _ _ _ _=>(qB rfl (cW 0 (cL (show Nodup (["c","d","many",".acc"]:List Str)by decide +kernel) rfl (Or.inl rfl))<|cW 1 (cL (show Nodup (["c","d","many",".acc"]:List Str)by decide +kernel) rfl (Or.inl rfl)) lM) (cE<|cE jJ))) (λ_ _ _ _ _ _=>fS) (λ_ _ _ _ _ _=>(aL bP (aP 0)<|aL cN (aP 2)<|aP 1))) aA))<|bE<|kM 2<|pv 2)
theorem cM4 (Z:Zs mg)(aQ8:cB7 P w K mg base)(bJ3:cY3 P w K mg base)(lU:aJ2 P w K mg base)(b21:cL5 P w K mg base):DT P w K mg base cA4 "made" bG9 6 b10:=λhr=>
 (bQ 2 yP.nd aF<|bQ 3 yP.nd (fA aA)<|bB (qC 4 yP.nd (iN<|aP 1)<|bQ 2 yP.nd (dQ aQ8 hr<|aN 2<|aC (dQ bJ3 hr<|aN 0<|aN 4 aA) aA)<|bE<|cV6 3 (pv 3)<|dQ lU hr<|aN 0<|aN 4 aA)<|oM (kH jI (aP 2) aF) (bE bA4)<|fV<|dQ b21 hr<|aC (uD<|aP 0)<|aN 2<|aN 3 aA)
theorem bI5 (Z:Zs mg)(a44:cB5 P w K mg base):DT P w K mg base a30 "mod_poly" sV 1 wL:=λhr=>
 (fV<|dQ a44 hr<|aC (cD fB rfl Z.z6 fE (aC (oE ["c","p",".acc"] (aD sV).names a30 (iN<|aP 0) (λ_ _ _ _ _ _=>fS) λ_ _ _ _ _ _=>(aL gZ (aP 0)<|aP 1)) aA)) aA)
theorem b18 (Z:Zs mg)(fZ:xJ P w K mg base)(vE:b61 P w K mg base)(cB:jN P w K mg base)(a46:cB8 P w K mg base):DT P w K mg base aB8 "mod_parted" v3 3 sA:=λhr=>
 (bQ 3 kD.nd (dQ fZ hr<|aN 1<|aN 2 aA)<|bQ 4 kD.nd (dQ vE hr<|aC (dY (cG 3)<|kG aF)<|aN 2 aA)<|bB (bA5 (dQ cB hr<|aC (dQ fZ hr<|aN 0<|aN 2 aA)<|aC (dQ a46 hr<|aN 3<|aN 4<|aN 2 aA) aA)<|qB rfl (cW 5 (cL kD.nd rfl (Or.inl rfl))<|cW 6 (cL kD.nd rfl (Or.inl rfl)) lM) (cE<|cE jJ))<|fV<|dR<|aC (dQ a46 hr<|aN 5<|aN 4<|aN 2 aA)<|aC (dQ fZ hr<|aN 6<|aN 2 aA) aA)
theorem c18 (Z:Zs mg)(fZ:xJ P w K mg base):DT P w K mg base aQ2 "scaled" a31 2 a91:=λhr=>
 (fV<|dQ fZ hr<|aC (cD fB rfl Z.z6 fE (aC (oE ["c","k",".acc"] (aD a31).names aQ2 (iN<|aP 0) (λ_ _ _ _ _ _=>fS) λ_ _ _ _ _ _=>(aL cN (aP 1)<|aP 0)) aA))<|aN 2 aA)
theorem b19 (Z:Zs mg):DT P w K mg base aB9 "inverse_of" v4 0 rY:=λhr=>
 (bQ 2 n6.nd aF<|bB (qC 3 n6.nd (dD rfl Z.z4 (aC (aL bP (aP 1) aF) aA))<|bE<|aS4 2 n6.nd<|aL gZ (aL cN (aP 2)<|aP 0)<|aP 1)<|bE<|kM 2<|pv 2)
theorem bI6 (Z:Zs mg)(iC:wD P w K mg base)(xL:bI0 P w K mg base)(fZ:xJ P w K mg base)(o9:aG9 P w K mg base):DT P w K mg base aW0 "split_by" a32 5 wM:=λhr=>
 (oM (aR8 d42 (aP 1) (bB1 iC hr ac rfl) rfl) (bE bA4)<|bB (bA5 (dQ xL hr<|aC (dQ fZ hr<|aN 0<|aN 1 aA)<|aN 1 aA)<|qB rfl (cW 2 (cL xF.nd rfl (Or.inl rfl))<|cW 3 (cL xF.nd rfl (Or.inl rfl)) lM) (cE<|cE jJ))<|fV<|aL cV (aP 2)<|dQ o9 hr<|aN 3<|aN 1 aA)
theorem b65 (Z:Zs mg)(oH:aX0 P w K mg base)(vF:b60 P w K mg base):DT P w K mg base aI6 "lines_out" xB 4 uL:=λhr=>
 (bQ 2 iL.nd (fA aA)<|bQ 3 iL.nd (aP 0)<|bB (qC 4 iL.nd (dD rfl Z.z4 (aN 1 aA))<|bQ 5 iL.nd aF<|bB (a77 gX (kH jI (aL gZ (dQ oH hr<|aN 3<|aS5 (kG<|aP 4) aA)<|aP 1) aF)<|bQ 3 iL.nd (dY (u7<|dQ vF hr<|aN 3<|rF (dR<|aN 4<|bF aA)<|aN 1 aA) aF)<|bE<|us_g 5 iL.nd aF cF7)<|bE<|bK4 (kH bO9 (aP 5) aF)<|bE<|kE 2 (pv 2)<|dR<|rF (dR<|aN 4<|bF aA)<|aN 5 aA)<|fV<|dR<|aN 2<|aN 3 aA)
theorem aC9 (Z:Zs mg)(lF:a74 P w K mg base):DT P w K mg base nX "rootless_parts" kB 1 mM:=λhr=>
 (oM (kH jI (fU (cG 0) rfl Z.z0) aF) (fV<|fA aA)<|bQ 2 sP.nd (d28 (kH jI (fU (cG 0) rfl Z.z0) aF) (dQ lF hr<|aN 0<|aN 1 aA)<|fA aA)<|oM (kH jI (fU (cG 2) rfl Z.z0) aF) (fV<|fA<|rF (dR<|aN 0<|bF aA) aA)<|oM (kH (ou_eqD hr.units) (dY (cG 2) aF)<|dY (cG 2) aF) (fV<|fA<|rF (dR<|aC (dY (cG 2) aF)<|bF aA) aA)<|fV<|oE ["g",".acc"] (aD kB).names nX (iN<|hV d61 rfl Z.z9 cY1 (aN 2 aA)) (λ_ _ _ _ _ _=>fS) λ_ _ _ _ _ _=>(dR<|aN 0<|bF aA))
theorem a42 (Z:Zs mg):DT P w K mg base rP "two_by_two" lB 0 pF:=λhr=>
 (bB (qC 2 eW.nd (dD rfl Z.z4 (aN 1 aA))<|bQ 3 eW.nd (aL gZ (aL bP (dY (cG 0) aF)<|aP 2)<|aP 1)<|bQ 4 eW.nd (aL bP (dY (cG 0) aF)<|aL cN (aP 2)<|aP 3)<|bE<|qC 5 eW.nd (dD rfl Z.z4 (aN 1 aA))<|bQ 6 eW.nd (aL gZ (aL bP (aP 4)<|aP 5)<|aP 1)<|bE<|bK4 (PUW.pt<|b75 (kH jI (aL gZ (aL cN (aP 5)<|aP 6)<|aP 1)<|dY (cG 0) aF)<|aR9<|kH jI (aL gZ (aL cV (aL cN (aP 2)<|aP 6)<|aL cN (aP 5)<|aP 3)<|aP 1)<|dY (cG 0) aF)<|fV<|fA<|rF (dR<|aN 5<|aN 2<|bF aA)<|rF (dR<|aN 6<|aN 3<|bF aA) aA)<|fV<|fA aA)
theorem cC6 (Z:Zs mg)(lW:aJ3 P w K mg base)(a47:bM3 P w K mg base):DT P w K mg base b13 "above" aF4 8 aP8:=λhr=>
 (fV<|y9 (js:=[0,1]) (N:=["g","often","ring","p",".acc"]) (cap:=[none,none,some 0,some 1,none]) (last:=4) (esc:=(aD aF4).names) (XN:=b13) rfl rfl af ac ac rfl (iN<|dQ lW hr<|aC (uD<|aP 0)<|aN 1 aA) (λ_ _ _ _ _ _=>(qB rfl (cW 0 (cL (show Nodup (["g","often","ring","p",".acc"]:List Str)by decide +kernel) rfl (Or.inl rfl))<|cW 1 (cL (show Nodup (["g","often","ring","p",".acc"]:List Str)by decide +kernel) rfl (Or.inl rfl)) lM) (cE<|cE jJ))) (λ_ _ _ _ _ _=>fS) (λ_ _ _ _ _ _=>(dR<|aC (dQ a47 hr<|aN 2<|aN 3<|aN 0 aA)<|aN 1<|aC (aL bP (fU (cG 0) rfl Z.z0) aF) aA)))
theorem bI7 (Z:Zs mg)(bJ4:cY6 P w K mg base)(xM:bH8 P w K mg base)(aD3:c14 P w K mg base):DT P w K mg base aW1 "prime_of" a33 7 wY:=λhr=>
 (fV<|dQ bJ4 hr<|aN 0<|aC (fA<|aC (dQ xM hr<|aN 0<|aN 1 aA)<|aC (dQ aD3 hr<|aN 0<|aN 2 aA) aA) aA)
theorem bN0 (Z:Zs mg)(kC:aC8 P w K mg base)(cB:jN P w K mg base):DT P w K mg base b45 "at_root" aC1 2 a24:=λhr=>
 (fV<|dQ kC hr<|aC (dY (u7<|dQ cB hr<|aN 1<|aC (uD<|aP 0) aA) aF)<|aC (uD<|aP 0) aA)
theorem aQ7 (Z:Zs mg){qO:Tok}(gQ:mg "GREATEST_PLACE"=some (.int 499 qO)):DT P w K mg base qL "is_ring_poly" lQ 0 oO:=λhr=>
 (oM (PUW.pt<|cF3 (kH cO5 (fU (cG 0) rfl Z.z0) aF)<|cF3 (kH bO9 (fU (cG 0) rfl Z.z0) aF)<|cO1<|kH bA9 (dY (cG 0)<|kG aF) aF) (fV cN9)<|fV<|hV (cG5 rfl) rfl Z.z10 cG6 (aC (oE ["c",".acc"] (aD lQ).names qL (iN<|aP 0) (λ_ _ _ _ _ _=>fS) λ_ _ _ _ _ _=>(bV9 dR0 (hV bB0 rfl Z.z7 bC9 (aN 0 aA))<|cO8 rfl gQ)) aA))
theorem aD0 (Z:Zs mg)(qP:aX1 P w K mg base):DT P w K mg base v5 "need_ring_poly" nY 1 mD:=λhr=>
 (bE<|bK4 (cO2<|cO0<|dQ qP hr<|aN 0 aA)<|bE bA4)
theorem cC7 (Z:Zs mg)(dP:mS P w K mg base)(oW:aQ5 P w K mg base)(lH:a75 P w K mg base):DT P w K mg base bT3 "apart" b14 3 aP0:=λhr=>
 (bB (bV4<|dQ dP hr<|aN 0 aA)<|bQ 1 aQ4.nd (dQ oW hr<|aN 0 aA)<|oM (PUW.pt<|b75 (bV8<|aP 1)<|aR9<|kH jI (fU (cG 0) rfl Z.z0) aF) (bE<|aS4 1 aQ4.nd<|dQ lH hr<|aN 0 aA)<|bE<|kM 1<|pv 1)
theorem bI8 (Z:Zs mg):DT P w K mg base aW3 "dividers" a34 0 wP:=λhr=>
 (oM (kH jI (aP 0) aF) (fV<|fA<|bF aA)<|bQ 1 xG.nd (fA aA)<|bB (qC 2 xG.nd (xZ rfl Z.z4 (bF<|aC (aL cV (hV bB0 rfl Z.z7 bC9 (aN 0 aA)) aF) aA))<|bE<|bK4 (kH jI (aL gZ (aP 0)<|aP 2) aF)<|bB (kE 1 (pv 1)<|aP 2)<|bE<|kE 1 (pv 1)<|kG<|aP 2)<|bE<|kM 1<|pv 1)
theorem aH0 (Z:Zs mg)(lX:aJ4 P w K mg base)(oH:aX0 P w K mg base)(cB:jN P w K mg base):DT P w K mg base wA "line_and_rest" oR 2 nW:=λhr=>
 (bB (qC 1 o8.nd (iN<|dQ lX hr<|aC (dY (cG 0) aF) aA)<|bE<|bK4 (kH jI (dQ oH hr<|aN 0<|aN 1 aA) aF)<|bQ 2 o8.nd (dR<|aS5 (kG<|aP 1)<|bF aA)<|fV<|dR<|aN 2<|aC (dY (u7<|dQ cB hr<|aN 0<|aN 2 aA) aF) aA)<|fV bA2)
theorem a43 (Z:Zs mg)(lX:aJ4 P w K mg base)(a48:bM4 P w K mg base):DT P w K mg base rQ "two_by_two" lD 2 kJ:=λhr=>
 (bB (qC 1 gG.nd (iN<|dQ lX hr<|aC (dY (cG 0) aF) aA)<|bQ 2 gG.nd (aL rW (dY (cG 0) aF)<|aP 1)<|bE<|qC 3 gG.nd (iN<|dQ a48 hr<|aC (dY (cG 0) aF)<|aC (aL bP (aL bP (dY (cG 0) aF)<|aP 1)<|aP 2) aA)<|bQ 4 gG.nd (aL bP (dY (cG 0) aF)<|aP 3)<|bE<|bK4 (kH jI (aL cV (aL cN (aP 3)<|aP 2)<|aL cN (aP 1)<|aP 4)<|dY (cG 0) aF)<|fV<|dR<|rF (dR<|aN 1<|aN 3<|bF aA)<|rF (dR<|aN 2<|aN 4<|bF aA) aA)<|fV bA2)
theorem bI9 (Z:Zs mg)(bJ5:cY4 P w K mg base):DT P w K mg base aW4 "two_with" a35 1 wR:=λhr=>
 (bQ 2 xH.nd (aL bP (aL cN (aP 0)<|aP 0)<|aL cN aF<|aP 1)<|oM (kH cO5 (aP 2) aF) (fV<|fA aA)<|bQ 3 xH.nd (dQ bJ5 hr<|aN 2 aA)<|oM (kH bA9 (aL cN (aP 3)<|aP 3)<|aP 2) (fV<|fA aA)<|fV<|fA<|aC (aL rW (aL cV (aP 0)<|aP 3) aF)<|aC (aL rW (aL bP (aP 0)<|aP 3) aF) aA)
theorem bN1 (Z:Zs mg)(dP:mS P w K mg base)(xN:bI1 P w K mg base)(wE:cB6 P w K mg base):DT P w K mg base aC2 "measure" wB 5 a14:=λhr=>
 (bB (bV4<|dQ dP hr<|aN 0 aA)<|bQ 1 a40.nd (aL bP (fU (cG 0) rfl Z.z0) aF)<|bQ 2 a40.nd (dQ xN hr<|aN 0<|aC (aL bP (aL cN aF<|aP 1) aF) aA)<|fV<|dQ wE hr<|aC (cD fB rfl Z.z6 fE (aC (oE ["i","sums","n",".acc"] (aD wB).names aC2 (dD rfl Z.z4 (aN 1 aA)) (λ_ _ _ _ _ _=>fS) λ_ _ _ _ _ _=>(cD fB rfl Z.z6 fE (aC (l6 (cG 1) (fO<|aP 0)<|fO<|aL cV (aP 0)<|aP 2) aA))) aA)) aA)
theorem b66 (Z:Zs mg):DT P w K mg base xC "root_sums" qZ 0 uG:=λhr=>
 (bQ 2 jM.nd (aL bP (fU (cG 0) rfl Z.z0) aF)<|bQ 3 jM.nd (fA<|aN 2 aA)<|bB (qC 4 jM.nd (xZ rfl Z.z4 (bF<|aN 1 aA))<|bQ 5 jM.nd (hV (d39 rfl) rfl Z.z11 d40 (aC (oE ["i","poly","n","sums","k",".acc"] (aD qZ).names xC (xZ rfl Z.z4 (bF<|aC (aL cV (hV (cu_min rfl) rfl Z.z12 bt_min (aC (aL bP (aP 4) aF)<|aN 2 aA)) aF) aA)) (λ_ _ _ _ _ _=>fS) λ_ _ _ _ _ _=>(aL cN (dY (cG 1)<|aL bP (aP 2)<|aP 0)<|dY (cG 3)<|aL bP (aP 4)<|aP 0)) aA))<|oM (kH dR0 (aP 4)<|aP 2) (bE<|us_g 5 jM.nd (aL cN (aP 4)<|dY (cG 0)<|aL bP (aP 2)<|aP 4) cF7)<|bE<|kE 3 (pv 3)<|kG<|aP 5)<|bE<|kM 3<|pv 3)
theorem b67 (Z:Zs mg)(iC:wD P w K mg base)(a49:bM5 P w K mg base):DT P w K mg base xD "papers_of" r6 7 uN:=λhr=>
 (fV<|oE ["p","poly","size",".acc"] (aD r6).names xD (iN<|bB1 iC hr ac rfl) (λ_ _ _ _ _ _=>(bV3<|kH jI (aL gZ (aP 2)<|aL cN (aP 0)<|aP 0) aF)) λ_ _ _ _ _ _=>(dR<|aN 0<|aC (dQ a49 hr<|aN 1<|aN 0 aA) aA))
theorem bJ0 (Z:Zs mg)(lW:aJ3 P w K mg base)(cB:jN P w K mg base):DT P w K mg base a36 "parts_at" sW 6 wO:=λhr=>
 (fV<|y9 (js:=[0]) (N:=["g","often","poly",".acc"]) (cap:=[none,none,some 0,none]) (last:=3) (esc:=(aD sW).names) (XN:=a36) rfl rfl af ac ac rfl (iN<|dQ lW hr<|aN 0<|aN 1 aA) (λ_ _ _ _ _ _=>(qB rfl (cW 0 (cL (show Nodup (["g","often","poly",".acc"]:List Str)by decide +kernel) rfl (Or.inl rfl))<|cW 1 (cL (show Nodup (["g","often","poly",".acc"]:List Str)by decide +kernel) rfl (Or.inl rfl)) lM) (cE<|cE jJ))) (λ_ _ _ _ _ _=>fS) (λ_ _ _ _ _ _=>(dR<|aN 0<|aN 1<|aC (dY (u7<|dQ cB hr<|aN 2<|aN 0 aA) aF) aA)))
theorem b20 (Z:Zs mg)(cB:jN P w K mg base):DT P w K mg base v7 "outside_of" oS 2 sE:=λhr=>
 (bB (aO2 gX rfl (iN<|aP 1) (qB rfl (cW 2 (cL iP.nd rfl (Or.inr rfl))<|cW 3 (cL iP.nd rfl (Or.inl rfl)) lM) (cE<|cE jJ)) (bE<|aO2 gX rfl (iN<|aP 3) (qB rfl (cW 4 (cL iP.nd rfl (Or.inl rfl))<|cW 5 (cL iP.nd rfl (Or.inl rfl))<|cW 6 (cL iP.nd rfl (Or.inl rfl)) lM) (cE<|cE<|cE jJ)) (bE<|bK4 (PUW.pt<|b75 (kH dR1 (aP 5) aF)<|aR9<|cO0<|hV (cG5 rfl) rfl Z.z10 cG6 (aC (oE ["c","p",".acc"] (aD oS).names v7 (iN<|aP 6) (λ_ _ _ _ _ _=>fS) λ_ _ _ _ _ _=>(bV9 jI (aL gZ (aP 0)<|aL cN (aP 1)<|aP 1) aF)) aA))<|fV<|dR<|aN 2<|aC (dY (u7<|dQ cB hr<|aN 0<|aN 4 aA) aF) aA)))<|fV bA2)
theorem aD1 (Z:Zs mg){fH:Addr}(iY:mg "FallsApart"=some (.ref fH)){i9:Addr}{bN2:FuncData}(lY:aH5 K fH i9 [.type "ValueError",.type "Exception",.type "BaseException",.type "object"] "ValueError.__new__"=true)(a50:c63 K fH i9 bN2 "left" "right")(b22:cL8 P w K mg base){f:Addr}{cdv:Value}{A:Around}{outer:List Env}{s:Shared}{H:Hp}{E:XK}(hr:i5 4 (A.deeper<|envOfC "need_together" (aD iX) s.heap.objs.size f cdv)) :
  a56 (u5 (CXr P w base) P w K mg base wC "need_together" (aD iX) f cdv A outer s H E) E (dZ iX) mO:=
 (bW5 (aS8<|wI 1 vA.nd rfl (Or.inl rfl) (aH1 b22 hr ac rfl (aC (eX 0<|pv 0) aA)) (hl:=il (n:=2) rfl ac))<|bC0<|d70 (c56<|eX 1<|pv 1) (bC0<|bQ6 (k:=0) yU lY a50 (hr.mono ac) rfl iY rfl (aC (a78 (lZ 1<|pv 1) aF λ_ _=>rfl)<|aC (a78 (lZ 1<|pv 1) aF λ_ _=>rfl) aA) cI1 rfl ac) cI3)
theorem aX3 (Z:Zs mg){hG:Addr}(lJ:mg "NotWhole"=some (.ref hG)){jR:Addr}{cD0:FuncData}(qQ:aH5 K hG jR [.type "ValueError",.type "Exception",.type "BaseException",.type "object"] "ValueError.__new__"=true)(aQ9:c63 K hG jR cD0 "prime" "number")(vG:b62 P w K mg base)(xO:bI2 P w K mg base)(kC:aC8 P w K mg base){f:Addr}{cdv:Value}{A:Around}{outer:List Env}{s:Shared}{H:Hp}{E:XK}(hr:i5 8 (A.deeper<|envOfC "need_whole" (aD jL) s.heap.objs.size f cdv)) :
  a56 (u5 (CXr P w base) P w K mg base v9 "need_whole" (aD jL) f cdv A outer s H E) E (dZ jL) qH:=
 (bW5 (aS8<|wI 2 nA.nd rfl (Or.inl rfl) (aH1 vG hr ac rfl (aC (eX 0<|pv 0)<|aC (aH1 xO hr ac rfl (aC (eX 0<|pv 0)<|aC (eX 1<|pv 1) aA)) aA)) (hl:=il (n:=5) rfl ac))<|bC0<|d70 (c56<|eX 2<|pv 2) (bW5 (aS8<|bA5 (eX 2<|pv 2)<|qB rfl (cW 3 (cL nA.nd rfl (Or.inr rfl))<|cW 4 (cL nA.nd rfl (Or.inl rfl)) lM) (cE<|cE jJ))<|bC0<|bQ6 (k:=0) yU qQ aQ9 (hr.mono ac) rfl lJ rfl (aC (eX 3<|pv 3)<|aC (aH1 kC hr ac rfl (aC (cD fB rfl Z.z6 fE (aC (y9 (js:=[3]) (N:=["c","p",".acc"]) (cap:=[none,some 3,none]) (last:=2) (esc:=(aD jL).names) (XN:=v9) rfl rfl af ac ac rfl (iN<|eX 4<|pv 4) (λ_ _ _ _ _ _=>(a02 0<|cL (show Nodup (["c","p",".acc"]:List Str)by decide +kernel) rfl (Or.inl rfl))) (λ_ _ _ _ _ _=>fS) (λ_ _ _ _ _ _=>(aL gZ (eX 0<|pv 0)<|eX 1<|pv 1))) aA))<|aC (aL bP (fU (lZ 0<|pv 0) rfl Z.z0) aF) aA)) aA) cI1 rfl ac) cI3)
theorem dD5 (Z:Zs mg):DT P w K mg base dC9 "_law_cell" cK9 0 bW9:=λhr=>
 (oM (kH jI (fU (cG 0) rfl Z.z0) aF) (fV<|aL cN aF<|aL cV (aP 1) aF)<|oM (kH cO5 (aP 1)<|fU (cG 0) rfl Z.z0) (fV<|dY (cG 0)<|aP 1)<|fV<|aL cV (dY (cG 0)<|aL gZ (aP 1)<|fU (cG 0) rfl Z.z0)<|aL cN aF<|aP 1)
theorem cY8 (Z:Zs mg):DT P w K mg base cS1 "_law_mixed" c02 0 bC3:=λhr=>
 (bQ 3 bH7.nd (aL gZ (aL cN (aL cV (aL cV (aL cV (aP 0)<|aL cN (aL cN aF<|aP 1)<|aP 1)<|aL cN aF<|aP 1) aF) aF) aF)<|bQ 3 bH7.nd (aL gZ (aL cN (aP 3)<|aP 3) aF)<|fV<|aL gZ (aL cN (aP 3) aF)<|aP 2)
theorem cY9 (Z:Zs mg)(aG0:cB9 P w K mg base):DT P w K mg base cS2 "_law_draws" c03 1 bC4:=λhr=>
 (bQ 3 yQ.nd aF<|oM (kH dR1 (aP 0)<|aL d34 aF aF) (bE<|aS4 3 yQ.nd<|aL bP (aP 0)<|aL d34 aF aF)<|bQ 4 yQ.nd (fA aA)<|bB (qC 5 yQ.nd (dD rfl Z.z4 (aC (fU (cG 1) rfl Z.z0) aA))<|bE<|cO3 (kH bO9 (aP 3) aF) (bB (kE 4 (pv 4)<|aL gZ (aP 3)<|dY (cG 1)<|aP 5)<|bE<|aS4 3 yQ.nd<|aL rW (aP 3)<|dY (cG 1)<|aP 5)<|bE<|kE 4 (pv 4)<|aL gZ (dQ aG0 hr<|aN 0<|aN 5<|aN 2 aA)<|dY (cG 1)<|aP 5)<|bE<|kM 4<|pv 4)
theorem cC8 (Z:Zs mg):DT P w K mg base bT4 "_law_shifted" b15 0 aP2:=λhr=>
 (bQ 2 a41.nd (cD b76 rfl Z.z2 b82 (aN 0 aA))<|bB (qC 3 a41.nd (dD rfl Z.z4 (aC (aL bP (fU (cG 2) rfl Z.z0) aF) aA))<|bE<|qC 4 a41.nd (bP9 rfl Z.z4 (aC (aL bP (fU (cG 2) rfl Z.z0) aF)<|aC (aL bP (aP 3) aF)<|aS5 (kG aF) aA))<|bE<|u8 2 (pv 2) (aL cV (dY (cG 2)<|aP 4)<|aL cN (aP 1)<|dY (cG 2)<|aL cV (aP 4) aF)<|aP 4)<|fV<|cD fB rfl Z.z6 fE (aN 2 aA))
theorem dD6 (Z:Zs mg)(r8:cC0 P w K mg base)(aG1:cL9 P w K mg base):DT P w K mg base cL0 "_law_poly" c04 2 bZ0:=λhr=>
 (bQ 2 aF6.nd (dQ r8 hr<|aN 0<|aC (fA<|bF<|bF aA)<|aN 1 aA)<|bQ 3 aF6.nd (l6 (u7<|dQ r8 hr<|aN 0<|aC (fA<|bF<|bF<|bF<|bF<|bF<|bF aA)<|aN 1 aA) (fO aF)<|fO<|aL cV (dY (cG 2) aF) aF)<|oM (kH jI (dY (cG 2) aF) aF) (fV<|cD fB rfl Z.z6 fE (aC (aL cV (oE ["_law_place",".acc"] (aD c04).names cL0 (iN<|aP 3) (λ_ _ _ _ _ _=>fS) λ_ _ _ _ _ _=>(aL bP (aP 0) aF))<|fA<|bF aA) aA))<|bQ 4 aF6.nd (dQ r8 hr<|aN 0<|aC (fA<|bF<|bF<|bF<|bF<|bF<|bF<|bF aA)<|aN 1 aA)<|oM (kH jI (dY (cG 2) aF) aF) (bQ 4 aF6.nd (dQ r8 hr<|aN 0<|aC (fA<|bF<|bF<|bF<|bF aA)<|aN 1 aA)<|fV<|dR<|aC (aL bP (dY (cG 4) aF) aF)<|aC (aL bP (dY (cG 4) aF) aF)<|bF aA)<|oM (kH jI (dY (cG 2) aF) aF) (fV<|dQ aG1 hr<|rF (dR<|aC (aL bP (dY (cG 4) aF) aF)<|aC (aL bP (dY (cG 4) aF) aF)<|aC (aL bP (dY (cG 4) aF) aF)<|bF aA)<|aC (aL bP (dY (cG 4) aF) aF) aA)<|bQ 4 aF6.nd (dQ r8 hr<|aN 0<|aC (fA<|bF<|bF<|bF<|bF<|bF<|bF<|bF aA)<|aN 1 aA)<|fV<|dQ aG1 hr<|rF (dR<|aC (aL bP (dY (cG 4) aF) aF)<|aC (aL bP (dY (cG 4) aF) aF)<|aC (aL bP (dY (cG 4) aF) aF)<|aC (aL bP (dY (cG 4) aF) aF)<|bF aA)<|aC (aL bP (dY (cG 4) aF) aF) aA)
theorem bJ1 (Z:Zs mg)(aG0:cB9 P w K mg base):DT P w K mg base aW6 "_law_known_ring" a37 1 wU:=λhr=>
 (by refine WS.out ?_;exact ws_lw (cH4 (a68<|a68<|a68 a85)<|cH4 (cV5<|a68<|a68 a85)<|cH4 (a68<|a68<|a68 a85)<|cH4 (cV5<|a68<|a68 a85)<|cH4 (cV5<|cV5<|a68<|a68 a85)<|cH4 (cV5<|a68<|a68<|a68 a85)<|cH4 (cV5<|a68<|a68<|a68 a85) a85) (ws_of<|bQ 1 xI.nd (aL cV (aP 1)<|fA<|rF (dR<|bF<|bF<|bF<|bF<|bF aA)<|rF (dR<|aS5 (kG aF)<|aS5 (kG aF)<|bF<|bF<|bF aA)<|rF (dR<|bF<|bF<|bF<|bF<|bF aA)<|rF (dR<|aS5 (kG aF)<|bF<|bF<|bF<|bF aA)<|rF (dR<|bF<|bF<|aS5 (kG aF)<|bF<|bF aA) aA)<|fV<|dY (cG 1)<|aL gZ (dQ aG0 hr<|aN 0<|bF<|bF aA) aF) xI.nd)
theorem dD7 (Z:Zs mg){iA:Addr}(lK:mg "RingError"=some (.ref iA))(rS:excIn K iA [.type "ValueError",.type "Exception",.type "BaseException",.type "object"] "ValueError.__new__"=true)(qR: ∀n∈(["FallsApart","TooGreat","NotWhole"]:List Str),∀C,mg n=some (.ref C)->aY7 K iA C [.type "ValueError",.type "Exception",.type "BaseException",.type "object"] "ValueError.__new__")(b94:MkX P w K mg base "Ring" 10 ["poly","degree","measure"] yE)(cM5:dO6 P w K mg base)(aR0:cS9 P w K mg base)(a51:bM6 P w K mg base):DT P w K mg base dD0 "_law_ring" cL1 11 bY9:=λhr=>
 (bQ 3 aF7.nd bA2<|bB (qC 4 aF7.nd (dD rfl Z.z4 (bF aA))<|bE<|bK4 (bV8<|aP 3)<|bE<|dK8 3 ["FallsApart","TooGreat","NotWhole"] yU b94 hr ac rfl rfl rfl rfl rfl (λ_=>(aC (dQ cM5 hr<|aC (dQ aR0 hr<|aN 0<|aC (aL cV (aP 1)<|aP 4) aA)<|aN 2 aA) aA)) aF7.nd rfl (Or.inl rfl) (λ_=>(bE<|aS4 3 aF7.nd bA2)) rfl lK rS qR (il (n:=5) rfl ac))<|oM (bV8<|aP 3) (bE<|aS4 3 aF7.nd<|dK7 b94 hr ac rfl (aC (dQ a51 hr<|aC (dQ aR0 hr<|aN 0<|aN 1 aA) aA) aA))<|bE<|kM 3<|pv 3)
theorem cZ0 (Z:Zs mg):DT P w K mg base cS5 "_law_times" c05 0 bF1:=λhr=>
 (bQ 3 rR.nd (aL bP (fU (cG 0) rfl Z.z0) aF)<|bQ 4 rR.nd (aL cN (fA<|bF aA)<|aL bP (aL cN aF<|aP 3) aF)<|bB (qC 5 rR.nd (dD rfl Z.z4 (aN 3 aA))<|bE<|qC 6 rR.nd (dD rfl Z.z4 (aN 3 aA))<|bE<|u8 4 (pv 4) (aL cV (dY (cG 4)<|aL cV (aP 5)<|aP 6)<|aL cN (dY (cG 1)<|aP 5)<|dY (cG 2)<|aP 6)<|aL cV (aP 5)<|aP 6)<|bB (qC 7 rR.nd (bP9 rfl Z.z4 (aC (aL bP (aL cN aF<|aP 3) aF)<|aC (aL bP (aP 3) aF)<|aS5 (kG aF) aA))<|bE<|qC 6 rR.nd (dD rfl Z.z4 (aN 3 aA))<|bQ 8 rR.nd (aL cV (aL bP (aP 7)<|aP 3)<|aP 6)<|bE<|u8 4 (pv 4) (aL bP (dY (cG 4)<|aP 8)<|aL cN (dY (cG 4)<|aP 7)<|dY (cG 0)<|aP 6)<|aP 8)<|fV<|cD fB rfl Z.z6 fE (aC (l6 (cG 4) iU<|fO<|aP 3) aA))
theorem b93 (Z:Zs mg){k:Nat}{mQ:Φ}(hk:1<=k)(cD1:Fn P w K mg base "_law_det" qM k mQ):DT P w K mg base dD1 "_law_det" cA8 k (cJ5 mQ):=λhr=>
 (bB (cO3 (aR8 jI (fU (lZ 0<|pv 0) rfl Z.z0) aF<|b99 _) (bE<|cF4<|a78 (u7<|a78 (lZ 0<|pv 0) aF λ_ _=>rfl) aF λ_ _=>rfl) bU8)<|bB (wI 1 aC6.nd rfl (Or.inl rfl) aF (hl:=il (n:=4) rfl ac))<|bB (aO2 gX rfl (dD rfl Z.z4 (aC (fU (lZ 0<|pv 0) rfl Z.z0) aA)) (a02 2<|cL aC6.nd rfl (Or.inl rfl)) (bB (b32 (js:=[]) (N:=["_law_row",".acc"]) (cap:=[none,none]) (last:=1) (esc:=(aD cA8).names) (XN:=dD1) 3 rfl rfl af ac ac rfl (iN<|aL cV (l6 (lZ 0<|pv 0) iU<|fO<|eX 2<|pv 2)<|l6 (lZ 0<|pv 0) (fO<|aL cV (eX 2<|pv 2) aF) iU) (λ_ _ _ _ _ _=>(a02 0<|cL (show Nodup (["_law_row",".acc"]:List Str)by decide +kernel) rfl (Or.inl rfl))) (λ_ _ _ _ _ _=>fS) (λ_ _ _ _ _ _=>(l6 (lZ 0<|pv 0) (fO aF) iU)) (cL aC6.nd rfl (Or.inl rfl)) (il (n:=4) rfl ac))<|bE<|wI 1 aC6.nd rfl (Or.inl rfl) (aL cV (eX 1<|pv 1)<|aL cN (aL cN (aL bP aF<|aL cN aF<|aL gZ (eX 2<|pv 2) aF)<|a78 (u7<|a78 (lZ 0<|pv 0) (eX 2<|pv 2) λ_ _=>rfl) aF λ_ _=>rfl)<|aH1 cD1 hr (aE _) rfl (aC (eX 3<|pv 3) aA)) (hl:=il (n:=4) rfl ac)))<|bE<|kM 1<|pv 1)
theorem cZ1 (Z:Zs mg)(aG2:cC1 P w K mg base):DT P w K mg base c06 "_law_table" b92 1 bF7:=λhr=>
 (bQ 2 vB.nd (aL bP (fU (cG 0) rfl Z.z0) aF)<|bQ 3 vB.nd (cD fB rfl Z.z6 fE (aC (oE ["_law_k",".acc"] (aD b92).names c06 (dD rfl Z.z4 (aN 2 aA)) (λ_ _ _ _ _ _=>fS) λ_ _ _ _ _ _=>(cD cG0 rfl Z.z13 bX0 (aC (bV9 jI (aP 0) aF) aA))) aA))<|bQ 4 vB.nd (fA aA)<|bQ 5 vB.nd (cD fB rfl Z.z6 fE (aN 1 aA))<|bB (qC 6 vB.nd (dD rfl Z.z4 (aN 2 aA))<|bB (kE 4 (pv 4)<|aP 5)<|bE<|aS4 5 vB.nd<|dQ aG2 hr<|aN 0<|aN 3<|aN 5 aA)<|bE<|kM 4<|pv 4)
theorem cZ2 (Z:Zs mg):DT P w K mg base cS6 "_law_whole" c07 0 bC8:=λhr=>
 (fV<|pu_and (hV d36 rfl Z.z14 aH6 (aN 0<|aC (dR2 rfl Z.z13 bX0) aA))<|d27<|pu_not<|hV d36 rfl Z.z14 aH6 (aN 0<|aC (dR2 rfl Z.z15 dL1) aA))
theorem c19 (Z:Zs mg):DT P w K mg base aQ3 "_law_is_prime" a38 0 aB0:=λhr=>
 (fV<|hV (cG5 rfl) rfl Z.z10 cG6 (aC (oE ["_law_k","_law_m",".acc"] (aD a38).names aQ3 (xZ rfl Z.z4 (bF<|bF aA)) (λ_ _ _ _ _ _=>fS) λ_ _ _ _ _ _=>(pu_or (bV9 bA9 (aL gZ (aP 1)<|aP 0) aF)<|d27<|bV9 jI (aP 1)<|aP 0)) aA))
theorem cC9 (Z:Zs mg)(aR1:cC2 P w K mg base):DT P w K mg base b16 "_law_primes" aF5 1 aP9:=λhr=>
 (fV<|oE ["_law_m",".acc"] (aD aF5).names b16 (xZ rfl Z.z4 (bF<|bF aA)) (λ_ _ _ _ _ _=>(bV3<|cO0<|dQ aR1 hr<|aN 0 aA)) λ_ _ _ _ _ _=>(aP 0))
theorem c20 (Z:Zs mg)(c21:dD3 P w K mg base)(aG2:cC1 P w K mg base)(cD1:TF_det P w K mg base):DT P w K mg base qN "_law_measure" nZ 5 aB2:=λhr=>
 (bQ 1 jQ.nd (aL bP (fU (cG 0) rfl Z.z0) aF)<|bQ 2 jQ.nd (cD fB rfl Z.z6 fE (aC (oE ["_law_k",".acc"] (aD nZ).names qN (dD rfl Z.z4 (aN 1 aA)) (λ_ _ _ _ _ _=>fS) λ_ _ _ _ _ _=>(cD cG0 rfl Z.z13 bX0 (aC (bV9 jI (aP 0) aF) aA))) aA))<|bQ 3 jQ.nd (cD fB rfl Z.z6 fE (aC (oE ["_law_k",".acc"] (aD nZ).names qN (dD rfl Z.z4 (aN 1 aA)) (λ_ _ _ _ _ _=>fS) λ_ _ _ _ _ _=>(cD cG0 rfl Z.z13 bX0 (aC (bV9 jI (aP 0) aF) aA))) aA))<|bQ 4 jQ.nd (fA aA)<|bB (qC 5 jQ.nd (dD rfl Z.z4 (aC (aL bP (aL cN aF<|aP 1) aF) aA))<|bQ 6 jQ.nd (dQ c21 hr<|aN 0<|aN 3 aA)<|bB (kE 4 (pv 4)<|hV (d39 rfl) rfl Z.z11 d40 (aC (oE ["_law_i","_law_table_here",".acc"] (aD nZ).names qN (dD rfl Z.z4 (aN 1 aA)) (λ_ _ _ _ _ _=>fS) λ_ _ _ _ _ _=>(dY (u7<|dY (cG 1)<|aP 0)<|aP 0)) aA))<|bE<|aS4 3 jQ.nd<|dQ aG2 hr<|aN 0<|aN 2<|aN 3 aA)<|fV<|dQ cD1 hr<|aC (oE ["_law_i","_law_sums","_law_many",".acc"] (aD nZ).names qN (dD rfl Z.z4 (aN 1 aA)) (λ_ _ _ _ _ _=>fS) λ_ _ _ _ _ _=>(cD fB rfl Z.z6 fE (aC (l6 (cG 1) (fO<|aP 0)<|fO<|aL cV (aP 0)<|aP 2) aA))) aA)
theorem dO8 (Z:Zs mg)(cM6:dO7 P w K mg base)(aR2:cC3 P w K mg base)(c22:dD4 P w K mg base)(r8:cC0 P w K mg base)(aR0:cS9 P w K mg base)(yR:cM0 P w K mg base)(b23:cL7 P w K mg base):DT P w K mg base cS7 "law" aW7 12 c00:=λhr=>
 (bQ 1 b17.nd (dQ cM6 hr<|aN 0<|bF<|bF aA)<|bQ 2 b17.nd (dQ aR2 hr<|aC (uD<|aP 1) aA)<|oM (PUW.pt<|cF3 (cO2<|cO0<|dQ c22 hr<|aC (uD<|aP 1) aA)<|cO1<|kH bA9 (uD<|aP 1)<|aP 2) (fV cN9)<|bQ 3 b17.nd (dQ r8 hr<|aC (dQ aR0 hr<|aN 0<|bF aA)<|aC (fA<|bF<|bF aA)<|bF aA)<|bQ 4 b17.nd (aL cV (oE ["_law_q","_law_due",".acc"] (aD aW7).names cS7 (iN<|bB1 yR hr ac rfl) (λ_ _ _ _ _ _=>(bV3<|kH jI (aL gZ (aP 1)<|aP 0) aF)) λ_ _ _ _ _ _=>(aP 0))<|fA<|aC (dY (u7<|bB1 yR hr ac rfl)<|dY (cG 3) aF)<|aC (dY (u7<|bB1 yR hr ac rfl)<|dY (cG 3) aF) aA)<|bB (qC 5 b17.nd (iN<|aP 4)<|bE<|bK4 (kH bA9 (hV (cu_any rfl) rfl Z.z16 bt_any (aC (oE ["_law_found",".acc"] (aD aW7).names cS7 (iN<|dQ b23 hr<|aN 1<|aN 5 aA) (λ_ _ _ _ _ _=>fS) λ_ _ _ _ _ _=>(bV9 bO9 (dY (cG 0) aF) aF)) aA))<|bV9 jI (aL gZ (aP 2)<|aP 5) aF)<|fV cN9)<|fV cN9)
theorem cZ3 (Z:Zs mg){oA:Tok}(fN:mg "GREATEST_MEASURE"=some (.int 39999 oA)){qS:Addr}(lL:mg "TooGreat"=some (.ref qS))(qT:excIn K qS [.type "ValueError",.type "Exception",.type "BaseException",.type "object"] "ValueError.__new__"=true)(dP:mS P w K mg base)(aD4:c15 P w K mg base)(oB:FnX P w K mg base "need_together" v8 5 jE)(sH:FnX P w K mg base "need_whole" a67 9 lP){f:Addr}{cdv:Value}{A:Around}{outer:List Env}{s:Shared}{H:Hp}{E:XK}(hr:i5 9 (A.deeper<|envOfC "Ring.__init__" (aD aC7) s.heap.objs.size f cdv)) :
  PSs (u5 (CXr P w base) P w K mg base ["self","poly","size"] "Ring.__init__" (aD aC7) f cdv A outer s H E) (dZ aC7) (λD=>lSX K mg E bE7 {D with nx:=tS3 K "poly" "degree" "measure" bE8 bE9 bF0 D}):=
 (b81 (aS8<|bV4<|aH1 dP hr ac rfl (aC (eX 1<|pv 1) aA))<|b81 (cP2 oB hr ac dR4 rfl (aC (eX 1<|pv 1) aA))<|b81 (aS8<|wI 2 cS8.nd rfl (Or.inl rfl) (aH1 aD4 hr ac rfl (aC (eX 1<|pv 1) aA)) (hl:=il (n:=3) rfl ac))<|b81 (d70 (aR8 bO9 (hV bB0 rfl Z.z7 bC9 (aC (eX 2<|pv 2) aA)) (cO8 rfl fN)<|b99 _) (bC0<|d71 yU qT rfl lL rfl (aC pu_str aA) cI1 rfl) cI3)<|dK9 (cP2 sH hr ac dR4 rfl (aC (eX 1<|pv 1)<|aC (eX 2<|pv 2) aA))<|xX (cE5 (pv 0) (eX 1<|pv 1) rfl)<|xX (cE5 (pv 0) (aL bP (fU (lZ 1<|pv 1) rfl Z.z0) aF) rfl)<|bT6<|cE5 (pv 0) (eX 2<|pv 2) rfl)
end
theorem lC {P:List Value->Prop}{n:Nat}(h: ∀a us,us.length=n->P (a::us)): ∀us:List Value,us.length=n+1->P us:=λus=>us.casesOn (λe=>nomatch e) λa us e=>h a us (Nat.succ.inj e)
theorem lN0 {P:List Value->Prop}(h:P []): ∀us:List Value,us.length=0->P us:=λus=>us.casesOn (λ_=>h) λ_ _ e=>nomatch e
local macro_rules| `(tactic| walk_at "b0")=> `(tactic| exact λ_ _ _ _ _ _=>lN0 rfl)
theorem lN1 {P:List Value->Prop}(h: ∀a0,P [a0]): ∀us:List Value,us.length=1->P us:=lC λa0=>lN0 (h a0)
local macro_rules| `(tactic| walk_at "b1")=> `(tactic| exact λ_ _ _ _ _ _=>lN1 λ_=>rfl)
theorem lN2 {P:List Value->Prop}(h: ∀a0 a1,P [a0,a1]): ∀us:List Value,us.length=2->P us:=lC λa0=>lC λa1=>lN0 (h a0 a1)
local macro_rules| `(tactic| walk_at "b2")=> `(tactic| exact λ_ _ _ _ _ _=>lN2 λ_ _=>rfl)
theorem lN3 {P:List Value->Prop}(h: ∀a0 a1 a2,P [a0,a1,a2]): ∀us:List Value,us.length=3->P us:=lC λa0=>lC λa1=>lC λa2=>lN0 (h a0 a1 a2)
local macro_rules| `(tactic| walk_at "b3")=> `(tactic| exact λ_ _ _ _ _ _=>lN3 λ_ _ _=>rfl)
theorem lN6 {P:List Value->Prop}(h: ∀a0 a1 a2 a3 a4 a5,P [a0,a1,a2,a3,a4,a5]): ∀us:List Value,us.length=6->P us:=lC λa0=>lC λa1=>lC λa2=>lC λa3=>lC λa4=>lC λa5=>lN0 (h a0 a1 a2 a3 a4 a5)
local macro_rules| `(tactic| walk_at "b6")=> `(tactic| exact λ_ _ _ _ _ _=>lN6 λ_ _ _ _ _ _=>rfl)
local macro_rules| `(tactic| walk_at "n")=> `(tactic| (intro _ _ h;repeat (first| (obtain⟨e,_⟩:=h;subst e;rfl)|obtain⟨_,h⟩:=h)))
structure FD where
 oc:Value
 od:Option Addr
 kV:Value
 dc:Value
 pm:Value
 an:Option Addr
 cd:Value
 ct:Value
 sl:Array (Option Value)
abbrev fQ (K:Frag)(x y:Str)(s:Stmt)(f:Addr):Prop:= ∃d:FD,nsIn K mainGlobals y=some (some<|.ref f)/\K.lookup f=some ⟨d.oc,d.od,.func<|fnOf x x (kA s) (dZ s) (aD s) .none d.kV d.dc d.pm d.an d.cd d.ct,d.sl⟩/\codeIn K d.cd x=true/\keepIn K (.ref f)=true
theorem fnAt {K:Frag}{x y:Str}{s:Stmt}{f:Addr}{oc:Value}{od:Option Addr}{kV dc pm:Value}{an:Option Addr}{cd ct:Value}{sl:Array (Option Value)}(a:nsIn K mainGlobals y=some (some<|.ref f))(b:K.lookup f=some ⟨oc,od,.func<|fnOf x x (kA s) (dZ s) (aD s) .none kV dc pm an cd ct,sl⟩)(c:codeIn K cd x=true)(k:keepIn K (.ref f)=true):fQ K x y s f:=⟨⟨oc,od,kV,dc,pm,an,cd,ct,sl⟩,a,b,c,k⟩
theorem dD8 {K:Frag}{x y:Str}{s:Stmt}{f:Addr}(p:fQ K x y s f): ∃fd,Fun K x x s f fd/\nsIn K mainGlobals y=some (some<|.ref f):=let ⟨_,a,b,c,k⟩:=p;⟨_,aX8 b c k,a⟩
section
variable {P:Program}{w:World}{K:Frag}{mg:Str->Option Value}{base h:Heap}(X:K.In h)(G:h.Ns mainGlobals mg){x y:Str}{st:Stmt}{f:Addr}{N ps:List Str}{k:Nat}(p:fQ K x y st f)(b: ∀(kV doc pm:Value) (an:Option Addr) (cdv ct:Value) (us:List Value),us.length=ps.length->bindArgs (fnOf x x (kA st) (dZ st) (aD st) .none kV doc pm an cdv ct) ⟨us,[]⟩=pure (ps.zip us))(S:aW N ps (aD st))
include X G p b S
theorem fn_b {φ:Φ}(len: ∀ds Q,φ ds Q->ds.length=ps.length){t:US}(der: ∀(cdv:Value) (A:Around) (outer:List Env) (s:Shared) (H:Hp) (E:XK),i5 k (A.deeper<|envOfC x (aD st) s.heap.objs.size f cdv)->rV (u5 CX0 P w K mg base N x (aD st) f cdv A outer s H E).nox (dZ st) t)(rd: ∀ds Q,φ ds Q->t {nx:=λ_=>Q (.pu .non),rt:=Q} (init N ds)):Fn P w K mg base y ps (k+1) φ:=
 let ⟨_,U,m⟩:=dD8 p
 Fn.mkA U (cT X G m) (U.binds b) S len der rd
theorem fnX_b {φ:ΦX}(q:x=y)(len: ∀ds Q Ex,φ ds Q Ex->ds.length=ps.length){t:USX}(der: ∀(cdv:Value) (A:Around) (outer:List Env) (s:Shared) (H:Hp) (E:XK),i5 k (A.deeper<|envOfC x (aD st) s.heap.objs.size f cdv)->a56 (u5 (CXr P w base) P w K mg base N x (aD st) f cdv A outer s H E) E (dZ st) t)(rd: ∀ds Q Ex,φ ds Q Ex->t Ex {nx:=λ_=>Q (.pu .non),rt:=Q} (init N ds)):FnX P w K mg base y ps (k+1) φ:=
 let ⟨_,U,m⟩:=dD8 p
 q▸FnX.mk' U (cT X G<|q▸m) (U.binds b) S len der rd
end
theorem all_mk {l:PySem.W.OpenLaw}{w:World}{K:Frag}{h:Heap}{mg:Str->Option Value}{fa f1 f2 f3 f4 f5 f6 f7 f8 f9 f10 f11 f12 f13 f14 f15 f16 f17 f18 f19 f20 f21 f22 f23 f24 f25 f26 f27 f28 f29 f30 f31 f32 f33 f34 f35 f36 f37 f38 f39 f40 f41 f42 f43 f44 f45 f46 f47 f48 f49 f50 f51 f52 f53 f54 f55 f56 f57 f58 f59 i9 jR aX4 fH hG qS iA qU jO:Addr}(X:K.In h)(G:h.Ns mainGlobals mg)(hfa:mg "law"=some (.ref fa))
  {bN3 bN4 cD2 cD3 dO9 dP0 b68:Option Addr} {bN5 cD4 dP1 b69:Array (Option Value)} {bN6 bN7 bN8 aJ5 bN9 cD5 cD6 cD7 b48 cD8 dP2 dP3 dP4 cT0 dP5 dP6:Value} {sY a52 bJ6:ClassData} {qO oA:Tok} {b24:Array Value} {n_SMALL_PRIMES:Nat}
  (P1:fQ K "cut" "cut" c01 f1)
  (P2:fQ K "padded" "padded" aQ0 f2)
  (P3:fQ K "poly_parted" "poly_parted" sG f3)
  (P4:fQ K "poly_at" "poly_at" aB3 f4)
  (P5:fQ K "det" "det" b91 f5)
  (P6:fQ K "without" "without" vY f6)
  (P7:fQ K "number_of" "number_of" wZ f7)
  (P8:fQ K "t_times" "t_times" vZ f8)
  (P9:fQ K "table_of" "table_of" a28 f9)
  (P10:fQ K "norm" "norm" bG3 f10)
  (P11:fQ K "shared" "shared" aQ1 f11)
  (P12:fQ K "shared_by" "shared_by" xA f12)
  (P13:fQ K "root" "root" bG5 f13)
  (P14:fQ K "small_primes" "small_primes" qK f14)
  (P15:fQ K "stair" "stair" aF2 f15)
  (P16:fQ K "taken_in" "taken_in" a29 f16)
  (P17:fQ K "mixed" "mixed" aF3 f17)
  (P18:fQ K "rest" "rest" aV9 f18)
  (P19:fQ K "made" "made" bG9 f19)
  (P20:fQ K "mod_poly" "mod_poly" sV f20)
  (P21:fQ K "mod_parted" "mod_parted" v3 f21)
  (P22:fQ K "scaled" "scaled" a31 f22)
  (P23:fQ K "inverse_of" "inverse_of" v4 f23)
  (P24:fQ K "split_by" "split_by" a32 f24)
  (P25:fQ K "lines_out" "lines_out" xB f25)
  (P26:fQ K "rootless_parts" "rootless_parts" kB f26)
  (P27:fQ K "two_by_two" "two_by_two_split" lB f27)
  (P28:fQ K "above" "above" aF4 f28)
  (P29:fQ K "prime_of" "prime_of" a33 f29)
  (P30:fQ K "at_root" "at_root" aC1 f30)
  (P31:fQ K "is_ring_poly" "is_ring_poly" lQ f31)
  (P32:fQ K "need_ring_poly" "need_ring_poly" nY f32)
  (P33:fQ K "apart" "apart" b14 f33)
  (P34:fQ K "dividers" "dividers" a34 f34)
  (P35:fQ K "line_and_rest" "line_and_rest" oR f35)
  (P36:fQ K "two_by_two" "two_by_two_apart" lD f36)
  (P37:fQ K "two_with" "two_with" a35 f37)
  (P38:fQ K "measure" "measure" wB f38)
  (P39:fQ K "root_sums" "root_sums" qZ f39)
  (P40:fQ K "papers_of" "papers_of" r6 f40)
  (P41:fQ K "parts_at" "parts_at" sW f41)
  (P42:fQ K "outside_of" "outside_of" oS f42)
  (P43:fQ K "need_together" "need_together" iX f43)
  (P44:fQ K "need_whole" "need_whole" jL f44)
  (P45:fQ K "_law_cell" "_law_cell" cK9 f45)
  (P46:fQ K "_law_mixed" "_law_mixed" c02 f46)
  (P47:fQ K "_law_draws" "_law_draws" c03 f47)
  (P48:fQ K "_law_shifted" "_law_shifted" b15 f48)
  (P49:fQ K "_law_poly" "_law_poly" c04 f49)
  (P50:fQ K "_law_known_ring" "_law_known_ring" a37 f50)
  (P51:fQ K "_law_ring" "_law_ring" cL1 f51)
  (P52:fQ K "_law_times" "_law_times" c05 f52)
  (P53:fQ K "_law_det" "_law_det" cA8 f53)
  (P54:fQ K "_law_table" "_law_table" b92 f54)
  (P55:fQ K "_law_whole" "_law_whole" c07 f55)
  (P56:fQ K "_law_is_prime" "_law_is_prime" a38 f56)
  (P57:fQ K "_law_primes" "_law_primes" aF5 f57)
  (P58:fQ K "_law_measure" "_law_measure" nZ f58)
  (P59:fQ K "law" "law" aW7 f59)
  (iY:nsIn K mainGlobals "FallsApart"=some (some<|.ref fH))
  (lJ:nsIn K mainGlobals "NotWhole"=some (some<|.ref hG))
  (lL:nsIn K mainGlobals "TooGreat"=some (some<|.ref qS))
  (lK:nsIn K mainGlobals "RingError"=some (some<|.ref iA))
  (bJ7:nsIn K mainGlobals "Ring"=some (some<|.ref qU))
  (aJ6:findIn K (.ref fH) "__init__"=some (some<|.ref i9))
  (b49:findIn K (.ref hG) "__init__"=some (some<|.ref jR))
  (c23:findIn K (.ref qU) "__init__"=some (some<|.ref aX4))
  (a53:K.lookup i9=some ⟨.type "function",bN3,.func<|fnOf "__init__" "FallsApart.__init__" (kA oV) (dZ oV) (aD oV) .none bN6 bN7 bN8 bN4 aJ5 bN9,bN5⟩)
  (aR3:K.lookup jR=some ⟨.type "function",cD2,.func<|fnOf "__init__" "NotWhole.__init__" (kA vC) (dZ vC) (aD vC) .none cD5 cD6 cD7 cD3 b48 cD8,cD4⟩)
  (cM7:K.lookup aX4=some ⟨dP6,dO9,.func<|fnOf "__init__" "Ring.__init__" (kA aC7) (dZ aC7) (aD aC7) .none dP2 dP3 dP4 dP0 cT0 dP5,dP1⟩)
  (xP:codeIn K aJ5 "FallsApart.__init__"=true)
  (xQ:keepIn K (.ref i9)=true)
  (aD5:codeIn K b48 "NotWhole.__init__"=true)
  (aD6:keepIn K (.ref jR)=true)
  (c24:codeIn K cT0 "Ring.__init__"=true)
  (c25:keepIn K (.ref aX4)=true)
  (lY:aH5 K fH i9 [.type "ValueError",.type "Exception",.type "BaseException",.type "object"] "ValueError.__new__"=true)
  (qQ:aH5 K hG jR [.type "ValueError",.type "Exception",.type "BaseException",.type "object"] "ValueError.__new__"=true)
  (qT:excIn K qS [.type "ValueError",.type "Exception",.type "BaseException",.type "object"] "ValueError.__new__"=true)
  (rS:excIn K iA [.type "ValueError",.type "Exception",.type "BaseException",.type "object"] "ValueError.__new__"=true)
  (rA:clsIn K fH=some sY)
  (wF:clsIn K hG=some a52)
  (aD7:clsIn K qS=some bJ6)
  (jP:(sY).mro.contains (.ref iA)=true)
  (kK:(bJ6).mro.contains (.ref iA)=true)
  (kL:(a52).mro.contains (.ref iA)=true)
  (xR:uB (sY).mro=true)
  (xS:(sY).hasDict=true)
  (xT:findIn K (.ref fH) "__setattr__"=some (some<|.builtin "object.__setattr__"))
  (xU:findIn K (.ref fH) "left"=some none)
  (xV:findIn K (.ref fH) "right"=some none)
  (aD8:uB (a52).mro=true)
  (aD9:(a52).hasDict=true)
  (aE0:findIn K (.ref hG) "__setattr__"=some (some<|.builtin "object.__setattr__"))
  (aE1:findIn K (.ref hG) "prime"=some none)
  (aE2:findIn K (.ref hG) "number"=some none)
  (mk_Ring:makesIn K qU=true)
  (fn_Ring:PySem.W.isFn K (.ref aX4)=true)
  (kc_Ring:keepIn K (.ref qU)=true)
  (pg_Ring:plainGet K qU Str.empty=true)
  (c26:hasDictIn K qU=true)
  (po_Ring:plainOver K qU=true)
  (c27:findIn K (.ref qU) "__setattr__"=some (some<|.builtin "object.__setattr__"))
  (c28:findIn K (.ref qU) "poly"=some none)
  (b25:findIn K (.ref qU) "degree"=some none)
  (aR4:findIn K (.ref qU) "measure"=some none)
  (dD9:nsIn K mainGlobals "len"=some none)
  (dE0:nsIn K mainGlobals "max"=some none)
  (cM8:nsIn K mainGlobals "list"=some none)
  (aR5:nsIn K mainGlobals "reversed"=some none)
  (c29:nsIn K mainGlobals "range"=some none)
  (aE3:nsIn K mainGlobals "enumerate"=some none)
  (c30:nsIn K mainGlobals "tuple"=some none)
  (dE1:nsIn K mainGlobals "abs"=some none)
  (dE2:nsIn K mainGlobals "zip"=some none)
  (bJ8:nsIn K mainGlobals "sorted"=some none)
  (dE3:nsIn K mainGlobals "all"=some none)
  (dE4:nsIn K mainGlobals "sum"=some none)
  (dE5:nsIn K mainGlobals "min"=some none)
  (dE6:nsIn K mainGlobals "int"=some none)
  (a54:nsIn K mainGlobals "isinstance"=some none)
  (cM9:nsIn K mainGlobals "bool"=some none)
  (dE7:nsIn K mainGlobals "any"=some none)
  (gQ:nsIn K mainGlobals "GREATEST_PLACE"=some (some<|.int 499 qO))
  (fN:nsIn K mainGlobals "GREATEST_MEASURE"=some (some<|.int 39999 oA))
  (iM:nsIn K mainGlobals "SMALL_PRIMES"=some (some<|.ref jO))
  (sI:K.lookup jO=some ⟨.type "tuple",b68,.seq b24 n_SMALL_PRIMES,b69⟩)
  (sJ:b24.size<=sizeLine)
  (sK:Vals (T_SMALL_PRIMES.map V.int) b24.toList) :
  ∃fd:FuncData,(∀(s:Shared) (v:Value),BindsTo s fd ⟨[v],[]⟩ [("_law_script",v)])/\ ∀base:Heap,K.In base->base.Ns mainGlobals mg->sQ l.prog w K mg base CX0 13 fa fd ["_law_script"] (spP K bP0):=by
 have h5:=P5.choose_spec;have h53:=P53.choose_spec;have h59:=P59.choose_spec;have e:=hfa.symm.trans (cT X G h59.1);cases e;have Z:Zs mg:=⟨eC X G dD9,eC X G dE0,eC X G cM8,eC X G aR5,eC X G c29,eC X G aE3,eC X G c30,eC X G dE1,eC X G dE2,eC X G bJ8,eC X G dE3,eC X G dE4,eC X G dE5,eC X G dE6,eC X G a54,eC X G cM9,eC X G dE7⟩;have gQ:=cT X G gQ;have fN:=cT X G fN;have iM:=cT X G iM
 have vD:KT K jO (T_SMALL_PRIMES.map V.int):=kt_of sI sJ sK;have iY:=cT X G iY;have lJ:=cT X G lJ;have lL:=cT X G lL;have lK:=cT X G lK;have bJ7:=cT X G bJ7;have a50:c63 K fH i9 _ "left" "right":=cP3 (st:=oV) (x0:="self") (x1:="left") (x2:="right") a53 xP xQ rfl bM1 rfl rfl rfl ac ac ac (λ_ _ _ _ _ _=>lN3 λ_ _ _=>rfl) rA xR xS xT xU xV
 have aQ9:c63 K hG jR _ "prime" "number":=cP3 (st:=vC) (x0:="self") (x1:="prime") (x2:="number") aR3 aD5 aD6 rfl cB4 rfl rfl rfl ac ac ac (λ_ _ _ _ _ _=>lN3 λ_ _ _=>rfl) wF aD8 aD9 aE0 aE1 aE2
 have qR: ∀n∈(["FallsApart","TooGreat","NotWhole"]:List Str),∀C,mg n=some (.ref C)->aY7 K iA C [.type "ValueError",.type "Exception",.type "BaseException",.type "object"] "ValueError.__new__":=by
  intro n hn C hm;simp only[aX,eT,eU]at hn;rcases hn with rfl|rfl|rfl
  ·(have e:=hm.symm.trans iY;cases e;exact aY8 (.inr ⟨_,lY⟩) rA jP)
  ·(have e:=hm.symm.trans lL;cases e;exact aY8 (.inl qT) aD7 kK)
  ·(have e:=hm.symm.trans lJ;cases e;exact aY8 (.inr ⟨_,qQ⟩) wF kL)
 have U5:=aX8 (st:=b91) h5.2.1 h5.2.2.1 h5.2.2.2;have U53:=aX8 (st:=cA8) h53.2.1 h53.2.2.1 h53.2.2.2;have U59:=aX8 (st:=aW7) h59.2.1 h59.2.2.1 h59.2.2.2;have UR:=aX8 (st:=aC7) cM7 c24 c25;refine⟨fnOf "law" "law" (kA aW7) (dZ aW7) (aD aW7) .none P59.choose.kV P59.choose.dc P59.choose.pm P59.choose.an P59.choose.cd P59.choose.ct,λs v=> .of_eq rfl,λbase _ _=> ?_⟩
 have mB:= @fn_b l.prog w K mg base h X G;have mX:= @fnX_b l.prog w K mg base h X G;have a44:=mB P1 (by walk_at "b1") bH4 ag (λ_ _ _ _ _ _ hr=>cY7 Z hr) d86
 have kC:=mB P2 ah cB1 ag (λ_ _ _ _ _ _ hr=>c16 Z hr) c81
 have cB:=mB P3 ah eM ag (λ_ _ _ _ _ _ hr=>aX2 Z a44 hr) aZ3
 have oH:=mB P4 ah sX ag (λ_ _ _ _ _ _ hr=>bM7 Z hr) bY0
 have oG:=mB P6 ah c08 ag (λ_ _ _ _ _ _ hr=>bM8 Z hr) bX2
 have cZ4:Fn l.prog w K mg base "det" jK 1 (gD 0):=Fn.void U5 (cT X G h5.1) (U5.binds (ps:=jK)<|by walk_at "b1") cI4
 have cZ5:Fn l.prog w K mg base "det" jK 2 (gD 1):=Fn.mk' U5 (cT X G h5.1) (U5.binds (ps:=jK)<|by walk_at "b1") oU (aE7 _) (λcdv A outer s H E hr=>aF8 Z ac cZ4 oG hr) (aT4 0 ac)
 have cZ6:Fn l.prog w K mg base "det" jK 3 (gD 2):=Fn.mk' U5 (cT X G h5.1) (U5.binds (ps:=jK)<|by walk_at "b1") oU (aE7 _) (λcdv A outer s H E hr=>aF8 Z ac cZ5 oG hr) (aT4 1 ac)
 have cZ7:Fn l.prog w K mg base "det" jK 4 (gD 3):=Fn.mk' U5 (cT X G h5.1) (U5.binds (ps:=jK)<|by walk_at "b1") oU (aE7 _) (λcdv A outer s H E hr=>aF8 Z ac cZ6 oG hr) (aT4 2 ac)
 have cZ8:Fn l.prog w K mg base "det" jK 5 (gD 4):=Fn.mk' U5 (cT X G h5.1) (U5.binds (ps:=jK)<|by walk_at "b1") oU (aE7 _) (λcdv A outer s H E hr=>aF8 Z ac cZ7 oG hr) (aT4 3 ac)
 have wE:=cZ8;have xM:=mB P7 ah bH5 ag (λ_ _ _ _ _ _ hr=>b63 Z kC hr) bF5
 have aD2:=mB P8 ah a39 ag (λ_ _ _ _ _ _ hr=>bM9 Z hr) bY5
 have lU:=mB P9 ah xE ag (λ_ _ _ _ _ _ hr=>bI3 Z aD2 hr) bL2
 have bJ3:=mB P10 ah cY2 ag (λ_ _ _ _ _ _ hr=>cM1 Z wE lU hr) cX3
 have aQ8:=mB P11 ah aC5 ag (λ_ _ _ _ _ _ hr=>c17 Z hr) c96
 have xK:=mB P12 ah iK ag (λ_ _ _ _ _ _ hr=>b64 Z hr) bF9
 have bJ5:=mB P13 (by walk_at "b1") yN ag (λ_ _ _ _ _ _ hr=>cM2 Z hr) cW7
 have iC:=mB P14 (by walk_at "b0") aW8 ag (λ_ _ _ _ _ _ hr=>aQ6 Z iM vD hr) aU0
 have aF9:=mB P17 (by walk_at "b6") cL2 ag (λ_ _ _ _ _ _ hr=>cC5 Z hr) cJ7
 have a45:=mB P16 (by walk_at "b3") gT ag (λ_ _ _ _ _ _ hr=>bI4 Z xK aF9 hr) bL6
 have bJ2:=mB P18 ah yO ag (λ_ _ _ _ _ _ hr=>cM3 Z hr) cX5
 have b21:=mB P15 (by walk_at "b3") o7 ag (λ_ _ _ _ _ _ hr=>cC4 Z a45 bJ2 hr) cJ9
 have bJ4:=mB P19 ah yP ag (λ_ _ _ _ _ _ hr=>cM4 Z aQ8 bJ3 lU b21 hr) cX7
 have fZ:=mB P20 ah bL8 ag (λ_ _ _ _ _ _ hr=>bI5 Z a44 hr) bK6
 have vE:=mB P23 ah n6 ag (λ_ _ _ _ _ _ hr=>b19 Z hr) b55
 have a46:=mB P22 (by walk_at "b3") cB2 ag (λ_ _ _ _ _ _ hr=>c18 Z fZ hr) c72
 have vF:=mB P21 (by walk_at "b3") kD ag (λ_ _ _ _ _ _ hr=>b18 Z fZ vE cB a46 hr) b56
 have xL:=mB P25 ah iL ag (λ_ _ _ _ _ _ hr=>b65 Z oH vF hr) bE3
 have lF:=mB P27 ah eW ag (λ_ _ _ _ _ _ hr=>a42 Z hr) a73
 have o9:=mB P26 ah sP ag (λ_ _ _ _ _ _ hr=>aC9 Z lF hr) aG6
 have lW:=mB P24 ah xF ag (λ_ _ _ _ _ _ hr=>bI6 Z iC xL fZ o9 hr) bK7
 have aD3:=mB P30 ah c09 ag (λ_ _ _ _ _ _ hr=>bN0 Z kC cB hr) bZ5
 have a47:=mB P29 (by walk_at "b3") bL9 ag (λ_ _ _ _ _ _ hr=>bI7 Z bJ4 xM aD3 hr) bL7
 have b23:=mB P28 ah cL3 ag (λ_ _ _ _ _ _ hr=>cC6 Z lW a47 hr) cK3
 have qP:=mB P31 (by walk_at "b1") aW9 ag (λ_ _ _ _ _ _ hr=>aQ7 Z gQ hr) aT5
 have dP:=mB P32 (by walk_at "b1") aG8 ag (λ_ _ _ _ _ _ hr=>aD0 Z qP hr) aG5
 have lX:=mB P34 (by walk_at "b1") xG ag (λ_ _ _ _ _ _ hr=>bI8 Z hr) bL0
 have oW:=mB P35 (by walk_at "b1") o8 ag (λ_ _ _ _ _ _ hr=>aH0 Z lX oH cB hr) aO8
 have a48:=mB P37 ah xH ag (λ_ _ _ _ _ _ hr=>bI9 Z bJ5 hr) bL1
 have lH:=mB P36 (by walk_at "b1") gG ag (λ_ _ _ _ _ _ hr=>a43 Z lX a48 hr) a70
 have b22:=mB P33 (by walk_at "b1") aQ4 ag (λ_ _ _ _ _ _ hr=>cC7 Z dP oW lH hr) cJ1
 have xN:=mB P39 ah jM ag (λ_ _ _ _ _ _ hr=>b66 Z hr) bD2
 have aD4:=mB P38 (by walk_at "b1") a40 ag (λ_ _ _ _ _ _ hr=>bN1 Z dP xN wE hr) bX3
 have a49:=mB P41 ah bM0 ag (λ_ _ _ _ _ _ hr=>bJ0 Z lW cB hr) bK8
 have xO:=mB P40 ah bH6 ag (λ_ _ _ _ _ _ hr=>b67 Z iC a49 hr) bE5
 have vG:=mB P42 ah iP ag (λ_ _ _ _ _ _ hr=>b20 Z cB hr) b58
 have oB:=mX P43 (by walk_at "b1") vA rfl aA2 (λ_ _ _ _ _ _ hr=>aD1 Z iY lY a50 b22 hr) aG7
 have sH:=mX P44 ah nA rfl aU2 (λ_ _ _ _ _ _ hr=>aX3 Z lJ qQ aQ9 vG xO kC hr) b01
 have aR0:=mB P45 ah dO5 ag (λ_ _ _ _ _ _ hr=>dD5 Z hr) dL0
 have aG0:=mB P46 (by walk_at "b3") bH7 ag (λ_ _ _ _ _ _ hr=>cY8 Z hr) d77
 have r8:=mB P47 (by walk_at "b3") yQ ag (λ_ _ _ _ _ _ hr=>cY9 Z aG0 hr) d78
 have aG1:=mB P48 ah a41 ag (λ_ _ _ _ _ _ hr=>cC8 Z hr) cJ3
 have cM5:=mB P49 ah aF6 ag (λ_ _ _ _ _ _ hr=>dD6 Z r8 aG1 hr) dN1
 have a51:=mB P50 (by walk_at "b1") xI ag (λ_ _ _ _ _ _ hr=>bJ1 Z aG0 hr) bL5
 have okR:OkC K qU ["poly","degree","measure"]:=⟨⟨pg_Ring,c26,po_Ring,c27⟩,λf hf=>by
  simp only[aX,eT,eU]at hf;rcases hf with rfl|rfl|rfl
  ·exact c28
  ·exact b25
  ·exact aR4⟩
 have fR:=d76 UR cS8 okR ac ac ac cW9 ac (λcdv A outer s H E hr=>cZ3 Z fN lL qT dP aD4 oB sH hr) dA1
 have bR:=UR.binds (ps:=["self","poly"]) λ_ _ _ _ _ _ us hl=>match us,hl with| [_,_],_=>rfl
 have b94:MkX l.prog w K mg base "Ring" 10 ["poly","degree","measure"] yE:=⟨qU,aX4,_,["self","poly"],Mk.mk mk_Ring c23 fn_Ring kc_Ring,okR,fR,bR,bJ7⟩;have cM6:=mB P51 (by walk_at "b3") aF7 ag (λ_ _ _ _ _ _ hr=>dD7 Z lK rS qR b94 cM5 aR0 a51 hr) dM9
 have aG2:=mB P52 (by walk_at "b3") rR ag (λ_ _ _ _ _ _ hr=>cZ0 Z hr) dA6
 have dP7:Fn l.prog w K mg base "_law_det" qM 1 (mQ 0):=Fn.void U53 (cT X G h53.1) (U53.binds (ps:=qM)<|by walk_at "b1") dB6
 have dP8:Fn l.prog w K mg base "_law_det" qM 2 (mQ 1):=Fn.mk' U53 (cT X G h53.1) (U53.binds (ps:=qM)<|by walk_at "b1") aC6 (b87 _) (λcdv A outer s H E hr=>b93 Z ac dP7 hr) (bZ2 0 ac)
 have dP9:Fn l.prog w K mg base "_law_det" qM 3 (mQ 2):=Fn.mk' U53 (cT X G h53.1) (U53.binds (ps:=qM)<|by walk_at "b1") aC6 (b87 _) (λcdv A outer s H E hr=>b93 Z ac dP8 hr) (bZ2 1 ac)
 have dQ0:Fn l.prog w K mg base "_law_det" qM 4 (mQ 3):=Fn.mk' U53 (cT X G h53.1) (U53.binds (ps:=qM)<|by walk_at "b1") aC6 (b87 _) (λcdv A outer s H E hr=>b93 Z ac dP9 hr) (bZ2 2 ac)
 have dQ1:Fn l.prog w K mg base "_law_det" qM 5 (mQ 4):=Fn.mk' U53 (cT X G h53.1) (U53.binds (ps:=qM)<|by walk_at "b1") aC6 (b87 _) (λcdv A outer s H E hr=>b93 Z ac dQ0 hr) (bZ2 3 ac)
 have cD1:=dQ1;have c21:=mB P54 ah vB ag (λ_ _ _ _ _ _ hr=>cZ1 Z aG2 hr) dB5
 have c22:=mB P55 (by walk_at "b1") dD2 ag (λ_ _ _ _ _ _ hr=>cZ2 Z hr) d80
 have aR1:=mB P56 (by walk_at "b1") cB3 ag (λ_ _ _ _ _ _ hr=>c19 Z hr) c98
 have yR:=mB P57 (by walk_at "b0") cL4 ag (λ_ _ _ _ _ _ hr=>cC9 Z aR1 hr) cK4
 have aR2:=mB P58 (by walk_at "b1") jQ ag (λ_ _ _ _ _ _ hr=>c20 Z c21 aG2 cD1 hr) cA0
 exact bV1 U59 b17 dL2 (λcdv A outer s H E hr=>⟨c00,dO8 Z cM6 aR2 c22 r8 aR0 yR b23 hr,rd_law⟩)
end M
open PySem PySem.W PyProof.Rows
local macro_rules| `(tactic| walk_at "f")=> `(tactic| (refine' M.fnAt ?x1 ?x2 ?x3 ?x4;(case x1=>k_is);(case x2=>k_is);(case x3=>k_is);(case x4=>k_is)))
namespace PySem.W.Fast
def tw10289613882184980536:=()
def tw6267253039825471234:=()
def tw6760216959337211863:=()
def tw3490799347610626887:=()
def tw8866863230007369713:=()
def tw18275568747808955303:=()
def tw14484820442147291037:=()
def tw16970467291715446663:=()
def tw11171202091558829336:=()
def tw8780909573362835609:=()
def tw2909549650524098964:=()
def tw14027211934766238333:=()
def tw10061033302973837341:=()
def tw12215485410929107834:=()
def tw14941773560952470834:=()
def tw4767940701118747615:=()
def tw12892130130043775886:=()
def tw10605435964261630710:=()
def tw1624701868195611599:=()
def tw17192262074926846662:=()
def tw3463719786193623182:=()
def tw3001706748025108962:=()
def tw17962679979517964464:=()
def tw14166550155534455606:=()
def tw16663484046721839934:=()
def tw11814483891860479027:=()
def tw17312551867104499481:=()
def tw18332738079281860237:=()
def tw6996106818578885128:=()
def tw15092879301606823752:=()
def tw7445186320905469727:=()
def tw5863858113283971107:=()
def tw6696154919411787790:=()
def tw11747266034981090065:=()
def tw12464244888178888216:=()
def tw4682556526868134541:=()
def tw2877544819115063781:=()
def tw15980239573450129088:=()
def tw17276351299722150302:=()
def tw11324826587920328015:=()
def tw2296443727332460819:=()
def tw10139092179721600917:=()
def tw17701386111342529633:=()
def tw6603287820683142208:=()
def tw14311802125505455038:=()
def tw14061207370432710998:=()
def tw14912501237325724101:=()
def tw14907088326241031861:=()
def tw17454971358657802794:=()
def tw8186119592255562168:=()
def tw8183465055058519078:=()
def tw10639098573521279331:=()
def tw13476962103969670513:=()
def tw9692970930743063087:=()
def tw1725562097452274946:=()
def tw7910392518965602351:=()
def tw3819215888990157004:=()
def tw11560081451910604013:=()
def tw9622553488282783747:=()
def tw7997022690829976626:=()
def tw10858541073037264674:=()
def tw632554125564060284:=()
def tw12210585362841989441:=()
def tw13273466846250212014:=()
def tw8704216860979730324:=()
def tw5534619146405256510:=()
def tw9916802790255422382:=()
def tw5117144515057015511:=()
def tw11614294720553257266:=()
def tw8590252865180186358:=()
def tw10689309970490004252:=()
def tw12652524658684845724:=()
def tw12180296614751419307:=()
def tw14845334050634336616:=()
def tw6996197776080189611:=()
def tw10277194402882344810:=()
def tw9251200769058649713:=()
def tw12162530955660924260:=()
def tw10584709220158546741:=()
def tw922216516210906509:=()
def tw15422108815194853012:=()
def tw4173499047416830758:=()
def tw16964155420405559430:=()
def tw1458195412902099723:=()
def tw2741101722090772887:=()
def tw11165989721861021986:=()
def tw13449833026931048805:=()
def tw13434920426740660416:=()
def tw14327654310121007857:=()
def tw14354165078336202015:=()
def tw2786625035076592834:=()
def tw5262235362284624779:=()
def tw15719842860339702423:=()
def tw7710259088473635093:=()
def tw277113094640750120:=()
def tw2747415963813529227:=()
def tw17628577124540547243:=()
def tw12167428597558938878:=()
def tw14014406985725656713:=()
def tw17707866236061229392:=()
def tw15773006120451845700:=()
def tw6426016913038275312:=()
def tw16133790015683370047:=()
def tw4861587123410609009:=()
def tw16229633817168563330:=()
def tw7120077833161979046:=()
def tw7947140059079799601:=()
def tw10409288536113912867:=()
def tw7053501112107477492:=()
def tw2759933534886224186:=()
def tw3567278858130500785:=()
def tw1981795002376543153:=()
def tw7597080338133123757:=()
def tw10224119428911691928:=()
def tw647568314180013735:=()
def tw16483988631512949870:=()
def tw12751325257643313462:=()
def tw17116958764018377862:=()
def tw4146853902091702150:=()
def tw12962630339914751937:=()
def tw17619980416677417029:=()
def tw2638940421948375194:=()
def tw10915335786559235279:=()
def tw8702899348352567052:=()
def tw13462145611800205818:=()
def tw8531860778809788588:=()
def tw11944755242303723326:=()
def tw16275726261606964670:=()
def tw16940492546798784765:=()
def tw8696195869902946909:=()
def tw11380798757818884232:=()
def tw9835266629013870191:=()
def tw13103471127097879618:=()
def tw7304098856682746841:=()
def tw16817028021798180574:=()
def tw3139995142259474403:=()
def tw4786193452552735317:=()
def tw11411532000621897116:=()
def tw488289847368384685:=()
def tw5419629041201562045:=()
def tw3289382325567249333:=()
def tw1090375616442122091:=()
def tw11553382571827962034:=()
def tw13797040172635016281:=()
def tw3857240332715974475:=()
def tw9934653875602879256:=()
def tw8837393831236758456:=()
def tw5262052001312414056:=()
def tw11153412966935312425:=()
def tw48082596491025009:=()
def tw1428427343287709684:=()
def tw5821146364135694946:=()
def tw12519309093285900893:=()
def tw13259726899873533259:=()
def tw6910380185705027910:=()
def tw15947778608778373815:=()
def tw18014646191576970231:=()
def tw12469957264794778084:=()
def tw5271800082619679606:=()
def tw11566122447149637089:=()
def tw4378714649023481817:=()
def tw13245491916663767883:=()
def tw3438154174380394295:=()
def tw4023899532672369988:=()
def tw7180311058818629465:=()
def tw5990042704719922820:=()
def tw14832545734366388242:=()
def tw14896847082232355202:=()
def tw16647530599721151642:=()
def tw15309421014763082155:=()
def tw16928615947883496591:=()
def tw6594981613476666486:=()
def tw6487371693993819028:=()
def tw8323257183675880439:=()
def tw17606403814102510526:=()
def tw1589932505429318734:=()
end PySem.W.Fast
set_option maxRecDepth 100000 in
set_option maxHeartbeats 0 in
theorem PySem.Challenge.cw_ringhouse_k40_measure_and_often_holds : PySem.Challenge.rw_ringhouse_k40_measure_and_often.Holds := by
 w_on;o_law;k_head;(case hw=>w_witness2)
 k_fill
 refine M.walkM (l:=PySem.Challenge.rw_ringhouse_k40_measure_and_often) (k:=13) (x:="_law_script") rfl rfl ⟨rfl,ac,ac⟩ (λw h Y=>PySem.W.kIn_of Y) ?F
 case F=>
  intro w mg fa h KX G hmg
  refine' M.all_mk KX G hmg ?P1 ?P2 ?P3 ?P4 ?P5 ?P6 ?P7 ?P8 ?P9 ?P10 ?P11 ?P12 ?P13 ?P14 ?P15 ?P16 ?P17 ?P18 ?P19 ?P20 ?P21 ?P22 ?P23 ?P24 ?P25 ?P26 ?P27 ?P28 ?P29 ?P30 ?P31 ?P32 ?P33 ?P34 ?P35 ?P36 ?P37 ?P38 ?P39 ?P40 ?P41 ?P42 ?P43 ?P44 ?P45 ?P46 ?P47 ?P48 ?P49 ?P50 ?P51 ?P52 ?P53 ?P54 ?P55 ?P56 ?P57 ?P58 ?P59 ?iY ?lJ ?lL ?lK ?bJ7 ?aJ6 ?b49 ?c23 ?a53 ?aR3 ?cM7 ?xP ?xQ ?aD5 ?aD6 ?c24 ?c25 ?lY ?qQ ?qT ?rS ?rA ?wF ?aD7 ?jP ?kK ?kL ?xR ?xS ?xT ?xU ?xV ?aD8 ?aD9 ?aE0 ?aE1 ?aE2 ?mk_Ring ?fn_Ring ?kc_Ring ?pg_Ring ?c26 ?po_Ring ?c27 ?c28 ?b25 ?aR4 ?dD9 ?dE0 ?cM8 ?aR5 ?c29 ?aE3 ?c30 ?dE1 ?dE2 ?bJ8 ?dE3 ?dE4 ?dE5 ?dE6 ?a54 ?cM9 ?dE7 ?gQ ?fN ?iM ?sI ?sJ ?sK
  (case P1|P2|P3|P4|P5|P6|P7|P8|P9|P10|P11|P12|P13|P14|P15|P16|P17|P18|P19|P20|P21|P22|P23|P24|P25|P26|P27|P28|P29|P30|P31|P32|P33|P34|P35|P36|P37|P38|P39|P40|P41|P42|P43|P44|P45|P46|P47|P48|P49|P50|P51|P52|P53|P54|P55|P56|P57|P58|P59=>walk_at "f");(case iY|lJ|lL|lK|bJ7|aJ6|b49|c23|a53|aR3|cM7|xP|xQ|aD5|aD6|c24|c25|rA|wF|aD7|xT|xU|xV|aE0|aE1|aE2|mk_Ring|fn_Ring|kc_Ring|pg_Ring|c26|po_Ring|c27|c28|b25|aR4|dD9|dE0|cM8|aR5|c29|aE3|c30|dE1|dE2|bJ8|dE3|dE4|dE5|dE6|a54|cM9|dE7|gQ|fN|iM|sI=>k_is);(case lY|qQ=>first|kernel_rfl|rfl);(case qT|rS=>k_exc);(case jP|kK|kL|xR|xS|aD8|aD9=>first|kernel_rfl|rfl|decide);(case sJ=>first|decide| (trace_state;decide +kernel));(case sK=>first| (show L2.Vals (List.map _ _) (List.toList _);simp only[M.T_SMALL_PRIMES,List.map];repeat (first|exact .nil|refine .cons (.int _ _) ?_))| (repeat constructor)|trace_state)
