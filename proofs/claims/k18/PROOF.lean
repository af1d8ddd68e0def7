import PyProof.Rows.All
import Wide.All
import OpenK.AllK
import Wide.FinOn
import Lean
import PyProof.EqAt
import PyProof.EqKinds
import PyProof.TupleCall
import PySem.Challenge.RW_ringhouse_k18_papers
set_option Elab.async false
set_option linter.all false
open PySem.W (instObj methodObj Frag lookIn InstAt plainGet hasDictIn findIn plainOver takerIn makesIn emptyDict keepIn fnOf codeIn excIn clsIn nsIn)
open List (replicate length all_cons any_cons foldl forIn_nil map_drop sum_cons Nodup)
open Nat (le_of_eq succ_mul add_comm mul_comm pow_succ sub_zero)
open Int (dvd_add dvd_refl)
open PySem.Heap (SameBut ExtBut FlyingW HeldW MadeExcOf)
open Option (getD_none bind_some)
open Array (toList)
set_option maxRecDepth 100000
local macro_rules | `(tactic| walk_at "z") => `(tactic| first|exact .inl rfl|exact .inr rfl|assumption)
def aa{p:Prop}(h:p:=by omega):p:=h
def ac{p:Prop}(h:p:=by decide):p:=h
def ad{p:Prop}(h:p:=by lia):p:=h
def ae{p:Prop}(h:p:=by simp):p:=h
def af{p:Prop}(h:p:=by decide +kernel):p:=h
def ag{p:Prop}(h:p:=by walk_at "n"):p:=h
def ah{p:Prop}(h:p:=by walk_at "b2"):p:=h
def a8:= @PySem.wpAny_bind
def aI:= @List.getD_eq_getElem?_getD
def aJ:= @List.getElem?_eq_getElem
def a6:= @if_neg
def a7:= @if_pos
def aM:= @PySem.Heap.get?_push_of_some
def aH:= @List.length_map
def aB:= @Nat.le_refl
def aG:= @PySem.wpAny_pure
def aW:= @List.mem_cons_self
def b6:= @List.mem_cons_of_mem
def b9:= @Nat.lt_of_lt_of_le
def aY:= @List.size_toArray
def bC:= @Bool.false_ne_true
def aN:= @PySem.Heap.lt_size
def aS:= @List.mem_cons
def aT:= @Nat.le_trans
def bN:= @PySem.Heap.get?_push_size
def bI:= @List.getElem?_map
def bZ:= @Int.dvd_of_emod_eq_zero
def bE:= @Nat.ne_of_lt
def dM:= @List.mem_append_right
def bS:= @List.mem_append
def bJ:= @Int.mul_zero
def bD:= @PySem.wpAny_mono
def cU:= @List.length_append
def cV:= @Int.emod_lt_of_pos
def cW:= @Int.emod_eq_of_lt
def cJ:= @List.lookup_cons
def dS:= @PySem.W.mg_none_of
def cX:= @List.all_eq_true
def cY:= @Nat.zero_lt_succ
def cL:= @decide_eq_false
def cM:= @Int.emod_nonneg
def cN:= @List.map_append
def bW:= @List.map_cons
def dN:= @Bool.and_eq_true
def dO:= @List.getElem_mem
def cB:= @Int.zero_emod
def eM:= @Int.toNat_natCast
def eO:= @List.not_mem_nil
def dU:= @List.length_set
def dP:= @decide_eq_true
def cZ:= @Nat.lt_irrefl
def jE:= @PyProof.Rows.callWith_type1
def dW:= @List.mem_range
def bO:= @And.right
def kJ:= @Int.mul_le_mul_of_nonneg_left
def d5:= @Int.zero_add
def fS:= @decide_eq_true_eq
def cO:= @PySem.wpAny_field
def d6:= @Nat.zero_le
def i5:= @Nat.mul_le_mul_left
def bP:= @congrArg
def gJ:= @List.length_cons
def eS:= @PySem.W.mg_of
def jF:= @Int.emod_eq_zero_of_dvd
def dX:= @Int.mul_emod
def kK:= @List.getElem?_eq_some_iff
def kL:= @PySem.wpAny_callSpecial?_slot
def jG:= @List.mem_append_left
def gK:= @Option.some.inj
def iR:= @List.mem_singleton
def fA:= @List.map_map
def iS:= @List.pairwise_cons
def i6:= @PySem.wpAny_call_entry
def jH:= @List.filterMap_cons
def jI:= @List.replicate_succ
def gL:= @Int.natAbs_mul
def i7:= @List.append_nil
def i8:= @PySem.PassesOwn.never
def jJ:= @Nat.add_sub_cancel
def kM:= @PySem.Heap.get?_none_of_le
def fT:= @List.mem_map
def fU:= @Int.add_emod
def fV:= @Int.pow_zero
def jK:= @PySem.wpAny_truthy_bool
def jL:= @PySem.wpAny_newObj_type
def jM:= @PySem.wpAny_loadPart'
def cF:= @if_true
def dQ:= @if_false
def kN:= @Nat.lt_of_le_of_lt
def iT:= @PySem.Heap.size_push
def iU:= @Nat.mul_le_mul
def oM:= @List.getElem?_cons_zero
def oN:= @Int.dvd_mul_of_dvd_left
def kO:= @Nat.lt_succ_of_lt
def kQ:= @of_decide_eq_true
def jN:= @List.range_succ
def i9:= @Int.add_zero
def iA:= @Int.zero_mul
def iV:= @PySem.wpAny_holding
def fW:= @beq_iff_eq
def sG:= @List.getElem?_append_right
def iW:= @Int.emod_emod
def wV:= @PySem.F.slot_tuple_iterator_next
def eT:= @or_false
def oO:= @PySem.Heap.get?_update_self
def oP:= @Bool.beq_eq_decide_eq
def oQ:= @List.getElem?_eq_none
def wW:= @PyProof.Rows.slot_tuple_getitem
def oR:= @PySem.wpAny_loadName_local
def oS:= @Nat.pow_le_pow_right
def mQ:= @List.flatten_cons
def mS:= @PySem.wpAny_loadPart_at
def sH:= @List.length_eq_zero_iff
def oU:= @beq_eq_false_iff_ne
def oV:= @PySem.mem_of_lookup
def kR:= @PySem.wpAny_seqItems
def mT:= @List.ext_getElem
def oW:= @PySem.wpAny_Call_Name_kw
def jO:= @List.map_nil
def oZ:= @PySem.Obj.data_mapFields
def pA:= @PySem.wpAny_setField_rec
def mU:= @List.mem_filter
def mV:= @PySem.wpAny_execs_nil
def mW:= @PySem.wpAny_passesOwn
def fX:= @Prod.ext
def kS:= @Bool.true_xor
def kT:= @Int.mul_assoc
def wX:= @PySem.F.excBase_ValueError
def pB:= @PySem.Heap.get?_push_ne
def sI:= @List.getElem?_set_ne
def wY:= @List.getElem?_append_left
def sJ:= @List.mem_of_getElem?
def wZ:= @Decidable.byContradiction
def sK:= @Nat.mul_le_mul_right
def jP:= @PySem.wpAny_of_eq
def jQ:= @Nat.pow_add
def mY:= @Bool.false_xor
def pC:= @Nat.lt_succ_self
def kU:= @Int.pow_succ
def sL:= @PyProof.Rows.call_isinstance_yes
def sM:= @PySem.Heap.SameBut.update
def aB9:= @PySem.plainObj_wpAny_Assign_Attribute
def x8:= @PySem.F.plainAttrs_list
def x9:= @List.getElem?_cons_succ
def xA:= @List.pairwise_singleton
def mZ:= @Int.le_of_dvd
def sN:= @PySem.W.of_hideAll
def jR:= @PySem.call_meets
def kW:= @Int.mul_one
def xB:= @List.take_of_length_le
def sO:= @PySem.wpAny_pyIter_list
def sP:= @List.length_range
def xC:= @List.length_singleton
def xD:= @PySem.F.slot_zip_next
def pE:= @PySem.isSubtype_type
def xE:= @PySem.builtinLookup_eq_fast
def n6:= @Nat.sub_self
def sQ:= @PySem.wpAny_execs_cons
def sR:= @List.length_take
def sS:= @List.length_drop
def sT:= @PySem.Heap.size_update
def sU:= @beq_self_eq_true
def xF:= @List.pairwise_append
def pF:= @PySem.wpAny_standAt
def xG:= @PySem.Heap.get?_update_ne
def xH:= @List.getElem_of_mem
def xI:= @PySem.wpAny_isSubtype_exc
def sV:= @Nat.min_eq_left
def aC0:= @List.pairwise_iff_getElem
def aC1:= @Classical.byContradiction
def pG:= @Nat.le_of_lt
def pH:= @Nat.ne_of_gt
def aC2:= @PySem.F.args_tuple_add_2
def aC3:= @PySem.F.slot_list_append
def aC4:= @PySem.F.type_list_append
def aC5:= @PySem.AutoSeq1.wpAny_loadPart'
def aC6:= @PySem.F.args_tuple_mul_2
def xJ:= @List.zip_cons_cons
def aC7:= @List.mem_of_mem_eraseIdx
def n8:= @PySem.wpAny_Name
def sW:= @PySem.wpAny_setField
def nA:= @PySem.wpAny_rule
def aC8:= @PySem.F.entry_tuple_add
def aC9:= @PySem.F.entry_tuple_mul
def aD0:= @decide_eq_false_iff_not
def xK:= @Nat.le_succ_of_le
def xL:= @Int.natAbs_add_le
def xM:= @Int.lt_trichotomy
def aD1:= @List.getElem?_set_self
def aD2:= @PySem.wpAny_pyIter_rangeiter
def aD3:= @PySem.W.cellsFrom_some
def aD4:= @PySem.F.slot_tuple_add
def aD5:= @PySem.Heap.get?_update_other
def aD6:= @PySem.F.slot_tuple_mul
def sX:= @PySem.wpAny_attempt
def sY:= @List.map_take
def sZ:= @Nat.add_assoc
def xN:= @PySem.wpAny_eqBool_int
def aD7:= @PySem.Obj.isFreed_of_fields
def aD8:= @Int.emod_add_mul_ediv
def xO:= @Bool.eq_iff_iff
def t6:= @PySem.codeAny_mono
def xP:= @List.nodup_cons
def xQ:= @List.of_mem_zip
def pI:= @PySem.typeIs_int
def aD9:= @PySem.Calls.evalArgs_plain
def xR:= @List.nil_append
def aE0:= @PySem.isinstance_false_int
def xS:= @List.forIn_cons
def aE1:= @PySem.wpAny_updateSeq_pair
def xT:= @PySem.typeLookup_type
def t7:= @Int.sub_emod
def t9:= @Int.mul_comm
def xU:= @Bool.or_eq_true
def aE2:= @List.forall_mem_cons
def aE3:= @Array.length_toList
def aE4:= @PySem.W.looks_clsIn
def aE5:= @List.map_congr_left
def aE6:= @Int.toNat_of_nonneg
def tD:= @Nat.le_succ
def aE7:= @List.mem_filterMap
def aE8:= @PySem.W.callWith_K
def aE9:= @Bool.false_eq_true
def aF0:= @List.contains_cons
def aY5:= @List.set_cons_zero
def aY6:= @List.set_cons_succ
def aF1:= @List.filter_append
def aF2:= @List.append_of_mem
def xV:= @PySem.wpAny_onRaise
def xW:= @Bool.true_and
def aF3:= @List.any_eq_false
def aF4:= @List.getElem?_set
def aF5:= @Bool.not_eq_true'
def tE:= @PySem.wpAny_call
def aF6:= @PySem.noFill_tuple_add
def xX:= @PySem.wpAny_typeOf
def xY:= @PySem.seqIndex_neg
def aF7:= @PySem.wpAny_isInstance
def aF8:= @PySem.AutoSeq1.idx_int
def xZ:= @Nat.mul_succ
def y8:= @Int.add_comm
def tF:= @PyProof.Rows.IsTup.new
def aF9:= @PySem.pushCells_keeps
def aG0:= @Int.natCast_mul
def aG1:= @Nat.one_ne_zero
def y9:= @PySem.seqIndex_of
def yA:= @Int.one_mul
def yB:= @Int.add_mul
def yC:= @Int.mul_add
def yD:= @Int.mul_pos
set_option compiler.extract_closed false
set_option bootstrap.genMatcherCode false
namespace L2
open PySem PySem.Spec PyProof.Rows
abbrev Key:=Sum Int Str
noncomputable def d86:Key->Value->Bool
 | .inl k,v=>Value.isInt k v
 | .inr x,v=>Value.isStrOf x v
noncomputable def keyH (w:World):Key->Int
 | .inl k=>hashInt k
 | .inr x=>hashStr w x
theorem iI: ∀{k:Key} {v:Value},d86 k v=true->(∃i t,k=Sum.inl i/\v=Value.int i t)\/(∃x t,k=Sum.inr x/\v=Value.str x t)
 | .inl i,v,h=>by
  obtain⟨t,e⟩:=Value.isInt_shape (k:=i) (v:=v) h;exact .inl ⟨i,t,rfl,e⟩
 | .inr x,v,h=>by
  obtain⟨t,e⟩:=Value.isStrOf_shape (x:=x) (v:=v) h;exact .inr ⟨x,t,rfl,e⟩
theorem key_ll (a b:Int):decide ((Sum.inl a:Key)=Sum.inl b)=(a==b):=by
 by_cases e:a=b
 ·subst e;simp
 ·have h: ¬(Sum.inl a:Key)=Sum.inl b:=λq=>e (Sum.inl.inj q)
  rw[cL h];exact(oU.mpr e).symm
theorem key_rr (a b:Str):decide ((Sum.inr a:Key)=Sum.inr b)=decide (a=b):=by
 by_cases e:a=b
 ·subst e;simp
 ·have h: ¬(Sum.inr a:Key)=Sum.inr b:=λq=>e (Sum.inr.inj q)
  rw[cL h,cL e]
theorem key_lr (a:Int)(b:Str):decide ((Sum.inl a:Key)=Sum.inr b)=false:=cL (λq=>nomatch q)
theorem key_rl (a:Str)(b:Int):decide ((Sum.inr a:Key)=Sum.inl b)=false:=cL (λq=>nomatch q)
noncomputable def c55 (prog:Program)(w:World):PySem.KeyKind prog w Key where
 is:=d86
 hash:=keyH w
 inj:=λv a b ha hb=>by
  rcases iI ha with⟨i,t,rfl,rfl⟩| ⟨x,t,rfl,rfl⟩
  ·rcases iI hb with⟨j,u,rfl,e⟩| ⟨y,u,rfl,e⟩
   ·injection e with e1 _;rw[e1]
   ·exact nomatch e
  ·rcases iI hb with⟨j,u,rfl,e⟩| ⟨y,u,rfl,e⟩
   ·exact nomatch e
   ·injection e with e1 _;rw[e1]
 byValue:=λk v h=>by
  rcases iI h with⟨i,t,rfl,rfl⟩| ⟨x,t,rfl,rfl⟩<;>rfl
 pyHash:=λhv h=>by
  rcases iI hv with⟨i,t,rfl,rfl⟩| ⟨x,t,rfl,rfl⟩
  ·exact wpAny_pyHash_int h
  ·exact wpAny_pyHash_str h
 eqBool:=λhu hv h=>by
  rcases iI hu with⟨i,t,rfl,rfl⟩| ⟨x,t,rfl,rfl⟩
  ·rcases iI hv with⟨j,u,rfl,rfl⟩| ⟨y,u,rfl,rfl⟩
   ·rw[key_ll]at h;exact xN h
   ·rw[key_lr]at h;exact SeqAt.EqAt.int_str i t y u _ _ _ _ h
  ·rcases iI hv with⟨j,u,rfl,rfl⟩| ⟨y,u,rfl,rfl⟩
   ·rw[key_rl]at h;exact SeqAt.EqAt.str_int x t j u _ _ _ _ h
   ·rw[key_rr]at h;exact wpAny_eqBool_str h
 «strs» :=λk x t v h=>by
  rcases iI h with⟨i,u,rfl,e⟩| ⟨y,u,rfl,e⟩
  ·exact nomatch e
  ·injection e with e1 _
   subst e1;cases v<;>rfl
end L2
namespace L2
open PySem PySem.Spec PyProof.Rows
inductive V where
 | non|bl (b:Bool)|int (i:Int)|str (x:Str)|byt (b:Array UInt8)|flt (b:UInt64)|ref (a:Addr)|ty (n:String)
 deriving DecidableEq
def RelV:V->Value->Prop
 | .non,u=>u=Value.none
 | .bl b,u=>u=Value.bool b
 | .int i,u=> ∃t,u=Value.int i t
 | .str x,u=> ∃t,u=Value.str x t
 | .byt b,u=> ∃t,u=Value.bytes b t
 | .flt b,u=> ∃t,u=Value.float b t
 | .ref a,u=>u=Value.ref a
 | .ty n,u=>u=Value.type n
abbrev Vals:List V->List Value->Prop:=Paired RelV
theorem Vals.length {xs:List V}{us:List Value}(r:Vals xs us):xs.length=us.length:=Paired.length r
theorem Vals.get: ∀{xs:List V} {us:List Value} {i:Nat} {x:V},Vals xs us->xs[i]? =some x-> ∃u,us[i]? =some u/\RelV x u
 | _,_,_,_,.nil,e=>by simp at e
 | _,_,0,_,.cons r _,e=>by simp at e;subst e;exact⟨_,rfl,r⟩
 | _,_,i+1,x,.cons _ t,e=>by
  obtain⟨u,h1,h2⟩:=Vals.get (i:=i) (x:=x) t (by simpa using e)
  exact⟨u,by simpa using h1,h2⟩
theorem Vals.set {x:V}{u:Value}(r:RelV x u): ∀{xs:List V} {us:List Value} (i:Nat),Vals xs us->Vals (xs.set i x) (us.set i u)
 | _,_,_,.nil=> .nil
 | _,_,0,.cons _ t=> .cons r t
 | _,_,i+1,.cons q t=> .cons q (Vals.set r i t)
theorem Vals.append: ∀{xs ys:List V} {us ws:List Value},Vals xs us->Vals ys ws->Vals (xs++ys) (us++ws)
 | _,_,_,_,.nil,s=>s
 | _,_,_,_,.cons r t,s=> .cons r (Vals.append t s)
theorem Vals.take: ∀{xs:List V} {us:List Value} (n:Nat),Vals xs us->Vals (xs.take n) (us.take n)
 | _,_,0,_=> .nil
 | _,_,_+1,.nil=> .nil
 | _,_,n+1,.cons r t=> .cons r (Vals.take n t)
theorem Vals.drop: ∀{xs:List V} {us:List Value} (n:Nat),Vals xs us->Vals (xs.drop n) (us.drop n)
 | _,_,0,r=>r
 | _,_,_+1,.nil=> .nil
 | _,_,n+1,.cons _ t=>Vals.drop n t
def bX8:Option V->Option Value->Prop
 | some v,some u=>RelV v u
 | none,none=>True
 | _,_=>False
def KV {κ:Type}:List (κ×V)->List (κ×Value)->Prop:=Paired fun(p:κ×V) (q:κ×Value)=>p.1=q.1/\RelV p.2 q.2
noncomputable def kV:Key->V
 | .inl i=> .int i
 | .inr x=> .str x
inductive HO where
 | lst (xs:List V)
 | tup (xs:List V)
 | dK (kvs:List (Key×V))|dT (kvs:List (List Key×V))
 | set (S:Int->Bool) (n:Nat)
 | ins (C dx:Addr) (fs:List (Str×V))
 | own (x:Addr)
 | xd (fs:List (Str×V))
 | met (f x:Addr)
 | rng (lo hi:Int)
 | frz (o:Obj) (u:HO)
 | tbl (ps:Array Value)
 | ext (φ:Heap->Prop)
abbrev Hp:=Addr->Option HO
noncomputable def upd (H:Hp)(a:Addr)(o:HO):Hp:=λb=>if b=a then some o else H b
theorem iB {H:Hp}{a:Addr}{o:HO}:upd H a o a=some o:=by unfold upd;rw[a7 rfl]
theorem bL {H:Hp}{a b:Addr}{o:HO}(h:b≠a):upd H a o b=H b:=by unfold upd;rw[a6 h]
theorem cP {H:Hp}{a b:Addr}{o:HO}(h:H a=some o)(h':H b=none):a≠b:=by
 intro e;subst e;rw[h]at h';cases h'
section
variable (P:Program)(w:World)
noncomputable def qF (H:Hp)(h:Heap)(a:Addr):HO->Prop
 | .lst xs=>xs.length<=sizeLine/\ ∃(its:List Value) (n:Nat),Vals xs its/\h.get? a=some {cls:= .type "list",data:= .seq its.toArray n}
 | .tup xs=>xs.length<=sizeLine/\ ∃its:List Value,Vals xs its/\IsTup h a its.toArray
 | .dK kvs=>kvs.length<=sizeLine/\(a==sysModules)=false/\ ∃vs,KV kvs vs/\h.DictOf (c55 P w) a vs
 | .dT kvs=>kvs.length<=sizeLine/\(a==sysModules)=false/\ ∃xs:List (List Key×Addr×Value),
   Paired (fun(p:List Key×V) (q:List Key×Addr×Value)=>p.1=q.1/\H q.2.1=some (.tup<|p.1.map kV)/\RelV p.2 q.2.2) kvs xs/\
   ∃o es ep,h.get? a=some o/\o.ExactDict/\o.data= .dict es ep/\es.toList=xs.map (entryOfKey<|tupleKind<|c55 P w)/\(xs.map (·.1)).Nodup
 | .set S n=>h.SetOf (intKind P w) a S n
 | .ins C dx fs=>H dx=some (.own a)/\fs.length<=1000/\dx≠a/\h.get? a=some (instObj C dx)/\
   ∃mA,h.Ns1 dx mA/\(∀f,bX8 (fs.lookup f)<|mA f)/\PySem.Within mA (fs.map (·.1))
 | .own _=> ∃o,h.get? a=some o
 | .xd fs=> ∃mA,h.Ns1 a mA/\ ∀f,bX8 (fs.lookup f) (mA f)
 | .rng lo hi=> ∃t u v,h.get? a=some {cls:= .type "range",data:= .fields #[.int lo t,.int hi u,.int 1 v]}
 | .frz o u=>h.get? a=some o/\qF H h a u
 | .tbl ps=>h.get? a=some {cls:= .none,data:= .fields ps}
 | .met f x=>h.get? a=some (methodObj (.ref f)<|.ref x)
 | .ext φ=>φ h/\(∃o,h.get? a=some o)/\ ∀h1 h2:Heap,φ h1->(∀o,h1.get? a=some o->h2.get? a=some o)->φ h2
def HOk (H:Hp)(h:Heap):Prop:= ∀a o,H a=some o->qF P w H h a o
end
section
variable {P:Program}{w:World}{H H':Hp}{h h':Heap}{a:Addr}{o:HO}
theorem qF.lt (x:qF P w H h a o):a<h.objs.size:=by
 cases o with
 | lst xs=>obtain⟨_,_,_,_,e⟩:=x;exact aN e
 | tup xs=>obtain⟨_,_,_,p⟩:=x;exact p.lt
 | dK kvs=>obtain⟨_,_,_,_,o,_,_,e,_⟩:=x;exact aN e
 | dT kvs=>obtain⟨_,_,_,_,o,_,_,e,_⟩:=x;exact aN e
 | set S n=>obtain⟨o,_,_,_,e,_⟩:=x;exact aN e
 | ins C dx fs=>obtain⟨_,_,_,e,_⟩:=x;exact aN e
 | own y=>obtain⟨_,e⟩:=x;exact aN e
 | xd fs=>obtain⟨_,⟨_,_,_,e,_⟩,_⟩:=x;exact aN e
 | rng lo hi=>obtain⟨_,_,_,e⟩:=x;exact aN e
 | frz ob u=>obtain⟨e,_⟩:=x;exact aN e
 | tbl ps=>exact aN (show h.get? a=some _ from x)
 | met f y=>exact aN (show h.get? a=some _ from x)
 | ext φ=>obtain⟨_,⟨_,e⟩,_⟩:=x;exact aN e
theorem Paired.mapP {α β:Type}{F G:α->β->Prop}: ∀{l₁:List α} {l₂:List β},Paired F l₁ l₂->(∀a b,F a b->G a b)->Paired G l₁ l₂
 | _,_,.nil,_=> .nil
 | _,_,.cons r t,f=> .cons (f _ _ r) (Paired.mapP t f)
theorem qF.stay (x:qF P w H h a o)(k: ∀b u,(b=a\/H b=some (.own a))->h.get? b=some u->h'.get? b=some u)
  (ho: ∀b,H b=some (.own a)->H' b=some (.own a)) (ht: ∀b xs,H b=some (.tup xs)->H' b=some (.tup xs)):qF P w H' h' a o:=by
 induction o with
 | lst xs=>obtain⟨z,its,n,r,e⟩:=x;exact⟨z,its,n,r,k _ _ (.inl rfl) e⟩
 | tup xs=>obtain⟨z,its,r,ob,e,c⟩:=x;exact⟨z,its,r,ob,k _ _ (.inl rfl) e,c⟩
 | dK kvs=>obtain⟨z,y,vs,r,ob,es,ep,e,c⟩:=x;exact⟨z,y,vs,r,ob,es,ep,k _ _ (.inl rfl) e,c⟩
 | dT kvs=>
  obtain⟨z,y,xs,r,ob,es,ep,e,c⟩:=x;exact⟨z,y,xs,Paired.mapP r λp q z=>⟨z.1,ht _ _ z.2.1,z.2.2⟩,ob,es,ep,k _ _ (.inl rfl) e,c⟩
 | set S n=>obtain⟨ob,es,ep,t,e,c⟩:=x;exact⟨ob,es,ep,t,k _ _ (.inl rfl) e,c⟩
 | ins C dx fs=>
  obtain⟨d,z,ne,e,mA,⟨od,es,ep,e2,c⟩,r⟩:=x;exact⟨ho _ d,z,ne,k _ _ (.inl rfl) e,mA,⟨od,es,ep,k _ _ (.inr d) e2,c⟩,r⟩
 | own y=>obtain⟨ob,e⟩:=x;exact⟨ob,k _ _ (.inl rfl) e⟩
 | xd fs=>obtain⟨mA,⟨od,es,ep,e,c⟩,r⟩:=x;exact⟨mA,⟨od,es,ep,k _ _ (.inl rfl) e,c⟩,r⟩
 | rng lo hi=>obtain⟨t,u,v,e⟩:=x;exact⟨t,u,v,k _ _ (.inl rfl) e⟩
 | frz ob u ih=>obtain⟨e,q⟩:=x;exact⟨k _ _ (.inl rfl) e,ih q⟩
 | tbl ps=>
  have e:h.get? a=some {cls:= .none,data:= .fields ps}:=x;show h'.get? a=some {cls:= .none,data:= .fields ps};exact k a _ (.inl rfl) e
 | met f y=>
  have e:h.get? a=some (methodObj (.ref f)<|.ref y):=x;show h'.get? a=some (methodObj (.ref f)<|.ref y);exact k a _ (.inl rfl) e
 | ext φ=>obtain⟨p,⟨o,e⟩,st⟩:=x;exact⟨st _ _ p λo q=>k _ _ (.inl rfl) q,⟨o,k _ _ (.inl rfl) e⟩,st⟩
theorem HOk.lt (x:HOk P w H h)(e:H a=some o):a<h.objs.size:=(x a o e).lt
theorem HOk.fresh (x:HOk P w H h)(e:h.objs.size<=a):H a=none:=by
 cases q:H a with
 | none=>rfl
 | some u=>exact absurd (b9 (x.lt q) e) (cZ _)
theorem HOk.kept (x:HOk P w H h)(k: ∀b u,h.get? b=some u->h'.get? b=some u):HOk P w H h':=λa o e=>
 (x a o e).stay (λb u _ q=>k b u q) (λ_ q=>q) λ_ _ q=>q
theorem HOk.laid (x:HOk P w H h)(k: ∀b u,h.get? b=some u->h'.get? b=some u)(hp:h.objs.size<=a)(new:qF P w (upd H a o) h' a o):HOk P w (upd H a o) h':=λb u e=>by
 have hn:=x.fresh hp
 by_cases hb:b=a
 ·subst hb;rw[iB]at e;cases e;exact new
 ·rw[bL hb]at e;exact(x b u e).stay (λc v _ q=>k c v q) (λc q=>by rw[bL<|cP q hn];exact q) λc xs q=>by rw[bL<|cP q hn];exact q
end
def Rd (H:Hp)(a:Addr)(u:HO):Prop:=H a=some u\/ ∃o,H a=some (.frz o u)
theorem Rd.ok {P:Program}{w:World}{H:Hp}{h:Heap}{a:Addr}{u:HO}(r:Rd H a u)(x:HOk P w H h):qF P w H h a u:=by
 rcases r with r| ⟨o,r⟩
 ·exact x a u r
 ·obtain⟨_,q⟩:=x a _ r;exact q
def Mut:Option HO->Prop
 | some (.lst _)=>True
 | some (.dK _)=>True
 | some (.dT _)=>True
 | some (.set _ _)=>True
 | some (.ins _ _ _)=>True
 | some (.ext _)=>True
 | _=>False
section
variable {P:Program}{w:World}{H:Hp}{h h':Heap}{x e:Addr}{o':HO}
theorem HOk.write (ok:HOk P w H h)(mu:Mut (H x))(he:e=x\/H e=some (.own x))(k: ∀b u,b≠e->h.get? b=some u->h'.get? b=some u)(heo: ∃u,h'.get? e=some u)
  (new:qF P w (upd H x o') h' x o'):HOk P w (upd H x o') h':=λb u q=>by
 have nown: ∀c y,H c=some (.own y)->c≠x:=λc y r z=>by subst z;rw[r]at mu;exact mu
 have ntup: ∀c xs,H c=some (.tup xs)->c≠x:=λc xs r z=>by subst z;rw[r]at mu;exact mu
 by_cases hb:b=x
 ·subst hb;rw[iB]at q;cases q;exact new
 ·rw[bL hb]at q
  by_cases hbe:b=e
  ·have q':H b=some (.own x):=by
    rcases he with z|z
    ·exact absurd (hbe.trans z) hb
    ·rw[hbe];exact z
   rw[q]at q';cases q';obtain⟨v,hv⟩:=heo;exact⟨v,by rw[hbe];exact hv⟩
  ·refine(ok b u q).stay (λc v hc r=>k c v ?_ r) (λc r=>by rw[bL<|nown c b r];exact r) λc xs r=>by rw[bL<|ntup c xs r];exact r
   rcases hc with rfl|hc
   ·exact hbe
   ·rintro rfl;rcases he with z|z
    ·exact nown c b hc z
    ·rw[hc]at z;cases z;exact hb rfl
end
structure Un (fs ex:List Addr)(H H':Hp)(h h':Heap):Prop where
 keep: ∀b o,h.get? b=some o->H b=none->b ∉ fs->b ∉ ex->h'.get? b=some o
 slot: ∀b o,h.get? b=some o->H b=none->b∈fs->b ∉ ex-> ∃sl,h'.get? b=some {o with slots:=sl}
 free: ∀b o,h.get? b=some o->H b=none->b ∉ ex->H' b=none
 there: ∀b o,h.get? b=some o->b ∉ ex-> ∃o',h'.get? b=some o'
 tups: ∀b xs,H b=some (.tup xs)->H' b=some (.tup xs)
 frzs: ∀b o u,H b=some (.frz o u)->H' b=some (.frz o u)
 tbls: ∀b ps,H b=some (.tbl ps)-> ∃more,H' b=some (.tbl<|ps++more)
section
variable {fs fs' ex ex':List Addr}{H H1 H2:Hp}{h h1 h2 h':Heap}{a x e:Addr}{o:HO}
theorem Un.any (u:Un fs ex H H1 h h1){b:Addr}{ob:Obj}(q:h.get? b=some ob)(n:H b=none)(hx:b ∉ ex): ∃sl,h1.get? b=some {ob with slots:=sl}:=by
 by_cases hb:b∈fs
 ·exact u.slot b ob q n hb hx
 ·exact⟨ob.slots,u.keep b ob q n hb hx⟩
theorem Un.kept (k: ∀b u,h.get? b=some u->h'.get? b=some u):Un fs ex H H h h':=
 ⟨λb ob q _ _ _=>k b ob q,λb ob q _ _ _=>⟨ob.slots,k b ob q⟩,λ_ _ _ n _=>n,λb ob q _=>⟨ob,k b ob q⟩,λ_ _ q=>q,λ_ _ _ q=>q,λ_ ps q=>⟨#[],by rw[q];simp⟩⟩
theorem Un.refl:Un fs ex H H h h:=Un.kept λ_ _ q=>q
theorem Un.laid (k: ∀b u,h.get? b=some u->h'.get? b=some u)(hp:h.objs.size<=a)(hn:H a=none):Un fs ex H (upd H a o) h h' where
 keep:=λb u q _ _ _=>k b u q
 slot:=λb u q _ _ _=>⟨u.slots,k b u q⟩
 free:=λb u q n _=>by rw[bL<|bE<|b9 (aN q) hp];exact n
 there:=λb u q _=>⟨u,k b u q⟩
 tups:=λb xs q=>by rw[bL<|cP q hn];exact q
 frzs:=λb u xs q=>by rw[bL<|cP q hn];exact q
 tbls:=λb ps q=>⟨#[],by rw[bL<|cP q hn,q];simp⟩
theorem Un.write (mu:Mut (H x))(he:e=x\/H e=some (.own x))(k: ∀b u,b≠e->h.get? b=some u->h'.get? b=some u)(heo: ∃u,h'.get? e=some u):Un fs ex H (upd H x o) h h':=by
 have hx: ∀b,H b=none->b≠x:=λb n z=>by subst z;rw[n]at mu;exact mu
 have hb: ∀b,H b=none->b≠e:=λb n z=>by
  subst z;rcases he with r|r
  ·exact hx b n r
  ·rw[n]at r;cases r
 have hm: ∀b u,H b=some u-> ¬Mut (some u)->b≠x:=λb u q nm z=>by subst z;rw[q]at mu;exact nm mu
 refine⟨λb u q n _ _=>k b u (hb b n) q,λb u q n _ _=>⟨u.slots,k b u (hb b n) q⟩,λb u q n _=>by rw[bL<|hx b n];exact n,λb u q _=> ?_,
  λb xs q=>by rw[bL<|hm b _ q λz=>z];exact q,λb u xs q=>by rw[bL<|hm b _ q λz=>z];exact q,λb ps q=>⟨#[],by rw[bL<|hm b _ q λz=>z,q];simp⟩⟩
 by_cases hbe:b=e
 ·subst hbe;exact heo
 ·exact⟨u,k b u hbe q⟩
end
noncomputable def trk (h:Heap)(H:Hp):List Addr:=(List.range h.objs.size).filter λa=>(H a).isSome
noncomputable def bF3 (h:Heap)(H:Hp):Heap:=PySem.W.hideAll h (trk h H)
theorem cB7 (h:Heap)(H:Hp):(bF3 h H).objs.size=h.objs.size:=PySem.W.hideAll_size _ _
theorem cH7 {h:Heap}{H:Hp}{b:Addr}{o:Obj}(e:h.get? b=some o)(n:H b=none):(bF3 h H).get? b=some o:=
 PySem.W.hideAll_get _ e λhm=>by
  have q:(H b).isSome=true:=(mU.mp hm).2;rw[n]at q;simp at q
theorem cX1 {h:Heap}{H:Hp}{b:Addr}{o:Obj}(e:(bF3 h H).get? b=some o):h.get? b=some o/\H b=none:=by
 have e':h.get? b=some o:=sN (trk h H) e;refine⟨e',?_⟩;cases q:H b with
 | none=>rfl
 | some x=>
  have hm:b∈trk h H:=mU.mpr ⟨dW.mpr<|aN e',by simp[q]⟩
  have z:(bF3 h H).get? b=none:=PySem.W.hideAll_none (trk h H) hm;rw[z]at e;cases e
noncomputable def cX2 (g h:Heap)(L:Addr):List (Addr×Obj):=(List.range h.objs.size).filterMap λa=>if a=L\/(g.get? a).isSome=true then none else(h.get? a).map λo=>(a,o)
noncomputable def nR (g h:Heap)(L d:Addr):List (Addr×Obj):=(cX2 g h L).filter λp=>decide (p.1≠d)
end L2
namespace L2
open PySem PySem.Spec PyProof.Rows
structure Mod (K:Frag)(mg:Str->Option Value)(base:Heap):Prop where
 kin:K.In base
 glob:base.Ns mainGlobals mg
 blt: ∃mb,base.Ns builtinsNs mb/\ ∀x:Str,x≠"__name__"->mb x=bootBuiltins x
 nolimit:base.NoLimit
structure Cx where
 prog:Program
 w:World
 K:Frag
 mg:Str->Option Value
 base:Heap
 A:Around
 N:List Str
 s₀:Shared
 H₀:Hp
 env:Env
 outer:List Env
 stack:List Env
 ex:List Addr
 fn:Str->Bool
 calm:Bool
 pn:List (Addr×Obj)
 xe:Value->Shared->Prop
noncomputable def frs (l:List Env):List Addr:=l.filterMap (·.frame)
noncomputable abbrev Cx.fs (X:Cx):List Addr:=frs X.outer
def Vis (sc:Scope)(x:Str):Prop:=sc.names.lookup x=some .local\/sc.names.lookup x=some .cell\/sc.names.lookup x=some .free
def Loc (sc:Scope)(x:Str):Prop:=sc.names.lookup x=some .local\/sc.names.lookup x=some .cell
def Look (env:Env)(h:Heap)(m:Str->Option Value)(x:Str)(u:Value):Prop:=
 (env.kindOf x=some .local/\m x=some u)\/((env.kindOf x=some .cell\/env.kindOf x=some .free)/\ ∃c,env.cells.lookup x=some c/\h.IsCell c (some u))
structure Cx.Ok (X:Cx):Prop where
 mod:Mod X.K X.mg X.base
 kind:X.env.scope.kind= .function
 glob:X.env.globals=mainGlobals
 blt:X.env.builtins=builtinsNs
 above:X.s₀.heap.objs.size<=X.env.locals
 inj: ∀x y c,X.env.cells.lookup x=some c->X.env.cells.lookup y=some c->x=y
 has: ∀x,(X.env.kindOf x=some .cell\/X.env.kindOf x=some .free)-> ∃c,X.env.cells.lookup x=some c
 cab: ∀x c,X.fn x=true->X.env.cells.lookup x=some c->X.s₀.heap.objs.size<=c
 hd:X.calm=true->X.A.handled=none
 frames:X.A.frames=some X.stack
 stk:X.stack=X.outer\/(X.stack=X.env::X.outer/\X.env.frame=some X.env.locals)
 exf: ∀b∈X.ex,b≠X.env.locals/\ ∀x c,X.env.cells.lookup x=some c->c≠b
 bs: ∀b o,X.base.get? b=some o->X.s₀.heap.get? b=some o/\X.H₀ b=none
 bsz:X.base.objs.size<=X.s₀.heap.objs.size
 noex: ∀b o,X.base.get? b=some o->b ∉ X.ex
 exfs: ∀b∈X.ex,b ∉ X.fs
 funs:X.s₀.heap.FunFrames X.base X.outer
 frf: ∀b∈X.fs,X.H₀ b=none
structure Inv (X:Cx)(pins:List (Addr×Obj))(σ:List (Option V))(H:Hp)(s:Shared):Prop where
 ok:X.Ok
 os:s.os=X.s₀.os
 bare:AllBare s.gens
 base:Un X.fs X.ex X.H₀ H X.s₀.heap s.heap
 loc: ∃m,s.heap.Ns X.env.locals m/\ ∀(i:Nat) (x:Str) (v:V),X.N[i]? =some x->σ[i]? =some (some v)->Vis X.env.scope x-> ∃u,RelV v u/\Look X.env s.heap m x u
 cell: ∀x c,X.env.cells.lookup x=some c-> ∃v,s.heap.IsCell c v
 free:H X.env.locals=none
 freeC: ∀x c,X.env.cells.lookup x=some c->H c=none
 pin: ∀p∈X.pn++pins,s.heap.get? p.1=some p.2/\H p.1=none/\p.1≠X.env.locals/\p.1 ∉ X.fs/\ ∀v,p.2.data≠ .cell v
 hok:HOk X.prog X.w H s.heap
 len:σ.length=X.N.length
section
variable {X:Cx}{pins:List (Addr×Obj)}{σ:List (Option V)}{H H':Hp}{s:Shared}{h':Heap}
theorem Cx.Ok.nofr (ok:X.Ok){b:Addr}{o:Obj}(e:X.base.get? b=some o):b ∉ X.fs:=λhb=>by
 have:=(ok.funs.mem hb).1;rw[e]at this;cases this
theorem Inv.bs (I:Inv X pins σ H s): ∀b o,X.base.get? b=some o->s.heap.get? b=some o/\H b=none:=λb o e=>
 ⟨I.base.keep b o (I.ok.bs b o e).1 (I.ok.bs b o e).2 (I.ok.nofr e)<|I.ok.noex b o e,I.base.free b o (I.ok.bs b o e).1 (I.ok.bs b o e).2<|I.ok.noex b o e⟩
theorem Inv.bk (I:Inv X pins σ H s): ∀b o,X.base.get? b=some o->s.heap.get? b=some o:=λb o e=>(I.bs b o e).1
theorem Inv.mod (I:Inv X pins σ H s):Mod X.K X.mg X.base:=I.ok.mod
theorem Inv.kIn (I:Inv X pins σ H s):X.K.In s.heap:=I.ok.mod.kin.keeps I.bk
theorem Inv.nolimit (I:Inv X pins σ H s):s.heap.NoLimit:=I.ok.mod.nolimit.keeps I.bk
theorem Inv.lt (I:Inv X pins σ H s):X.env.locals<s.heap.objs.size:=let ⟨_,hn,_⟩:=I.loc;hn.lt
theorem Inv.sz (I:Inv X pins σ H s):X.s₀.heap.objs.size<=s.heap.objs.size:=aT I.ok.above (pG I.lt)
theorem Inv.nofs (I:Inv X pins σ H s){a:Addr}(h:s.heap.objs.size<=a):a ∉ X.fs:=λhb=>by
 obtain⟨_,o,ho,_⟩:=I.ok.funs.mem hb;exact absurd (b9 (aN ho)<|aT I.sz h) (cZ _)
theorem Inv.cne (I:Inv X pins σ H s): ∀x c,X.env.cells.lookup x=some c->c≠X.env.locals:=λx c e z=>by
 obtain⟨v,o,ho,hd⟩:=I.cell x c e;obtain⟨m,⟨o',es,ep,ho',hd',_⟩,_⟩:=I.loc;rw[z,ho']at ho;cases ho;rw[hd']at hd;cases hd
theorem Inv.funs (I:Inv X pins σ H s):s.heap.FunFrames X.base X.outer:=by
 have all: ∀(l:List Env),(∀b∈frs l,b∈X.fs)->X.s₀.heap.FunFrames X.base l->s.heap.FunFrames X.base l:=by
  intro l
  induction l with
  | nil=>intro _ _;trivial
  | cons env r ih=>
   intro hs hl;obtain⟨hk,⟨L,o,hf,hn,ho,hd⟩,hr⟩:=hl;have hL:L∈X.fs:=hs L (by unfold frs;rw[jH,hf];exact aW)
   obtain⟨sl,e⟩:=I.base.slot L o ho (I.ok.frf L hL) hL λz=>I.ok.exfs L z hL
   exact⟨hk,⟨L,_,hf,hn,e,hd⟩,ih (λb hb=>hs b (by unfold frs;rw[jH,hf];exact b6 _ hb)) hr⟩
 exact all X.outer (λ_ hb=>hb) I.ok.funs
theorem Inv.stack (I:Inv X pins σ H s):s.heap.FunFrames X.base X.stack:=by
 rcases I.ok.stk with e| ⟨e,hf⟩
 ·rw[e];exact I.funs
 ·rw[e];obtain⟨m,hn,_⟩:=I.loc;refine .cons (by rw[I.ok.kind];decide) hf hn ?_ I.funs
  exact kM (aT I.ok.bsz I.ok.above)
theorem Inv.stkSub (I:Inv X pins σ H s): ∀b∈frs X.stack,b∈X.env.locals::X.fs:=λb hb=>by
 rcases I.ok.stk with e| ⟨e,hf⟩
 ·rw[e]at hb;exact b6 _ hb
 ·rw[e]at hb;unfold frs at hb;rw[jH,hf]at hb;exact hb
theorem Inv.stkFree (I:Inv X pins σ H s): ∀b∈frs X.stack,H b=none:=λb hb=>by
 rcases aS.mp (I.stkSub b hb)with e|hb
 ·rw[e];exact I.free
 ·obtain⟨_,o,ho,_⟩:=I.ok.funs.mem hb;exact I.base.free b o ho (I.ok.frf b hb) λz=>I.ok.exfs b z hb
theorem Inv.step {g':Array GenState}{t':Nat}{d':Drawn}{ch:List Addr}(I:Inv X pins σ H s)
  (hch: ∀b∈ch,(b∈X.ex\/X.s₀.heap.objs.size<=b)/\b≠X.env.locals/\(∀x c,X.env.cells.lookup x=some c->c≠b)/\ ∀p∈X.pn++pins,p.1≠b)
  (keep: ∀b o,b≠X.env.locals->b ∉ X.fs->b ∉ ch->s.heap.get? b=some o->H b=none->h'.get? b=some o)
  (slot: ∀b o,b≠X.env.locals->b∈X.fs->b ∉ ch->s.heap.get? b=some o->H b=none-> ∃sl,h'.get? b=some {o with slots:=sl}) (free: ∀b o,b ∉ ch->s.heap.get? b=some o->H b=none->H' b=none)
  (there: ∀b o,b ∉ ch->s.heap.get? b=some o-> ∃o',h'.get? b=some o')
  (tups: ∀b xs,H b=some (.tup xs)->H' b=some (.tup xs)) (frzs: ∀b o u,H b=some (.frz o u)->H' b=some (.frz o u)) (tbls: ∀b ps,H b=some (.tbl ps)-> ∃more,H' b=some (.tbl<|ps++more))
  (ns: ∀m,s.heap.Ns X.env.locals m->h'.Ns X.env.locals m) (hok:HOk X.prog X.w H' h') (hg:AllBare g') :
  Inv X pins σ H' {s with heap:=h',gens:=g',drawn:=d',toks:=t'}:=by
 have neL: ∀b o,X.s₀.heap.get? b=some o->b≠X.env.locals:=λb o e=>bE (b9 (aN e) I.ok.above)
 have neC: ∀b o,X.s₀.heap.get? b=some o->b ∉ X.ex->b ∉ ch:=λb o e hx hb=>by
  rcases(hch b hb).1 with z|z
  ·exact hx z
  ·exact absurd (b9 (aN e) z) (cZ _)
 have cellK: ∀x c,X.env.cells.lookup x=some c-> ∀v,s.heap.IsCell c v->h'.IsCell c v:=λx c e v ⟨o,ho,hd⟩=>by
  have nch:c ∉ ch:=λz=>(hch c z).2.2.1 x c e rfl
  by_cases hc:c∈X.fs
  ·obtain⟨sl,q⟩:=slot c o (I.cne x c e) hc nch ho (I.freeC x c e);exact⟨_,q,hd⟩
  ·exact⟨o,keep c o (I.cne x c e) hc nch ho<|I.freeC x c e,hd⟩
 refine⟨I.ok,I.os,hg,⟨λb o e n hb hx=> ?_,λb o e n hb hx=> ?_,λb o e n hx=> ?_,λb o e hx=> ?_,λb xs e=>tups b xs (I.base.tups b xs e),λb o xs e=>frzs b o xs (I.base.frzs b o xs e),λb ps e=> ?_⟩,?_,λx c e=> ?_,?_,λx c e=> ?_,λp hp=> ?_,hok,I.len⟩
 ·exact keep b o (neL b o e) hb (neC b o e hx) (I.base.keep b o e n hb hx) (I.base.free b o e n hx)
 ·obtain⟨sl,e1⟩:=I.base.slot b o e n hb hx;obtain⟨sl',e2⟩:=slot b _ (neL b o e) hb (neC b o e hx) e1 (I.base.free b o e n hx);exact⟨sl',e2⟩
 ·obtain⟨o',e1⟩:=I.base.there b o e hx;exact free b o' (neC b o e hx) e1 (I.base.free b o e n hx)
 ·obtain⟨o',e1⟩:=I.base.there b o e hx;exact there b o' (neC b o e hx) e1
 ·obtain⟨m1,e1⟩:=I.base.tbls b ps e;obtain⟨m2,e2⟩:=tbls b _ e1;exact⟨m1++m2,by rw[e2,Array.append_assoc]⟩
 ·obtain⟨m,hn,hl⟩:=I.loc;refine⟨m,ns m hn,λi x v e1 e2 e3=> ?_⟩
  obtain⟨u,r,l⟩:=hl i x v e1 e2 e3;refine⟨u,r,?_⟩;rcases l with l| ⟨k,c,e,z⟩
  ·exact .inl l
  ·exact .inr ⟨k,c,e,cellK x c e _ z⟩
 ·obtain⟨v,z⟩:=I.cell x c e;exact⟨v,cellK x c e v z⟩
 ·obtain⟨m,⟨o,_,_,ho,_⟩,_⟩:=I.loc;exact free _ o (λz=>(hch _ z).2.1 rfl) ho I.free
 ·obtain⟨v,o,ho,hd⟩:=I.cell x c e;exact free c o (λz=>(hch c z).2.2.1 x c e rfl) ho (I.freeC x c e)
 ·obtain⟨e,n,ne,nf,d⟩:=I.pin p hp;have nch:p.1 ∉ ch:=λz=>(hch p.1 z).2.2.2 p hp rfl
  exact⟨keep p.1 p.2 ne nf nch e n,free p.1 p.2 nch e n,ne,nf,d⟩
theorem Inv.un {t':Nat}(I:Inv X pins σ H s)(u:Un X.fs [] H H' s.heap h')(hok:HOk X.prog X.w H' h'):Inv X pins σ H' {s with heap:=h',toks:=t'}:=by
 obtain⟨m,⟨o,es,ep,ho,r⟩,_⟩:=id I.loc;obtain⟨sl,hL⟩:=u.any ho I.free ae
 exact I.step (g':=s.gens) (d':=s.drawn) (ch:=[]) (λ_ z=>nomatch z) (λb o _ hb _ e n=>u.keep b o e n hb ae) (λb o _ hb _ e n=>u.slot b o e n hb ae) (λb o _ e n=>u.free b o e n ae) (λb o _ e=>u.there b o e ae) u.tups u.frzs u.tbls (λm' hm=>by
  obtain⟨o',es',ep',ho',r'⟩:=hm;rw[ho]at ho';cases ho';exact⟨_,es',ep',hL,r'⟩) hok I.bare
theorem Inv.call {g':Array GenState}{t':Nat}{d':Drawn}{ch:List Addr}(I:Inv X pins σ H s)(u:Un (frs X.stack) ch H H' s.heap h')(hok:HOk X.prog X.w H' h')(hg:AllBare g')
  (hch: ∀b∈ch,(b∈X.ex\/X.s₀.heap.objs.size<=b)/\b≠X.env.locals/\(∀x c,X.env.cells.lookup x=some c->c≠b)/\ ∀p∈X.pn++pins,p.1≠b) :
  Inv X pins σ H' {s with heap:=h',gens:=g',drawn:=d',toks:=t'}:=by
 obtain⟨m,⟨o,es,ep,ho,r⟩,_⟩:=id I.loc;obtain⟨sl,hL⟩:=u.any ho I.free λz=>(hch _ z).2.1 rfl
 exact I.step (ch:=ch) hch (λb o hL hb hc e n=>u.keep b o e n (λz=>(aS.mp<|I.stkSub b z).elim hL hb) hc) (λb o _ _ hc e n=>u.any e n hc) (λb o hc e n=>u.free b o e n hc) (λb o hc e=>u.there b o e hc) u.tups u.frzs u.tbls (λm' hm=>by
  obtain⟨o',es',ep',ho',r'⟩:=hm;rw[ho]at ho';cases ho';exact⟨_,es',ep',hL,r'⟩) hok hg
theorem Inv.turned {t':Nat}{it:Addr}(I:Inv X pins σ H s)(k: ∀b o,b≠it->s.heap.get? b=some o->h'.get? b=some o)(hn:H it=none)(hL:it≠X.env.locals)
  (h1:it∈X.ex\/X.s₀.heap.objs.size<=it) (h2: ∀x c,X.env.cells.lookup x=some c->c≠it) (h3: ∀p∈X.pn++pins,p.1≠it):Inv X pins σ H {s with heap:=h',toks:=t'}:=by
 have nit: ∀b u,H b=some u->b≠it:=λb u e z=>by rw[z,hn]at e;cases e
 refine I.step (g':=s.gens) (d':=s.drawn) (ch:=[it]) (λb hb=> ?_) (λb o _ _ hc e _=>k b o (λz=>hc (by simp[z])) e) (λb o _ _ hc e _=>⟨o.slots,k b o (λz=>hc (by simp[z])) e⟩) (λ_ _ _ _ n=>n)
  (λb o hc e=>⟨o,k b o (λz=>hc (by simp[z])) e⟩) (λ_ _ e=>e) (λ_ _ _ e=>e) (λb ps e=>⟨#[],by rw[e];simp⟩) (λm hm=> ?_) (λb u e=> ?_) I.bare
 ·have e:b=it:=by simpa using hb
  subst e;exact⟨h1,hL,h2,h3⟩
 ·obtain⟨o,es,ep,ho,r⟩:=hm;exact⟨o,es,ep,k _ o (Ne.symm hL) ho,r⟩
 ·refine(I.hok b u e).stay (λc v hc q=>k c v ?_ q) (λ_ q=>q) λ_ _ q=>q
  rcases hc with z|z
  ·rw[z];exact nit b u e
  ·exact nit c _ z
theorem Inv.tok (I:Inv X pins σ H s)(t:Nat):Inv X pins σ H {s with toks:=t}:=I.un (h':=s.heap) (t':=t) Un.refl I.hok
theorem Inv.kept {t':Nat}(I:Inv X pins σ H s)(k: ∀b u,s.heap.get? b=some u->h'.get? b=some u):Inv X pins σ H {s with heap:=h',toks:=t'}:=I.un (Un.kept k) (I.hok.kept k)
theorem Inv.laid {a:Addr}{o:HO}{t':Nat}(I:Inv X pins σ H s)(k: ∀b u,s.heap.get? b=some u->h'.get? b=some u)(hp:s.heap.objs.size<=a)(new:qF X.prog X.w (upd H a o) h' a o) :
  Inv X pins σ (upd H a o) {s with heap:=h',toks:=t'}:=I.un (Un.laid k hp<|I.hok.fresh hp) (I.hok.laid k hp new)
theorem Inv.write {x e:Addr}{o:HO}{t':Nat}(I:Inv X pins σ H s)(mu:Mut (H x))(he:e=x\/H e=some (.own x))(k: ∀b u,b≠e->s.heap.get? b=some u->h'.get? b=some u)(heo: ∃u,h'.get? e=some u)
  (new:qF X.prog X.w (upd H x o) h' x o):Inv X pins σ (upd H x o) {s with heap:=h',toks:=t'}:=I.un (Un.write mu he k heo) (I.hok.write mu he k heo new)
theorem Inv.pins_of {pins':List (Addr×Obj)}(I:Inv X pins σ H s)(h: ∀p∈pins',s.heap.get? p.1=some p.2/\H p.1=none/\p.1≠X.env.locals/\p.1 ∉ X.fs/\ ∀v,p.2.data≠ .cell v):Inv X pins' σ H s:=
 ⟨I.ok,I.os,I.bare,I.base,I.loc,I.cell,I.free,I.freeC,λp hp=>(bS.mp hp).elim (λz=>I.pin p (jG _ z)) (h p),I.hok,I.len⟩
theorem bN3 {N:List Str}(hN:N.Nodup){i j:Nat}{x:Str}(a:N[i]? =some x)(b:N[j]? =some x):i=j:=by
 obtain⟨h1,e1⟩:=kK.mp a;obtain⟨h2,e2⟩:=kK.mp b;exact(List.getElem_inj hN).mp (e1.trans e2.symm)
theorem cB8 {M:Model}{A:Around}{E:Value->Shared->Prop}{i:Nat}{x:Str}{v:V}{u:Value}{Q:Unit->Shared->Prop}(I:Inv X pins σ H s)(hN:X.N.Nodup)(hi:X.N[i]? =some x)(hx:Loc X.env.scope x)(r:RelV v u)
  (h: ∀s',Inv X pins (σ.set i<|some v) H s'->(∃a,SameBut a s.heap s'.heap/\(a=X.env.locals\/X.env.cells.lookup x=some a))->Q () s') (hf:X.fn x=true\/X.env.scope.names.lookup x=some .local:=by walk_at "z"):wpAny M A (storeName X.env x u) Q E s:=by
 obtain⟨m,hn,hl⟩:=id I.loc;have hcls:(X.env.scope.kind== .class||(X.env.scope.kind== .module&&X.env.locals != X.env.globals))=false:=by rw[I.ok.kind];rfl
 have hiσ:i<σ.length:=by rw[I.len];exact(kK.mp hi).1
 have cne:=I.cne;have tracked: ∀{a:Addr} {h':Heap},(∃o,s.heap.get? a=some o/\H a=none)->SameBut a s.heap h'->HOk X.prog X.w H h':=λ{a h'} ha hs b ob e=>by
  obtain⟨_,_,hfree⟩:=ha;refine(I.hok b ob e).stay (λc w' hc q=>(hs.2 c ?_).trans q) (λ_ q=>q) λ_ _ q=>q
  rintro rfl;rcases hc with rfl|hc
  ·rw[hfree]at e;cases e
  ·rw[hfree]at hc;cases hc
 rcases hx with hk|hk
 ·refine wpAny_storeName_local hk hn (λh' hn' hs=> ?_) hcls
  obtain⟨oL,_,_,hoL,_⟩:=id hn;refine h _ ⟨I.ok,I.os,I.bare,⟨λb o e n hb hx=> ?_,λb o e n hb hx=> ?_,I.base.free,λb o e hx=> ?_,I.base.tups,I.base.frzs,I.base.tbls⟩,⟨_,hn',λj y v' e1 e2 e3=> ?_⟩,λy c e=> ?_,I.free,I.freeC,λp hp=> ?_,tracked ⟨oL,hoL,I.free⟩ hs,by simpa using I.len⟩ ⟨_,hs,.inl rfl⟩
  ·exact(hs.2 b<|bE<|b9 (aN e) I.ok.above).trans (I.base.keep b o e n hb hx)
  ·obtain⟨sl,e1⟩:=I.base.slot b o e n hb hx;exact⟨sl,(hs.2 b<|bE<|b9 (aN e) I.ok.above).trans e1⟩
  ·obtain⟨o',e1⟩:=I.base.there b o e hx;exact⟨o',(hs.2 b<|bE<|b9 (aN e) I.ok.above).trans e1⟩
  ·by_cases hj:j=i
   ·subst hj;rw[hi]at e1;cases e1;rw[aD1 hiσ]at e2;cases e2;exact⟨u,r,.inl ⟨hk,ae⟩⟩
   ·rw[sI<|Ne.symm hj]at e2;obtain⟨u',r',q⟩:=hl j y v' e1 e2 e3;refine⟨u',r',?_⟩;rcases q with⟨k,e⟩| ⟨k,c,e,z⟩
    ·refine .inl ⟨k,?_⟩
     have:y≠x:=λe=>hj (bN3 hN e1<|e▸hi)
     simp[this,e]
    ·exact .inr ⟨k,c,e,z.sameBut hs<|cne y c e⟩
  ·obtain⟨w',z⟩:=I.cell y c e;exact⟨w',z.sameBut hs<|cne y c e⟩
  ·obtain⟨e,n,ne,nf,d⟩:=I.pin p hp;exact⟨(hs.2 p.1 ne).trans e,n,ne,nf,d⟩
 ·have hfn:X.fn x=true:=by
   rcases hf with z|z
   ·exact z
   ·rw[z]at hk;cases hk
  obtain⟨c,hc⟩:=I.ok.has x (.inl hk);obtain⟨w',z⟩:=I.cell x c hc;refine wpAny_storeName_cell I.ok.kind hk hc z (λh' hc' hs=> ?_)
  obtain⟨oc,hoc,hocd⟩:=id z;refine h {s with heap:=h'} ⟨I.ok,I.os,I.bare,⟨λb o e n hb hx=> ?_,λb o e n hb hx=> ?_,I.base.free,λb o e hx=> ?_,I.base.tups,I.base.frzs,I.base.tbls⟩,⟨m,hn.sameBut hs<|Ne.symm<|cne x c hc,λj y v' e1 e2 e3=> ?_⟩,λy c' e=> ?_,I.free,I.freeC,λp hp=> ?_,tracked ⟨oc,hoc,I.freeC x c hc⟩ hs,by simpa using I.len⟩ ⟨c,hs,.inr hc⟩
  ·exact(hs.2 b<|bE<|b9 (aN e)<|I.ok.cab x c hfn hc).trans (I.base.keep b o e n hb hx)
  ·obtain⟨sl,e1⟩:=I.base.slot b o e n hb hx;exact⟨sl,(hs.2 b<|bE<|b9 (aN e)<|I.ok.cab x c hfn hc).trans e1⟩
  ·obtain⟨o',e1⟩:=I.base.there b o e hx;exact⟨o',(hs.2 b<|bE<|b9 (aN e)<|I.ok.cab x c hfn hc).trans e1⟩
  ·by_cases hj:j=i
   ·subst hj;rw[hi]at e1;cases e1;rw[aD1 hiσ]at e2;cases e2;exact⟨u,r,.inr ⟨.inl hk,c,hc,hc'⟩⟩
   ·rw[sI<|Ne.symm hj]at e2;obtain⟨u',r',q⟩:=hl j y v' e1 e2 e3;refine⟨u',r',?_⟩;rcases q with q| ⟨k,c',e,z'⟩
    ·exact .inl q
    ·refine .inr ⟨k,c',e,z'.sameBut hs ?_⟩
     rintro rfl;exact hj (bN3 hN e1<|I.ok.inj _ _ _ e hc▸hi)
  ·by_cases hcc:c'=c
   ·subst hcc;exact⟨_,hc'⟩
   ·obtain⟨w2,z2⟩:=I.cell y c' e;exact⟨w2,z2.sameBut hs hcc⟩
  ·obtain⟨e,n,ne,nf,d⟩:=I.pin p hp;refine⟨(hs.2 p.1 ?_).trans e,n,ne,nf,d⟩;intro q;rw[q,hoc]at e;have q':oc=p.2:=gK e;exact d w' (by rw[<-q'];exact hocd)
theorem aJ2 {M:Model}{A:Around}{E:Value->Shared->Prop}{i:Nat}{x:Str}{v:V}{u:Value}{Q:Unit->Shared->Prop}(I:Inv X pins σ H s)(hN:X.N.Nodup)(hi:X.N[i]? =some x)(hx:Loc X.env.scope x)(r:RelV v u)
  (h: ∀s',Inv X pins (σ.set i<|some v) H s'->Q () s') (hf:X.fn x=true\/X.env.scope.names.lookup x=some .local:=by walk_at "z"):wpAny M A (storeName X.env x u) Q E s:=
 cB8 I hN hi hx r (λs' I' _=>h s' I') hf
theorem Inv.call' {s':Shared}{ch:List Addr}(I:Inv X pins σ H s)(ho:s'.os=s.os)(u:Un (frs X.stack) ch H H' s.heap s'.heap)(hok:HOk X.prog X.w H' s'.heap)(hg:AllBare s'.gens)
  (hch: ∀b∈ch,(b∈X.ex\/X.s₀.heap.objs.size<=b)/\b≠X.env.locals/\(∀x c,X.env.cells.lookup x=some c->c≠b)/\ ∀p∈X.pn++pins,p.1≠b):Inv X pins σ H' s':=by
 obtain⟨h',g',d',t',o'⟩:=s';have e:o'=s.os:=ho;subst e;exact I.call (g':=g') (t':=t') (d':=d') u hok hg hch
end
abbrev XK:=Value->Option Addr->Hp->Prop
abbrev St:=List (Option V)
abbrev VK:=V->Hp->Prop
abbrev TE:=St->Hp->VK->Prop
abbrev TT:=St->Hp->(Bool->Hp->Prop)->Prop
abbrev TA:=St->Hp->(List V->Hp->Prop)->Prop
structure b76 where
 nx:St->Hp->Prop
 rt:VK
 bk:St->Hp->Prop:=λ_ _=>False
 ct:St->Hp->Prop:=λ_ _=>False
abbrev TS:=b76->St->Hp->Prop
def EP (X:Cx)(pins:List (Addr×Obj))(σ:St)(Q:VK)(u:Value)(s':Shared):Prop:= ∃v H',Inv X pins σ H' s'/\RelV v u/\Q v H'
def TP (X:Cx)(pins:List (Addr×Obj))(σ:St)(Q:Bool->Hp->Prop)(b:Bool)(s':Shared):Prop:= ∃H',Inv X pins σ H' s'/\Q b H'
def AP (X:Cx)(pins:List (Addr×Obj))(σ:St)(Q:List V->Hp->Prop)(us:List Value)(s':Shared):Prop:= ∃vs H',Inv X pins σ H' s'/\Vals vs us/\Q vs H'
def SP (X:Cx)(pins:List (Addr×Obj))(D:b76)(f:Flow)(s':Shared):Prop:=
 match f with
 | .next=> ∃σ' H',Inv X pins σ' H' s'/\D.nx σ' H'
 | .brk=> ∃σ' H',Inv X pins σ' H' s'/\D.bk σ' H'
 | .cont=> ∃σ' H',Inv X pins σ' H' s'/\D.ct σ' H'
 | .ret u=> ∃v σ' H',Inv X pins σ' H' s'/\RelV v u/\D.rt v H'
def PE (X:Cx)(e:Expr)(t:TE):Prop:=
 ∀(pins:List (Addr×Obj)) (s:Shared) (σ:St) (H:Hp) (Q:VK),Inv X pins σ H s->t σ H Q->wpAny (model X.prog X.w) X.A (eval e X.env) (EP X pins σ Q) X.xe s
def PT (X:Cx)(e:Expr)(t:TT):Prop:=
 ∀(pins:List (Addr×Obj)) (s:Shared) (σ:St) (H:Hp) (Q:Bool->Hp->Prop),Inv X pins σ H s->t σ H Q->wpAny (model X.prog X.w) X.A (isTrue e X.env<|eval e X.env) (TP X pins σ Q) X.xe s
def PW (X:Cx)(e:Expr)(t:TT):Prop:=
 ∀(whole:Sem Value) (pins:List (Addr×Obj)) (s:Shared) (σ:St) (H:Hp) (Q:Bool->Hp->Prop),Inv X pins σ H s->t σ H Q->wpAny (model X.prog X.w) X.A (isTrue e X.env whole) (TP X pins σ Q) X.xe s
theorem PW.pt {X:Cx}{e:Expr}{t:TT}(h:PW X e t):PT X e t:=h _
def PA (X:Cx)(es:List Expr)(t:TA):Prop:=
 ∀(pos:Pos) (pins:List (Addr×Obj)) (s:Shared) (σ:St) (H:Hp) (Q:List V->Hp->Prop),Inv X pins σ H s->t σ H Q->wpAny (model X.prog X.w) X.A (spliced<|backTo pos<|starEach es X.env) (AP X pins σ Q) X.xe s
def PS (X:Cx)(st:Stmt)(t:TS):Prop:=
 ∀(pins:List (Addr×Obj)) (s:Shared) (σ:St) (H:Hp) (D:b76),Inv X pins σ H s->t D σ H->wpAny (model X.prog X.w) X.A (exec st X.env) (SP X pins D) X.xe s
def PSs (X:Cx)(st:List Stmt)(t:TS):Prop:=
 ∀(pins:List (Addr×Obj)) (s:Shared) (σ:St) (H:Hp) (D:b76),Inv X pins σ H s->t D σ H->wpAny (model X.prog X.w) X.A (execs st X.env) (SP X pins D) X.xe s
theorem thn {α:Type}{t:Sem α}{Q Q':α->Shared->Prop}{M:Model}{A:Around}{E:Value->Shared->Prop}{s:Shared}(h:wpAny M A t Q E s)(hQ: ∀a s,Q a s->Q' a s):wpAny M A t Q' E s:=bD h hQ λ_ _ x=>x
end L2
namespace L2
open PySem PySem.Spec PyProof.Rows
section
variable {X:Cx}
def a08 (i:Nat):TE:=λσ H Q=> ∃v,σ[i]? =some (some v)/\Q v H
def tC (v:V):TE:=λ_ H Q=>Q v H
theorem pe_var {i:Nat}{x:Str}{pos:Pos}(hN:X.N[i]? =some x)(hv:Vis X.env.scope x)(hd:(x==("__debug__":Str))=false:=by decide)(hcd:(x==("__classdict__":Str))=false:=by decide):PE X (.Name x pos) (a08 i):=by
 intro pins s σ H Q I h;obtain⟨v,e,h⟩:=h;obtain⟨m,hn,hl⟩:=I.loc;obtain⟨u,r,l⟩:=hl i x v hN e hv;have fin:EP X pins σ Q u s:=⟨v,H,I,r,h⟩;rcases l with⟨hk,hm⟩| ⟨hk,c,hc,hcell⟩
 ·exact n8 (oR I.ok.kind hk hn hm fin) hd
 ·rcases hk with hk|hk
  ·exact n8 (wpAny_loadName_cell I.ok.kind hk hc hcell fin) hd
  ·exact n8 (wpAny_loadName_free I.ok.kind hk hc hcell fin hcd) hd
theorem pe_int {i j pos}:PE X (.Constant (.int i) j pos) (tC<|.int i):=λ_ _ _ H _ I h=>wpAny_Constant_int ⟨.int i,H,I.tok _,⟨_,rfl⟩,h⟩
theorem pe_bl {b j pos}:PE X (.Constant (.bool b) j pos) (tC<|.bl b):=λ_ _ _ H _ I h=>Constant_bool ⟨.bl b,H,I,rfl,h⟩
theorem pe_non {j pos}:PE X (.Constant .none j pos) (tC .non):=λ_ _ _ H _ I h=>Constant_none ⟨.non,H,I,rfl,h⟩
theorem pe_str {x j pos}:PE X (.Constant (.str x) j pos) (tC<|.str x):=λ_ _ _ H _ I h=>Calls.Constant_str ⟨.str x,H,I.tok _,⟨_,rfl⟩,h⟩
def Gl (X:Cx)(x:Str):Prop:=X.env.kindOf x=some .globalImplicit
theorem uL {E:Value->Shared->Prop}{pins:List (Addr×Obj)}{s:Shared}{σ:St}{H:Hp}{x:Str}{u:Value}{pos:Pos}{Q:Value->Shared->Prop}(I:Inv X pins σ H s)(hg:Gl X x)(hm:X.mg x=some u)(h:Q u s)
  (hd:(x==("__debug__":Str))=false:=by decide):wpAny (model X.prog X.w) X.A (eval (.Name x pos) X.env) Q E s:=
 Calls.Name_function_global I.ok.kind hg (Calls.loadGlobal_global (by rw[I.ok.glob];exact I.mod.glob.keeps I.bk) hm h) hd
theorem tG {E:Value->Shared->Prop}{pins:List (Addr×Obj)}{s:Shared}{σ:St}{H:Hp}{x:Str}{u:Value}{pos:Pos}{Q:Value->Shared->Prop}(I:Inv X pins σ H s)(hg:Gl X x)(hm:X.mg x=none)(hv:bootBuiltins x=some u)(h:Q u s)
  (hn:x≠"__name__":=by decide) (hd:(x==("__debug__":Str))=false:=by decide):wpAny (model X.prog X.w) X.A (eval (.Name x pos) X.env) Q E s:=by
 obtain⟨mb,h1,h2⟩:=I.mod.blt;exact Calls.Name_function_global I.ok.kind hg (Calls.loadGlobal_builtin (by rw[I.ok.glob];exact I.mod.glob.keeps I.bk) hm (by rw[I.ok.blt];exact h1.keeps I.bk) ((h2 x hn).trans hv) h) hd
theorem c56 {x:Str}{v:V}{u:Value}{pos:Pos}(hg:Gl X x)(hm:X.mg x=some u)(r:RelV v u)(hd:(x==("__debug__":Str))=false:=by decide):PE X (.Name x pos) (tC v):=
 λ_ _ _ H _ I h=>uL I hg hm ⟨v,H,I,r,h⟩ hd
theorem cX3 {x:Str}{v:V}{u:Value}{pos:Pos}(hg:Gl X x)(hm:X.mg x=none)(hv:bootBuiltins x=some u)(r:RelV v u)(hn:x≠"__name__":=by decide)(hd:(x==("__debug__":Str))=false:=by decide):PE X (.Name x pos) (tC v):=
 λ_ _ _ H _ I h=>tG I hg hm hv ⟨v,H,I,r,h⟩ hn hd
variable {a b:Expr}{ta tb:TE}{pos:Pos}
def PC (X:Cx)(op:CmpOp)(a b:Expr)(t:TE):Prop:=
 ∀(pins:List (Addr×Obj)) (s:Shared) (σ:St) (H:Hp) (Q:VK),Inv X pins σ H s->t σ H Q->
  wpAny (model X.prog X.w) X.A (eval a X.env) (λv s₁=>wpAny (model X.prog X.w) X.A (eval b X.env) (λu s₂=>wpAny (model X.prog X.w) X.A (compareOp op v u) (EP X pins σ Q) X.xe s₂) X.xe s₁) X.xe s
theorem cH8 (b:Expr){op:CmpOp}(h:op≠ .In)(h2:op≠ .NotIn):behindInMarks op b=false:=by
 have e1:(op==CmpOp.In)=false:=by cases op<;>first|rfl|exact absurd rfl h
 have e2:(op==CmpOp.NotIn)=false:=by cases op<;>first|rfl|exact absurd rfl h2
 cases b<;>simp[behindInMarks,e1,e2]
def tIsN (ta:TE):TE:=λσ H Q=>ta σ H λx H1=>Q (.bl<|decide (x= .non)) H1
def d87 (ta:TE):TE:=λσ H Q=>ta σ H λx H1=>Q (.bl<|!decide (x= .non)) H1
theorem RelV.none_iff {x:V}{v:Value}(r:RelV x v):(v==Value.none)=decide (x= .non):=by
 cases x with
 | non=>cases r;rfl
 | bl _=>cases r;rfl
 | int _=>obtain⟨t,rfl⟩:=r;rfl
 | str _=>obtain⟨t,rfl⟩:=r;rfl
 | byt _=>obtain⟨t,rfl⟩:=r;rfl
 | flt _=>obtain⟨t,rfl⟩:=r;rfl
 | ref _=>cases r;rfl
 | ty _=>cases r;rfl
theorem pc_isN {j pos'}(ha:PE X a ta):PC X .Is a (.Constant .none j pos') (tIsN ta):=by
 intro pins s σ H Q I h;refine thn (ha pins s σ H _ I h) λv s1 ⟨x,H1,I1,r1,q1⟩=> ?_
 exact Constant_none (is_none_gen ⟨.bl _,H1,I1,by rw[r1.none_iff];rfl,q1⟩)
theorem cX4 {j pos'}(ha:PE X a ta):PC X .IsNot a (.Constant .none j pos') (d87 ta):=by
 intro pins s σ H Q I h;refine thn (ha pins s σ H _ I h) λv s1 ⟨x,H1,I1,r1,q1⟩=> ?_
 exact Constant_none (isnot_none_gen ⟨.bl _,H1,I1,by rw[r1.none_iff];rfl,q1⟩)
def tB (t:TE):TT:=λσ H Q=>t σ H λx H1=> ∃c,x= .bl c/\Q c H1
theorem cH9 {op:CmpOp}{t:TE}(h:PC X op a b t)(h1:behindInMarks op b=false:=by first|exact cH8 _ ac ac|rfl):PT X (.Compare a [op] [b] pos) (tB t):=by
 intro pins s σ H Q I hw;refine wpAny_isTrue_Compare1 (thn (h pins s σ H _ I hw) λv s1 h1=>thn h1 λu s2 h2=>thn h2 λc s3 ⟨x,H1,I1,r1,q1⟩=> ?_) h1
 obtain⟨d,rfl,q⟩:=q1;cases r1;exact jK ⟨H1,I1,q⟩
theorem pt_val {e:Expr}{t:TE}(h:PE X e t)(he: ∀whole,isTrue e X.env whole=(do let v<-whole;standAt e.pos;holding [v] (truthy v)):=by intro _;rfl):PT X e (tB t):=by
 intro pins s σ H Q I hw;refine isTrue_plain (thn (h pins s σ H _ I hw) λv s1 ⟨x,H1,I1,r1,q1⟩=> ?_) (he _)
 obtain⟨d,rfl,q⟩:=q1;cases r1;exact jK ⟨H1,I1,q⟩
variable {tA tB':TT}{nR:List Expr}
def tAnd (t u:TT):TT:=λσ H Q=>t σ H λc H1=>if c=true then u σ H1 Q else Q false H1
def tOr (t u:TT):TT:=λσ H Q=>t σ H λc H1=>if c=true then Q true H1 else u σ H1 Q
def tNot (t:TT):TT:=λσ H Q=>t σ H λc H1=>Q (!c) H1
theorem cX5 (ha:PT X a tA):PW X (.BoolOp .And [a] pos) tA:=by
 intro wh pins s σ H Q I h;refine isTrue_and (thn (ha pins s σ H Q I h) λc s1 e=> ?_)
 cases c with
 | true=>exact isTrue_and_nil e
 | false=>exact e
theorem pw_or1 (ha:PT X a tA):PW X (.BoolOp .Or [a] pos) tA:=by
 intro wh pins s σ H Q I h;refine isTrue_or (thn (ha pins s σ H Q I h) λc s1 e=> ?_)
 cases c with
 | false=>exact isTrue_or_nil e
 | true=>exact e
theorem pw_and (ha:PT X a tA)(hb:PW X (.BoolOp .And (b::nR) pos) tB'):PW X (.BoolOp .And (a::b::nR) pos) (tAnd tA tB'):=by
 intro wh pins s σ H Q I h;refine isTrue_and (thn (ha pins s σ H _ I h) λc s1 ⟨H1,I1,q1⟩=> ?_)
 cases c with
 | true=>exact hb wh pins s1 σ H1 Q I1 q1
 | false=>exact⟨H1,I1,q1⟩
theorem pw_or (ha:PT X a tA)(hb:PW X (.BoolOp .Or (b::nR) pos) tB'):PW X (.BoolOp .Or (a::b::nR) pos) (tOr tA tB'):=by
 intro wh pins s σ H Q I h;refine isTrue_or (thn (ha pins s σ H _ I h) λc s1 ⟨H1,I1,q1⟩=> ?_)
 cases c with
 | true=>exact⟨H1,I1,q1⟩
 | false=>exact hb wh pins s1 σ H1 Q I1 q1
theorem pt_not (ha:PT X a tA):PT X (.UnaryOp .Not a pos) (tNot tA):=by
 intro pins s σ H Q I h;exact isTrue_not (ha pins s σ H (λc H1=>Q (!c) H1) I h)
def tAndV (ta tb:TE):TE:=λσ H Q=>ta σ H λx H1=> ∃c,x= .bl c/\if c=true then tb σ H1 Q else Q (.bl false) H1
def tOrV (ta tb:TE):TE:=λσ H Q=>ta σ H λx H1=> ∃c,x= .bl c/\if c=true then Q (.bl true) H1 else tb σ H1 Q
def tNotV (ta:TE):TE:=λσ H Q=>ta σ H λx H1=> ∃c,x= .bl c/\Q (.bl<|!c) H1
theorem pe_one {op}{t:TE}(h:PE X a t):PE X (.BoolOp op [a] pos) t:=λpins s σ H Q I hw=>BoolOp_one (h pins s σ H Q I hw)
theorem pe_and (ha:PE X a ta)(hb:PE X (.BoolOp .And (b::nR) pos) tb):PE X (.BoolOp .And (a::b::nR) pos) (tAndV ta tb):=by
 intro pins s σ H Q I h;refine BoolOp_and (thn (ha pins s σ H _ I h) λv s1 ⟨x,H1,I1,r1,q1⟩=> ?_)
 obtain⟨c,rfl,q1⟩:=q1;cases r1;refine jK ?_;cases c with
 | true=>exact hb pins s1 σ H1 Q I1 q1
 | false=>exact⟨.bl false,H1,I1,rfl,q1⟩
theorem pe_or (ha:PE X a ta)(hb:PE X (.BoolOp .Or (b::nR) pos) tb):PE X (.BoolOp .Or (a::b::nR) pos) (tOrV ta tb):=by
 intro pins s σ H Q I h;refine BoolOp_or (thn (ha pins s σ H _ I h) λv s1 ⟨x,H1,I1,r1,q1⟩=> ?_)
 obtain⟨c,rfl,q1⟩:=q1;cases r1;refine jK ?_;cases c with
 | false=>exact hb pins s1 σ H1 Q I1 q1
 | true=>exact⟨.bl true,H1,I1,rfl,q1⟩
theorem pe_not (ha:PE X a ta):PE X (.UnaryOp .Not a pos) (tNotV ta):=by
 intro pins s σ H Q I h;refine UnaryOp_ (thn (ha pins s σ H _ I h) λv s1 ⟨x,H1,I1,r1,q1⟩=> ?_)
 obtain⟨c,rfl,q1⟩:=q1;cases r1;exact not_of (jK ⟨.bl<|!c,H1,I1,rfl,q1⟩)
def tIf (t:TT)(ta tb:TE):TE:=λσ H Q=>t σ H λc H1=>if c=true then ta σ H1 Q else tb σ H1 Q
theorem cI0 {c:Expr}(hc:PT X c tA)(ha:PE X a ta)(hb:PE X b tb):PE X (.IfExp c a b pos) (tIf tA ta tb):=by
 intro pins s σ H Q I h;refine wpAny_IfExp (thn (hc pins s σ H _ I h) λd s1 ⟨H1,I1,q1⟩=> ?_)
 cases d with
 | true=>exact ha pins s1 σ H1 Q I1 q1
 | false=>exact hb pins s1 σ H1 Q I1 q1
end
end L2
namespace L2
open PySem PySem.Spec PyProof.Rows
def SqL (K:Frag)(H:Hp)(a:Addr)(xs:List V):Prop:=
 Rd H a (.lst xs)\/
  ∃(o:Obj) (its:Array Value) (n:Nat),K.lookup a=some o/\o.cls= .type "list"/\o.dict=none/\o.data= .seq its n/\its.size<=sizeLine/\Vals xs its.toList
def SqT (K:Frag)(H:Hp)(a:Addr)(xs:List V):Prop:=
 Rd H a (.tup xs)\/
  ∃(o:Obj) (its:Array Value) (n:Nat),K.lookup a=some o/\o.cls= .type "tuple"/\o.data= .seq its n/\its.size<=sizeLine/\Vals xs its.toList
noncomputable def absV:Value->Option V
 | .none=>some .non
 | .bool b=>some (.bl b)
 | .int i _=>some (.int i)
 | .str x _=>some (.str x)
 | .bytes b _=>some (.byt b)
 | .float b _=>some (.flt b)
 | .ref a=>some (.ref a)
 | .type n=>some (.ty n)
 | _=>none
theorem RelV.abs {x:V}{u:Value}(r:RelV x u):absV u=some x:=by
 cases x with
 | non=>cases r;rfl
 | bl _=>cases r;rfl
 | int _=>obtain⟨t,rfl⟩:=r;rfl
 | str _=>obtain⟨t,rfl⟩:=r;rfl
 | byt _=>obtain⟨t,rfl⟩:=r;rfl
 | flt _=>obtain⟨t,rfl⟩:=r;rfl
 | ref _=>cases r;rfl
 | ty _=>cases r;rfl
theorem RelV.inj {x y:V}{u:Value}(r:RelV x u)(q:RelV y u):x=y:=gK (r.abs.symm.trans q.abs)
theorem Vals.inj: ∀{xs ys:List V} {us:List Value},Vals xs us->Vals ys us->xs=ys
 | _,_,_,.nil,.nil=>rfl
 | _,_,_,.cons r t,.cons r' t'=>by rw[r.inj r',Vals.inj t t']
section
variable {X:Cx}{pins:List (Addr×Obj)}{σ:St}{H:Hp}{s:Shared}{a:Addr}{xs ys:List V}
theorem SqL.of {K:Frag}(h:H a=some (.lst xs)):SqL K H a xs:= .inl (.inl h)
theorem Inv.list (I:Inv X pins σ H s)(h:SqL X.K H a xs): ∃its:List Value,Vals xs its/\PlainL s.heap a its.toArray/\xs.length<=sizeLine:=by
 rcases h with h| ⟨o,its,n,hk,hc,hd,hs,hz,r⟩
 ·obtain⟨z,its,n,r,e⟩:=h.ok I.hok;exact⟨its,r,⟨_,n,e,rfl,rfl,rfl⟩,z⟩
 ·refine⟨its.toList,r,⟨o,n,I.kIn a o hk,hc,hd,by simpa using hs⟩,?_⟩
  have e:=r.length;simp only[aE3]at e
  lia
theorem Inv.tuple (I:Inv X pins σ H s)(h:SqT X.K H a xs): ∃its:List Value,Vals xs its/\IsTup s.heap a its.toArray/\xs.length<=sizeLine:=by
 rcases h with h| ⟨o,its,n,hk,hc,hs,hz,r⟩
 ·obtain⟨z,its,r,p⟩:=h.ok I.hok;exact⟨its,r,p,z⟩
 ·refine⟨its.toList,r,⟨o,I.kIn a o hk,hc,n,by simpa using hs⟩,?_⟩
  have e:=r.length;simp only[aE3]at e
  lia
theorem Inv.list_inj (I:Inv X pins σ H s)(h:SqL X.K H a xs)(h':SqL X.K H a ys):xs=ys:=by
 obtain⟨its,r,⟨o,n,e,_,_,d⟩,_⟩:=I.list h;obtain⟨its',r',⟨o',n',e',_,_,d'⟩,_⟩:=I.list h';rw[e]at e';cases e';rw[d]at d'
 injection d' with d1 _
 have:its=its':=by simpa using bP toList d1
 subst this;exact r.inj r'
theorem Inv.tuple_inj (I:Inv X pins σ H s)(h:SqT X.K H a xs)(h':SqT X.K H a ys):xs=ys:=by
 obtain⟨its,r,⟨o,e,_,n,d⟩,_⟩:=I.tuple h;obtain⟨its',r',⟨o',e',_,n',d'⟩,_⟩:=I.tuple h';rw[e]at e';cases e';rw[d]at d'
 injection d' with d1 _
 have:its=its':=by simpa using bP toList d1
 subst this;exact r.inj r'
end
noncomputable abbrev Cx.wish (X:Cx)(E:Value->Shared->Prop):Cx:={X with xe:=E}
noncomputable abbrev Cx.nox (X:Cx):Cx:=X.wish λ_ _=>False
theorem Cx.Ok.wish {X:Cx}(ok:X.Ok)(E:Value->Shared->Prop):(X.wish E).Ok:=
 ⟨ok.mod,ok.kind,ok.glob,ok.blt,ok.above,ok.inj,ok.has,ok.cab,ok.hd,ok.frames,ok.stk,ok.exf,ok.bs,ok.bsz,ok.noex,ok.exfs,ok.funs,ok.frf⟩
theorem Cx.Ok.unwish {X:Cx}{E:Value->Shared->Prop}(ok:(X.wish E).Ok):X.Ok:=
 ⟨ok.mod,ok.kind,ok.glob,ok.blt,ok.above,ok.inj,ok.has,ok.cab,ok.hd,ok.frames,ok.stk,ok.exf,ok.bs,ok.bsz,ok.noex,ok.exfs,ok.funs,ok.frf⟩
section
variable {X:Cx}{pins:List (Addr×Obj)}{σ:St}{H:Hp}{s:Shared}{E:Value->Shared->Prop}
theorem Inv.wish (I:Inv X pins σ H s)(E:Value->Shared->Prop):Inv (X.wish E) pins σ H s:=⟨I.ok.wish E,I.os,I.bare,I.base,I.loc,I.cell,I.free,I.freeC,I.pin,I.hok,I.len⟩
theorem Inv.unwish (I:Inv (X.wish E) pins σ H s):Inv X pins σ H s:=⟨I.ok.unwish,I.os,I.bare,I.base,I.loc,I.cell,I.free,I.freeC,I.pin,I.hok,I.len⟩
theorem SP.unwish {D:b76}{f:Flow}{s':Shared}(h:SP (X.wish E) pins D f s'):SP X pins D f s':=by
 cases f with
 | next=>obtain⟨σ',H',I,q⟩:=h;exact⟨σ',H',I.unwish,q⟩
 | brk=>obtain⟨σ',H',I,q⟩:=h;exact⟨σ',H',I.unwish,q⟩
 | cont=>obtain⟨σ',H',I,q⟩:=h;exact⟨σ',H',I.unwish,q⟩
 | ret u=>obtain⟨v,σ',H',I,r,q⟩:=h;exact⟨v,σ',H',I.unwish,r,q⟩
theorem PSs.nox {st:List Stmt}{t:TS}(h:PSs X.nox st t):PSs X st t:=λpins s σ H D I hw=>
 bD (h pins s σ H D (I.wish _) hw) (λ_ _ q=>q.unwish) λ_ _ z=>False.elim z
end
section
variable {X:Cx}{st:Stmt}{nR:List Stmt}{t u:TS}{e:Expr}{te:TE}{pos:Pos}
def tNext:TS:=λD σ H=>D.nx σ H
def tSeq (t u:TS):TS:=λD σ H=>t {D with nx:=u D} σ H
theorem cX6:PSs X [] tNext:=λ_ _ σ H _ I h=>mV ⟨σ,H,I,h⟩
theorem qG (h1:PS X st t)(h2:PSs X nR u):PSs X (st::nR) (tSeq t u):=by
 intro pins s σ H D I h;refine sQ (thn (h1 pins s σ H {D with nx:=u D} I h) λf s1 q=> ?_)
 cases f with
 | next=>
  obtain⟨σ',H',I',q⟩:=q;exact h2 pins s1 σ' H' D I' q
 | ret v=>exact q
 | brk=>exact q
 | cont=>exact q
theorem a80 (h1:PS X st t):PSs X [st] t:=by
 intro pins s σ H D I h;refine sQ (thn (h1 pins s σ H D I h) λf s1 q=> ?_)
 cases f with
 | next=>exact mV q
 | ret v=>exact q
 | brk=>exact q
 | cont=>exact q
theorem Inv.quiet {pins:List (Addr×Obj)}{σ:St}{H:Hp}{s:Shared}(I:Inv X pins σ H s):interactive X.env=false:=by simp[interactive,I.ok.kind]
def tDrop (te:TE):TS:=λD σ H=>te σ H λ_ H1=>D.nx σ H1
theorem a81 (he:PE X e te)(hs:swapsWith e none pos.line X.env=pure false:=by rfl):PS X (.Expr e pos) (tDrop te):=by
 intro pins s σ H D I h;exact wpAny_Expr_any (thn (he pins s σ H _ I h) λv s1 ⟨x,H1,I1,r1,q1⟩=>⟨σ,H1,I1,q1⟩) I.quiet hs
def tRet (te:TE):TS:=λD σ H=>te σ H D.rt
theorem cI1 (he:PE X e te):PS X (.Return (some e) pos) (tRet te):=by
 intro pins s σ H D I h;exact wpAny_Return_some (thn (he pins s σ H _ I h) λv s1 ⟨x,H1,I1,r1,q1⟩=>⟨x,σ,H1,I1,r1,q1⟩)
def tIfS (c:TT)(t u:TS):TS:=λD σ H=>c σ H λb H1=>if b=true then t D σ H1 else u D σ H1
theorem d88 {c:Expr}{a b:List Stmt}{tc:TT}(hc:PT X c tc)(ha:PSs X a t)(hb:PSs X b u):PS X (.If c a b pos) (tIfS tc t u):=by
 intro pins s σ H D I h;refine wpAny_If (thn (hc pins s σ H _ I h) λd s1 ⟨H1,I1,q1⟩=> ?_)
 cases d with
 | true=>exact ha pins s1 σ H1 D I1 q1
 | false=>exact hb pins s1 σ H1 D I1 q1
def tNever:TS:=λ_ _ _=>False
theorem cI2:PS X st tNever:=λ_ _ _ _ _ _ h=>h.elim
end
abbrev TG:=V->St->Hp->(St->Hp->Prop)->Prop
abbrev TGs:=List V->St->Hp->(St->Hp->Prop)->Prop
def PG (X:Cx)(target:Expr)(t:TG):Prop:=
 ∀(pins:List (Addr×Obj)) (s:Shared) (σ:St) (H:Hp) (v:V) (u:Value) (Q:St->Hp->Prop),Inv X pins σ H s->RelV v u->t v σ H Q->
  wpAny (model X.prog X.w) X.A (assign target X.env u) (λ_ s'=> ∃σ' H',Inv X pins σ' H' s'/\Q σ' H') X.xe s
def PGs (X:Cx)(ts:List Expr)(t:TGs):Prop:=
 ∀(pins:List (Addr×Obj)) (s:Shared) (σ:St) (H:Hp) (vs:List V) (us:List Value) (Q:St->Hp->Prop),Inv X pins σ H s->Vals vs us->t vs σ H Q->
  wpAny (model X.prog X.w) X.A (assignInOrder ((assignEach ts X.env).map (·.2)) us) (λ_ s'=> ∃σ' H',Inv X pins σ' H' s'/\Q σ' H') X.xe s
abbrev cI3:=V->V->V->Hp->(Hp->Prop)->Prop
def PSet (X:Cx)(t:cI3):Prop:=
 ∀(pins:List (Addr×Obj)) (s:Shared) (σ:St) (H:Hp) (o i v:V) (ov iv u:Value) (Q:Hp->Prop),Inv X pins σ H s->RelV o ov->RelV i iv->RelV v u->t o i v H Q->
  wpAny (model X.prog X.w) X.A (setItem ov iv u) (λ_ s'=> ∃H',Inv X pins σ H' s'/\Q H') X.xe s
abbrev TIp:=V->V->Hp->VK->Prop
def PIp (X:Cx)(op:Operator)(t:TIp):Prop:=
 ∀(pins:List (Addr×Obj)) (s:Shared) (σ:St) (H:Hp) (x y:V) (v u:Value) (Q:VK),Inv X pins σ H s->RelV x v->RelV y u->t x y H Q->
  wpAny (model X.prog X.w) X.A (inplaceOp op v u) (EP X pins σ Q) X.xe s
section
variable {X:Cx}{pos:Pos}
def a14 (i:Nat):TG:=λv σ H Q=>Q (σ.set i<|some v) H
theorem dI {i:Nat}{x:Str}(hN:X.N.Nodup)(hi:X.N[i]? =some x)(hx:Loc X.env.scope x)(hf:X.fn x=true\/X.env.scope.names.lookup x=some .local:=by walk_at "z"):PG X (.Name x pos) (a14 i):=by
 intro pins s σ H v u Q I r h;exact wpAny_assign_Name (aJ2 I hN hi hx r (λs' I'=>⟨_,H,I',h⟩) hf)
def gNil:TGs:=λvs σ H Q=>vs=[]/\Q σ H
def gCons (t:TG)(u:TGs):TGs:=λvs σ H Q=> ∃v r,vs=v::r/\t v σ H λσ' H'=>u r σ' H' Q
theorem cX7:PGs X [] gNil:=by
 intro pins s σ H vs us Q I r h;obtain⟨e,h⟩:=h;subst e;cases r;exact assignInOrder_nil ⟨σ,H,I,h⟩
theorem cI4 {e:Expr}{es:List Expr}{t:TG}{u:TGs}(h1:PG X e t)(h2:PGs X es u)
  (hs:(assignEach (e::es) X.env).map (·.2)=assign e X.env::(assignEach es X.env).map (·.2):=by rfl):PGs X (e::es) (gCons t u):=by
 intro pins s σ H vs us Q I r h;obtain⟨v,vr,e1,h⟩:=h;subst e1;cases r with
 | cons r rr=>
  rw[hs];refine assignInOrder_cons (thn (h1 pins s σ H _ _ _ I r h) λ_ s1 ⟨σ1,H1,I1,q1⟩=> ?_)
  exact h2 pins s1 σ1 H1 _ _ Q I1 rr q1
def gTup (K:Frag)(n:Nat)(t:TGs):TG:=λv σ H Q=> ∃a xs,v= .ref a/\SqT K H a xs/\xs.length=n/\t xs σ H Q
theorem pg_tup {es:List Expr}{k:Nat}{t:TGs}{n:Nat}(hc:X.calm=true)(h:PGs X es t)
  (hn:(assignEach es X.env).length=n:=by rfl) (hst:(assignEach es X.env).findIdx? (·.1)=none:=by rfl):PG X (.Tuple es k pos) (gTup X.K n t):=by
 intro pins s σ H v u Q I r hw;obtain⟨a,xs,e1,hq,hl,hw⟩:=hw;subst e1;cases r;obtain⟨its,rv,ht,hz⟩:=I.tuple hq;refine assign_Tuple_tuple (I.ok.hd hc) ht (by simp[hn,<-hl,rv.length]) hst λh' hx=> ?_
 have I1:Inv X pins σ H {s with heap:=h'}:=I.kept (t':=s.toks) λb o e=>hx b o (bE<|aN e) e
 exact h pins _ σ H xs _ Q I1 (by simpa using rv) hw
def gSub (to ti:TE)(t:cI3):TG:=λv σ H Q=>to σ H λo H1=>ti σ H1 λi H2=>t o i v H2 λH3=>Q σ H3
theorem pg_sub {o i:Expr}{to ti:TE}{t:cI3}(ho:PE X o to)(hi:PE X i ti)(hs:PSet X t)
  (ha: ∀v,assign (.Subscript o i pos) X.env v=(do
   let ov<-holding [v] (eval o X.env)
   let iv<-holding [v,ov] (eval i X.env)
   standAt pos
   holding [v,ov,iv] (setItem ov iv v)
   release [v,ov,iv] []):=by intro _;rfl):PG X (.Subscript o i pos) (gSub to ti t):=by
 intro pins s σ H v u Q I r h;rw[ha];refine a8 (iV<|thn (ho pins s σ H _ I h) λov s1 ⟨x,H1,I1,r1,q1⟩=> ?_)
 refine a8 (iV<|thn (hi pins s1 σ H1 _ I1 q1) λiv s2 ⟨y,H2,I2,r2,q2⟩=> ?_)
 refine a8 (pF<|a8<|iV<|thn (hs pins s2 σ H2 x y v ov iv u _ I2 r1 r2 r q2) λ_ s3 ⟨H3,I3,q3⟩=> ?_)
 exact wpAny_release ⟨σ,H3,I3,q3⟩
def cX8 (te:TE)(g:TG):TS:=λD σ H=>te σ H λx H1=>g x σ H1 D.nx
theorem cI5 {tg e:Expr}{te:TE}{g:TG}(he:PE X e te)(hg:PG X tg g)(hs:swapsWithSole [tg] e pos.line X.env=pure false:=by rfl)(hw:swappedStores [tg] e X.env=pure none:=by rfl)
  (h1:(assignEach [tg] X.env).map (·.2)=[assign tg X.env]:=by rfl):PS X (.Assign [tg] e pos) (cX8 te g):=by
 intro pins s σ H D I h;refine wpAny_Assign_stores (thn (he pins s σ H _ I h) λv s1 ⟨x,H1,I1,r1,q1⟩=> ?_) hs hw
 rw[h1];exact thn (hg pins s1 σ H1 x v _ I1 r1 q1) λ_ s2 q=>q
theorem ps_set {i:Nat}{x:Str}{e:Expr}{te:TE}{pos':Pos}(hN:X.N.Nodup)(hi:X.N[i]? =some x)(hx:Loc X.env.scope x)(he:PE X e te)(hs:swapsWith e (some<|.Name x pos') pos.line X.env=pure false:=by rfl)(hf:X.fn x=true\/X.env.scope.names.lookup x=some .local:=by walk_at "z") :
  PS X (.Assign [.Name x pos'] e pos) (cX8 te<|a14 i):=by
 intro pins s σ H D I h;refine wpAny_Assign_Name (thn (he pins s σ H _ I h) λv s1 ⟨y,H1,I1,r1,q1⟩=> ?_) hs
 exact aJ2 I1 hN hi hx r1 (λs2 I2=>⟨_,H1,I2,q1⟩) hf
def tAug (i:Nat)(te:TE)(ti:TIp):TS:=λD σ H=> ∃x,σ[i]? =some (some x)/\te σ H λy H1=>ti x y H1 λz H2=>D.nx (σ.set i<|some z) H2
theorem ps_aug {i:Nat}{x:Str}{e:Expr}{te:TE}{op:Operator}{ti:TIp}{pos':Pos}(hN:X.N.Nodup)(hi:X.N[i]? =some x)(hx:Loc X.env.scope x)(he:PE X e te)(ho:PIp X op ti)(hf:X.fn x=true\/X.env.scope.names.lookup x=some .local:=by walk_at "z") :
  PS X (.AugAssign (.Name x pos') op e pos) (tAug i te ti):=by
 intro pins s σ H D I h;obtain⟨v,e1,h⟩:=h;obtain⟨m,hn,hl⟩:=I.loc;have vis:Vis X.env.scope x:=by rcases hx with k|k;exact .inl k;exact .inr (.inl k)
 obtain⟨u,r,l⟩:=hl i x v hi e1 vis;refine wpAny_AugAssign_Name ?_;have go:wpAny (model X.prog X.w) X.A (eval e X.env) (λw s₂=>wpAny (model X.prog X.w) X.A (inplaceOp op u w) (λr s₃=>wpAny (model X.prog X.w) X.A (storeName X.env x r) (λ_=>SP X pins D .next) X.xe s₃) X.xe s₂) X.xe s:=by
  refine thn (he pins s σ H _ I h) λw s1 ⟨y,H1,I1,r1,q1⟩=> ?_
  refine thn (ho pins s1 σ H1 v y u w _ I1 r r1 q1) λz s2 ⟨zv,H2,I2,r2,q2⟩=> ?_
  exact aJ2 I2 hN hi hx r2 (λs3 I3=>⟨_,H2,I3,q2⟩) hf
 rcases l with⟨hk,hm⟩| ⟨hk,c,hc,hcell⟩
 ·exact oR I.ok.kind hk hn hm go
 ·rcases hk with hk|hk
  ·exact wpAny_loadName_cell I.ok.kind hk hc hcell go
  ·rcases hx with k|k
   ·have:X.env.scope.names.lookup x=some .free:=hk;rw[k]at this;cases this
   ·have:X.env.scope.names.lookup x=some .free:=hk;rw[k]at this;cases this
def tAugS (to ti te:TE)(tget:V->V->Hp->VK->Prop)(tip:TIp)(tset:cI3):TS:=λD σ H=>to σ H λo H1=>ti σ H1 λi H2=>tget o i H2 λx H3=>te σ H3 λy H4=>tip x y H4 λz H5=>tset o i z H5 λH6=>D.nx σ H6
def PGet (X:Cx)(t:V->V->Hp->VK->Prop):Prop:=
 ∀(pins:List (Addr×Obj)) (s:Shared) (σ:St) (H:Hp) (o i:V) (ov iv:Value) (Q:VK),Inv X pins σ H s->RelV o ov->RelV i iv->t o i H Q->
  wpAny (model X.prog X.w) X.A (getItem ov iv) (EP X pins σ Q) X.xe s
theorem cX9 {o i e:Expr}{to ti te:TE}{tget:V->V->Hp->VK->Prop}{tip:TIp}{tset:cI3}{op:Operator}{tpos:Pos}(ho:PE X o to)(hi:PE X i ti)(hg:PGet X tget)(he:PE X e te)(hp:PIp X op tip)(hs:PSet X tset)
  (ha: ∀ov iv new,augStore i ov iv new=(do holding [new,ov,iv] (setItem ov iv new);release [new,ov,iv] [];pure .next):=by intros;rfl):PS X (.AugAssign (.Subscript o i tpos) op e pos) (tAugS to ti te tget tip tset):=by
 intro pins s σ H D I h;refine wpAny_AugAssign_SubscriptAny (thn (ho pins s σ H _ I h) λov s1 ⟨x1,H1,I1,r1,q1⟩=> ?_) ha
 refine thn (hi pins s1 σ H1 _ I1 q1) λiv s2 ⟨x2,H2,I2,r2,q2⟩=> ?_
 refine thn (hg pins s2 σ H2 x1 x2 ov iv _ I2 r1 r2 q2) λold s3 ⟨x3,H3,I3,r3,q3⟩=> ?_
 refine thn (he pins s3 σ H3 _ I3 q3) λv s4 ⟨x4,H4,I4,r4,q4⟩=> ?_
 refine thn (hp pins s4 σ H4 x3 x4 old v _ I4 r3 r4 q4) λnew s5 ⟨x5,H5,I5,r5,q5⟩=> ?_
 exact thn (hs pins s5 σ H5 x1 x2 x5 ov iv new _ I5 r1 r2 r5 q5) λ_ s6 ⟨H6,I6,q6⟩=>⟨σ,H6,I6,q6⟩
def ipI (f:Int->Int->Int):TIp:=λx y H Q=> ∃i j,x= .int i/\y= .int j/\Q (.int<|f i j) H
theorem ip_add:PIp X .Add (ipI λi j=>i+j):=by
 intro pins s σ H x y v u Q I r1 r2 h;obtain⟨i,j,e1,e2,q⟩:=h;subst e1;subst e2;obtain⟨t,rfl⟩:=r1;obtain⟨t',rfl⟩:=r2;exact iadd_int ⟨.int _,H,I.tok _,⟨_,rfl⟩,q⟩
theorem cI6:PIp X .Sub (ipI λi j=>i-j):=by
 intro pins s σ H x y v u Q I r1 r2 h;obtain⟨i,j,e1,e2,q⟩:=h;subst e1;subst e2;obtain⟨t,rfl⟩:=r1;obtain⟨t',rfl⟩:=r2;exact isub_int ⟨.int _,H,I.tok _,⟨_,rfl⟩,q⟩
end
section
variable {X:Cx}{pos:Pos}
def tWhile (c:TT)(tb:TS):TS:=λD σ H=> ∃W:Nat->St->Hp->Prop,(∃m,W m σ H)/\ ∀m σ H,W m σ H->
 c σ H λb H1=>if b=true then ∃N:St->Hp->Prop,(∀σ' H',N σ' H'-> ∃m',m'<m/\W m' σ' H')/\tb {D with nx:=N,ct:=N,bk:=D.nx} σ H1 else D.nx σ H1
theorem cI7 {c:Expr}{body:List Stmt}{tc:TT}{tb:TS}(hp:PassesOwn (model X.prog X.w) X.A X.env X.xe)(hc:PT X c tc)(hb:PSs X body tb):PS X (.While c body [] pos) (tWhile tc tb):=by
 intro pins s σ H D I h;obtain⟨W,⟨m0,w0⟩,turn⟩:=h;refine wpAny_While (codeAny_whileLoop (λn s'=> ∃σ' H',Inv X pins σ' H' s'/\W n σ' H') ?_ m0 ⟨σ,H,I,w0⟩)
 rintro n s1 ⟨σ1,H1,I1,w1⟩;refine mW hp (thn (hc pins s1 σ1 H1 _ I1<|turn n σ1 H1 w1) λb s2 ⟨H2,I2,q2⟩=> ?_)
 cases b with
 | true=>
  obtain⟨N,hN,q2⟩:=q2;rw[a7 rfl];refine mW hp (thn (hb pins s2 σ1 H2 _ I2 q2) λf s3 q3=> ?_)
  cases f with
  | next=>
   obtain⟨σ3,H3,I3,n3⟩:=q3;obtain⟨m',hm,w3⟩:=hN σ3 H3 n3;exact⟨m',hm,σ3,H3,I3,w3⟩
  | cont=>
   obtain⟨σ3,H3,I3,n3⟩:=q3;obtain⟨m',hm,w3⟩:=hN σ3 H3 n3;exact⟨m',hm,σ3,H3,I3,w3⟩
  | brk=>exact q3
  | ret v=>exact q3
 | false=>
  rw[a6 bC];exact mV ⟨σ1,H2,I2,q2⟩
end
structure It where
 go:Nat->Hp->Prop
 yld:Nat->Hp->V->Hp->Prop
 stop:Nat->Hp->Prop
def aO2 (X:Cx)(pins:List (Addr×Obj))(H:Hp)(b:Addr):Prop:=
 H b=none/\b≠X.env.locals/\b ∉ X.fs/\(b∈X.ex\/X.s₀.heap.objs.size<=b)/\(∀x c,X.env.cells.lookup x=some c->c≠b)/\ ∀p∈X.pn++pins,p.1≠b
theorem Inv.fpOk {X:Cx}{pins:List (Addr×Obj)}{σ:St}{H H':Hp}{s:Shared}{b:Addr}(I:Inv X pins σ H s)(hb:s.heap.objs.size<=b)(hn:H' b=none):aO2 X pins H' b:=by
 refine⟨hn,pH<|b9 I.lt hb,I.nofs hb,.inr<|aT I.sz hb,λx c e z=> ?_,λp hp z=> ?_⟩
 ·obtain⟨v,q⟩:=I.cell x c e;exact absurd (b9 q.lt (by rw[z];exact hb)) (cZ _)
 ·exact absurd (b9 (aN (I.pin p hp).1) (by rw[z];exact hb)) (cZ _)
structure bN4 (P:Program)(w:World)(K:Frag)(tg:Expr)(J:It)(fp:List Addr)(it:Addr)(tn:Nat->Heap->Prop):Prop where
 mem:it∈fp
 obj: ∀i h,tn i h-> ∀b∈fp,∃o,h.get? b=some o/\ ∀v,o.data≠ .cell v
 keep: ∀i h h',tn i h->(∀b∈fp,∀o,h.get? b=some o->h'.get? b=some o)->tn i h'
 item: ∀(X:Cx),X.prog=P->X.w=w->X.K=K->X.calm=true-> ∀(i:Nat) (pins:List (Addr×Obj)) (s:Shared) (σ:St) (H:Hp) (E:Value->Shared->Prop),Inv X pins σ H s->(∀b∈fp,aO2 X pins H b)->tn i s.heap->J.go i H->
  wpAny (model P w) X.A (pyNext<|.ref it) (λr s1=> ∃u,r=some u/\
   wpAny (model P w) X.A (letOwnedTupleGo tg (.ref it) u) (λ_ s2=> ∃x H',Inv X pins σ H' s2/\RelV x u/\J.yld i H x H'/\tn (i+1) s2.heap/\ ∀b∈fp,H' b=none) E s1) E s
 done: ∀(X:Cx),X.prog=P->X.w=w->X.K=K->X.calm=true-> ∀(i:Nat) (pins:List (Addr×Obj)) (s:Shared) (σ:St) (H:Hp) (E:Value->Shared->Prop),Inv X pins σ H s->(∀b∈fp,aO2 X pins H b)->tn i s.heap->J.stop i H->
  wpAny (model P w) X.A (pyNext<|.ref it) (λr s1=>r=none/\Inv X pins σ H s1) E s
 self: ∀(A:Around) (i:Nat) (s:Shared) (Q:Value->Shared->Prop) (E:Value->Shared->Prop),tn i s.heap->Q (.ref it) s->wpAny (model P w) A (pyIter<|.ref it) Q E s
abbrev TI:=St->Hp->(It->Hp->Prop)->Prop
def PIE (X:Cx)(pins:List (Addr×Obj))(σ:St)(tg:Expr)(R:It->Hp->Prop)(itv:Value)(s2:Shared):Prop:=
 ∃(it:Addr) (fp:List Addr) (tn:Nat->Heap->Prop) (J:It) (H':Hp),itv= .ref it/\Inv X pins σ H' s2/\bN4 X.prog X.w X.K tg J fp it tn/\tn 0 s2.heap/\(∀b∈fp,aO2 X pins H' b)/\R J H'
def PI (X:Cx)(tg iter:Expr)(wi:TI):Prop:=
 ∀(pins:List (Addr×Obj)) (s:Shared) (σ:St) (H:Hp) (R:It->Hp->Prop),Inv X pins σ H s->wi σ H R->
  wpAny (model X.prog X.w) X.A (eval iter X.env) (λv s1=>wpAny (model X.prog X.w) X.A (pyIter v) (PIE X pins σ tg R) X.xe s1) X.xe s
theorem bN5 {M:Model}{A:Around}{E:Value->Shared->Prop}{s:Shared}{tg:Expr}{it:Addr}{u:Value}{o:Obj}{n:String}{vs:Array Value}{Q:Unit->Shared->Prop}(ho:s.heap.get? it=some o)(hc:o.cls= .type n)(hd:o.data= .fields vs)
  (hn:["enumerate","zip","dict_itemiterator","dict_reverseitemiterator","odict_iterator","itertools.zip_longest","itertools.pairwise"].contains n=false) (hQ:Q () s):wpAny M A (letOwnedTupleGo tg (.ref it) u) Q E s:=by
 unfold letOwnedTupleGo;cases tg<;>first
  | exact aG hQ
  | (cases u<;>first
    | exact aG hQ
    | (refine a8 (wpAny_load ho ?_)
       rw[hc,hd];show wpAny M A (if(["enumerate","zip","dict_itemiterator","dict_reverseitemiterator","odict_iterator","itertools.zip_longest","itertools.pairwise"].contains n&&vs[0]? ==some (rawInt _))=true then _ else _) Q E s;rw[a6 (by intro h;rw[hn,Bool.false_and]at h;cases h)]
       exact aG hQ))
noncomputable def Itl (K:Frag)(a:Addr):It:=
 ⟨λi H=> ∃xs x,SqL K H a xs/\xs[i]? =some x,λi H x H'=>H'=H/\ ∀xs,SqL K H a xs->xs[i]? =some x,λi H=> ∃xs,SqL K H a xs/\xs.length<=i⟩
noncomputable def Itt (K:Frag)(a:Addr):It:=
 ⟨λi H=> ∃xs x,SqT K H a xs/\xs[i]? =some x,λi H x H'=>H'=H/\ ∀xs,SqT K H a xs->xs[i]? =some x,λi H=> ∃xs,SqT K H a xs/\xs.length<=i⟩
noncomputable def Itr (lo:Int)(n:Nat):It:=⟨λi _=>i<n,λi H x H'=>H'=H/\x= .int (lo+i),λi _=>n<=i⟩
theorem bB1 {P:Program}{w:World}{K:Frag}{tg:Expr}(a it:Addr):bN4 P w K tg (Itl K a) [it] it (λi h=>h.IsListIter it a i) where
 mem:=ae
 obj:=λi h st b hb=>by
  have e:b=it:=by simpa using hb
  subst e;obtain⟨o,e,c,d⟩:=st;exact⟨o,e,λv z=>by rw[d]at z;cases z⟩
 keep:=λi h h' st k=>st.at λo e=>k it ae o e
 item:=by
  intro X hP hw hK hc i pins s σ H E I hf st hg;subst hP hw hK;obtain⟨xs,x,hq,hx⟩:=hg;obtain⟨its,rv,p,hz⟩:=I.list hq;obtain⟨u,hu,ru⟩:=rv.get hx;obtain⟨f0,f1,f2,f3,f4,f5⟩:=hf it ae
  refine wpAny_pyNext_list_item st p.isList (x:=u) (by simpa using hu) λh' st' sb=> ?_
  have I1:Inv X pins σ H {s with heap:=h'}:=I.turned (t':=s.toks) (λb o hb e=>(sb.2 b hb).trans e) f0 f1 f3 f4 f5
  obtain⟨o,e,c,d⟩:=id st';exact⟨u,rfl,bN5 (s:={s with heap:=h'}) e c d ac ⟨x,H,I1,ru,⟨rfl,λys hy=>by rw[I.list_inj hy hq];exact hx⟩,st',λb hb=>(hf b hb).1⟩⟩
 done:=by
  intro X hP hw hK hc i pins s σ H E I hf st hg;subst hP hw hK;obtain⟨xs,hq,hx⟩:=hg;obtain⟨its,rv,p,hz⟩:=I.list hq;obtain⟨f0,f1,f2,f3,f4,f5⟩:=hf it ae
  have hl:=rv.length;exact wpAny_pyNext_list_end (I.ok.hd hc) st p.isList (by simp;lia) λh' eb=>⟨rfl,I.turned (t':=s.toks) (λb o hb e=>eb b o hb e) f0 f1 f3 f4 f5⟩
 self:=λ_ _ _ _ _ st h=>wpAny_pyIter_listiter st h
theorem bX9 {P:Program}{w:World}{K:Frag}{tg:Expr}(a it:Addr):bN4 P w K tg (Itt K a) [it] it (λi h=>h.IsTupleIter it a i) where
 mem:=ae
 obj:=λi h st b hb=>by
  have e:b=it:=by simpa using hb
  subst e;obtain⟨o,e,c,d⟩:=st;exact⟨o,e,λv z=>by rw[d]at z;cases z⟩
 keep:=λi h h' st k=>st.at λo e=>k it ae o e
 item:=by
  intro X hP hw hK hc i pins s σ H E I hf st hg;subst hP hw hK;obtain⟨xs,x,hq,hx⟩:=hg;obtain⟨its,rv,p,hz⟩:=I.tuple hq;obtain⟨u,hu,ru⟩:=rv.get hx;obtain⟨f0,f1,f2,f3,f4,f5⟩:=hf it ae
  refine wpAny_pyNext_tuple_item st (show s.heap.IsTuple a its.toArray from p) (x:=u) (by simpa using hu) λh' st' sb=> ?_
  have I1:Inv X pins σ H {s with heap:=h'}:=I.turned (t':=s.toks) (λb o hb e=>(sb.2 b hb).trans e) f0 f1 f3 f4 f5
  obtain⟨o,e,c,d⟩:=id st';exact⟨u,rfl,bN5 (s:={s with heap:=h'}) e c d ac ⟨x,H,I1,ru,⟨rfl,λys hy=>by rw[I.tuple_inj hy hq];exact hx⟩,st',λb hb=>(hf b hb).1⟩⟩
 done:=by
  intro X hP hw hK hc i pins s σ H E I hf st hg;subst hP hw hK;obtain⟨xs,hq,hx⟩:=hg;obtain⟨its,rv,p,hz⟩:=I.tuple hq;obtain⟨f0,f1,f2,f3,f4,f5⟩:=hf it ae
  have hl:=rv.length;exact wpAny_pyNext_tuple_end (I.ok.hd hc) st (show s.heap.IsTuple a its.toArray from p) (by simp;lia) λh' eb=>⟨rfl,I.turned (t':=s.toks) (λb o hb e=>eb b o hb e) f0 f1 f3 f4 f5⟩
 self:=λ_ _ _ _ _ st h=>wpAny_pyIter_tupleiter st h
theorem bY0 {P:Program}{w:World}{K:Frag}{tg:Expr}(it:Addr)(lo:Int)(n:Nat):bN4 P w K tg (Itr lo n) [it] it (λi h=>IsRangeIter h it (lo+(i:Nat)*1) ((n:Int)-(i:Nat)) 1) where
 mem:=ae
 obj:=λi h st b hb=>by
  have e:b=it:=by simpa using hb
  subst e;exact⟨_,st,λv z=>by
   have z':Data.fields _=Data.cell v:=z;cases z'⟩
 keep:=λi h h' st k=>k it ae _ st
 item:=by
  intro X hP hw hK hc i pins s σ H E I hf st hg;subst hP hw hK;obtain⟨f0,f1,f2,f3,f4,f5⟩:=hf it ae
  have W:=Walks.range (prog:=X.prog) (w:=X.w) (I.ok.hd hc) it lo 1 n;refine W.item i s _ _ hg st λv h' tk hv st' kk=> ?_
  obtain⟨t,rfl⟩:=hv;have I1:Inv X pins σ H {s with heap:=h',toks:=tk}:=I.turned (λb o hb e=>kk b o (by simpa using hb) e) f0 f1 f3 f4 f5
  refine⟨_,rfl,bN5 (s:={s with heap:=h',toks:=tk}) (n:="range_iterator") st' rfl rfl ac ⟨.int<|lo+i,H,I1,⟨t,?_⟩,⟨rfl,rfl⟩,st',λb hb=>(hf b hb).1⟩⟩
  rw[kW]
 done:=by
  intro X hP hw hK hc i pins s σ H E I hf st hg;subst hP hw hK;obtain⟨f0,f1,f2,f3,f4,f5⟩:=hf it ae
  exact wpAny_pyNext_range_end (I.ok.hd hc) st (by have:n<=i:=hg;lia) λh' eb=>⟨rfl,I.turned (t':=s.toks) (λb o hb e=>eb b o hb e) f0 f1 f3 f4 f5⟩
 self:=λ_ _ _ _ _ st h=>aD2 st h
end L2
namespace L2
open PySem PySem.Spec PyProof.Rows
section
variable {X:Cx}{tg:Expr}
def iList (K:Frag)(tl:TE):TI:=λσ H R=>tl σ H λx H1=> ∃a,x= .ref a/\(∃xs,SqL K H1 a xs)/\R (Itl K a) H1
theorem cY0 {l:Expr}{tl:TE}(hl:PE X l tl):PI X tg l (iList X.K tl):=by
 intro pins s σ H R I h;refine thn (hl pins s σ H _ I h) λv s1 ⟨x,H1,I1,r1,q1⟩=> ?_
 obtain⟨a,e,⟨xs,hq⟩,q⟩:=q1;subst e;cases r1;obtain⟨its,rv,p,hz⟩:=I1.list hq;refine sO p.isList ?_;refine⟨s1.heap.objs.size,[s1.heap.objs.size],_,_,H1,rfl,I1.kept (t':=s1.toks) λb o e=>aM _ e,bB1 a _,⟨_,bN _ rfl,rfl,rfl⟩,λb hb=> ?_,q⟩
 have e:b=s1.heap.objs.size:=by simpa using hb
 subst e;exact I1.fpOk (aB _) (I1.hok.fresh<|aB _)
theorem bN6 {pins:List (Addr×Obj)}{σ:St}{H:Hp}{s:Shared}{R:It->Hp->Prop}{E:Value->Shared->Prop}{lo hi:Int}{t u v:Tok}{tk:Nat}(I:Inv X pins σ H s)(h1: -(2^62)<=lo)(h2:lo<2^62)(h3: -(2^62)<=hi)(h4:hi<2^62)
  (q:R (Itr lo (hi-lo).toNat) H):wpAny (model X.prog X.w) X.A (pyIter<|.ref s.heap.objs.size) (PIE X pins σ tg R) E {s with heap:=s.heap.push {cls:= .type "range",data:= .fields #[.int lo t,.int hi u,.int 1 v]},toks:=tk}:=by
 refine wpAny_pyIter_range (IsRange.new ..) (small_one h1 h2 h3 h4) ?_
 have I1:Inv X pins σ H {s with heap:=s.heap.push {cls:= .type "range",data:= .fields #[.int lo t,.int hi u,.int 1 v]},toks:=tk}:=I.kept λb o e=>aM _ e
 refine⟨(s.heap.push {cls:= .type "range",data:= .fields #[.int lo t,.int hi u,.int 1 v]}).objs.size,[(s.heap.push {cls:= .type "range",data:= .fields #[.int lo t,.int hi u,.int 1 v]}).objs.size],_,_,H,rfl,
  I1.kept (t':=tk) λb o e=>aM _ e,bY0 _ lo (hi-lo).toNat,?_,λb hb=> ?_,q⟩
 ·have e1:lo+((0:Nat):Int)*1=lo:=ae
  have e2:(((hi-lo).toNat:Nat):Int)-((0:Nat):Int)=Builtin.Range.rangeSize lo hi 1:=by rw[rangeSize_one];split<;>lia
  show IsRangeIter _ _ (lo+((0:Nat):Int)*1) ((((hi-lo).toNat:Nat):Int)-((0:Nat):Int)) 1
  rw[e1,e2];exact bN _ rfl
 ·have e:b=(s.heap.push {cls:= .type "range",data:= .fields #[.int lo t,.int hi u,.int 1 v]}).objs.size:=by simpa using hb
  subst e;exact I1.fpOk (aB _) (I1.hok.fresh<|aB _)
def iRng1 (ta:TA):TI:=λσ H R=>ta σ H λvs H1=> ∃j:Int,vs=[.int j]/\ -(2^62)<=j/\j<2^62/\R (Itr 0 j.toNat) H1
def iRng2 (ta:TA):TI:=λσ H R=>ta σ H λvs H1=> ∃i j:Int,vs=[.int i,.int j]/\(-(2^62)<=i/\i<2^62/\ -(2^62)<=j/\j<2^62)/\R (Itr i (j-i).toNat) H1
theorem bB2 {a:Expr}{ta:TA}{p pos:Pos}(hg:Gl X "range")(hm:X.mg "range"=none)(ha:PA X [a] ta)(hs:starEach [a] X.env=[(false,eval a X.env)]:=by rfl):PI X tg (.Call (.Name "range" p) [a] [] pos) (iRng1 ta):=by
 intro pins s σ H R I h;refine Call_ (tG I hg hm boot_range<|jE (thn (ha pos pins s σ H _ I h) λus s1 ⟨vs,H1,I1,r1,q1⟩=> ?_) hs rfl)
 obtain⟨j,e,q1,q2,q⟩:=q1;subst e;cases r1 with
 | cons r rr=>
  cases rr;obtain⟨t,rfl⟩:=r;exact call_range_1 (bN6 I1 ad ad q1 q2<|by simpa using q)
theorem cB9 {a b:Expr}{ta:TA}{p pos:Pos}(hg:Gl X "range")(hm:X.mg "range"=none)(ha:PA X [a,b] ta)(hs:starEach [a,b] X.env=[(false,eval a X.env),(false,eval b X.env)]:=by rfl)(hs2:starEach [b] X.env=[(false,eval b X.env)]:=by rfl) :
  PI X tg (.Call (.Name "range" p) [a,b] [] pos) (iRng2 ta):=by
 intro pins s σ H R I h;refine Call_ (tG I hg hm boot_range<|jE (thn (ha pos pins s σ H _ I h) λus s1 ⟨vs,H1,I1,r1,q1⟩=> ?_) (by rw[hs,hs2]) (by rw[hs2];rfl))
 obtain⟨i,j,e,⟨q1,q2,q3,q4⟩,q⟩:=q1;subst e;cases r1 with
 | cons r rr=>
  cases rr with
  | cons r' rr=>
   cases rr;obtain⟨t,rfl⟩:=r;obtain⟨t',rfl⟩:=r';exact call_range_2 (bN6 I1 q1 q2 q3 q4 q)
def tFor (wi:TI)(g:TG)(tb:TS):TS:=λD σ H=>wi σ H λJ H1=> ∃W:Nat->Nat->St->Hp->Prop,(∃m,W 0 m σ H1)/\ ∀i m σ H,W i m σ H->
 (J.stop i H/\D.nx σ H)\/(J.go i H/\ ∃N:St->Hp->Prop,(∀σ' H',N σ' H'-> ∃m',m'<m/\W (i+1) m' σ' H')/\ ∀x H',J.yld i H x H'->g x σ H' λσ2 H2=>tb {D with nx:=N,ct:=N,bk:=D.nx} σ2 H2)
noncomputable def aY7 (fp:List Addr)(h:Heap):List (Addr×Obj):=fp.filterMap λb=>(h.get? b).map λo=>(b,o)
theorem yE {fp:List Addr}{h:Heap}{b:Addr}{o:Obj}(hb:b∈fp)(e:h.get? b=some o):(b,o)∈aY7 fp h:=aE7.mpr ⟨b,hb,by rw[e];rfl⟩
theorem cC0 {fp:List Addr}{h:Heap}{p:Addr×Obj}(hp:p∈aY7 fp h):p.1∈fp/\h.get? p.1=some p.2:=by
 obtain⟨b,hb,e⟩:=aE7.mp hp;cases q:h.get? b with
 | none=>rw[q]at e;cases e
 | some o=>
  rw[q]at e;have e':(b,o)=p:=gK e;subst e';exact⟨hb,q⟩
theorem Inv.pinned {pins:List (Addr×Obj)}{σ:St}{H:Hp}{s:Shared}{fp:List Addr}(I:Inv X pins σ H s)(hf: ∀b∈fp,aO2 X pins H b)(ho: ∀b∈fp,∃o,s.heap.get? b=some o/\ ∀v,o.data≠ .cell v):Inv X (pins++aY7 fp s.heap) σ H s:=
 I.pins_of λp hp=>(bS.mp hp).elim (λz=>I.pin p (dM _ z)) λz=>by
  obtain⟨hb,e⟩:=cC0 z;obtain⟨f0,f1,f2,_⟩:=hf p.1 hb;obtain⟨o,e',d⟩:=ho p.1 hb;rw[e]at e';cases e';exact⟨e,f0,f1,f2,d⟩
theorem Inv.unpinned {pins pl:List (Addr×Obj)}{σ:St}{H:Hp}{s:Shared}(I:Inv X (pins++pl) σ H s):Inv X pins σ H s:=I.pins_of λp hp=>I.pin p (dM _<|jG _ hp)
theorem bY1 {iter:Expr}{body:List Stmt}{wi:TI}{g:TG}{tb:TS}{pos:Pos}(hp:PassesOwn (model X.prog X.w) X.A X.env X.xe)(hc:X.calm=true)(hi:PI X tg iter wi)(hg:PG X tg g)(hb:PSs X body tb)
  (hs: ∀x,foldedSetIterable iter X.env x=pure x:=by intro _;rfl):PS X (.For tg iter body [] pos) (tFor wi g tb):=by
 intro pins s σ H D I h;refine wpAny_For (thn (hi pins s σ H _ I h) λv s1 h1=>thn h1 λitv s2 h2=> ?_) hs
 obtain⟨it,fp,tn,J,H2,e,I2,T,st2,f2,W,⟨m0,w0⟩,turn⟩:=h2;subst e;have stat: ∀{H':Hp},(∀b∈fp,H' b=none)-> ∀b∈fp,aO2 X pins H' b:=λhn b hb=>⟨hn b hb,(f2 b hb).2⟩
 refine codeAny_forLoop_any (λn s'=> ∃i σ' H',Inv X pins σ' H' s'/\tn i s'.heap/\(∀b∈fp,H' b=none)/\W i n σ' H') ?_ m0 ⟨0,σ,H2,I2,st2,λb hb=>(f2 b hb).1,w0⟩
 rintro n s3 ⟨i,σ3,H3,I3,st3,fr3,w3⟩;rcases turn i n σ3 H3 w3 with⟨stop,qn⟩| ⟨go,N,hN,step⟩
 ·refine mW hp (thn (T.done X rfl rfl rfl hc i pins s3 σ3 H3 X.xe I3 (stat fr3) st3 stop) λr s4 ⟨hr,I4⟩=> ?_)
  subst hr;exact mV ⟨σ3,H3,I4,qn⟩
 ·refine mW hp (thn (T.item X rfl rfl rfl hc i pins s3 σ3 H3 X.xe I3 (stat fr3) st3 go) λr s4 ⟨u,hr,h4⟩=> ?_)
  subst hr;refine mW hp (thn h4 λ_ s5 ⟨x,H5,I5,r5,y5,st5,fr5⟩=> ?_)
  have I5':=I5.pinned (stat fr5) (T.obj _ _ st5);refine mW hp (thn (hg _ s5 σ3 H5 x u _ I5' r5<|step x H5 y5) λ_ s6 ⟨σ6,H6,I6,q6⟩=> ?_)
  refine mW hp (thn (hb _ s6 σ6 H6 _ I6 q6) λf s7 q7=> ?_)
  have again: ∀{σ7:St} {H7:Hp},Inv X (pins++aY7 fp s5.heap) σ7 H7 s7->N σ7 H7-> ∃m,m<n/\ ∃i σ' H',Inv X pins σ' H' s7/\tn i s7.heap/\(∀b∈fp,H' b=none)/\W i m σ' H':=λ{σ7 H7} I7 n7=>by
   obtain⟨m',hm,w7⟩:=hN σ7 H7 n7;refine⟨m',hm,i+1,σ7,H7,I7.unpinned,T.keep _ _ _ st5 λb hb o e=>(I7.pin (b,o)<|dM _<|dM _<|yE hb e).1,λb hb=> ?_,w7⟩
   obtain⟨o,e,d⟩:=T.obj _ _ st5 b hb;exact(I7.pin (b,o)<|dM _<|dM _<|yE hb e).2.1
  cases f with
  | next=>obtain⟨σ7,H7,I7,n7⟩:=q7;exact again I7 n7
  | cont=>obtain⟨σ7,H7,I7,n7⟩:=q7;exact again I7 n7
  | brk=>obtain⟨σ7,H7,I7,q7⟩:=q7;exact⟨σ7,H7,I7.unpinned,q7⟩
  | ret v=>obtain⟨x7,σ7,H7,I7,r7,q7⟩:=q7;exact⟨x7,σ7,H7,I7.unpinned,r7,q7⟩
end
end L2
namespace L2
open PySem PySem.Spec PyProof.Rows
abbrev R2:=V->V->Hp->VK->Prop
def OpR (X:Cx)(f:Value->Value->Sem Value)(r:R2):Prop:=
 ∀(pins:List (Addr×Obj)) (s:Shared) (σ:St) (H:Hp) (x y:V) (v u:Value) (Q:VK),Inv X pins σ H s->RelV x v->RelV y u->r x y H Q->
  wpAny (model X.prog X.w) X.A (f v u) (EP X pins σ Q) X.xe s
def UnR (X:Cx)(f:Value->Sem Value)(r:V->Hp->VK->Prop):Prop:=
 ∀(pins:List (Addr×Obj)) (s:Shared) (σ:St) (H:Hp) (x:V) (v:Value) (Q:VK),Inv X pins σ H s->RelV x v->r x H Q->
  wpAny (model X.prog X.w) X.A (f v) (EP X pins σ Q) X.xe s
def qH (X:Cx)(f:Value)(r:List V->Hp->VK->Prop):Prop:=
 ∀(pins:List (Addr×Obj)) (s:Shared) (σ:St) (H:Hp) (xs:List V) (us:List Value) (Q:VK),Inv X pins σ H s->Vals xs us->r xs H Q->
  wpAny (model X.prog X.w) X.A (call f us) (EP X pins σ Q) X.xe s
def tOp (r:R2)(ta tb:TE):TE:=λσ H Q=>ta σ H λx H1=>tb σ H1 λy H2=>r x y H2 Q
def tUn (r:V->Hp->VK->Prop)(ta:TE):TE:=λσ H Q=>ta σ H λx H1=>r x H1 Q
def rI (C:Int->Int->Prop)(g:Int->Int->V):R2:=λx y H Q=> ∃i j,x= .int i/\y= .int j/\C i j/\Q (g i j) H
def rI0 (g:Int->Int->V):R2:=λx y H Q=> ∃i j,x= .int i/\y= .int j/\Q (g i j) H
def rU (g:Int->V):V->Hp->VK->Prop:=λx H Q=> ∃i,x= .int i/\Q (g i) H
section
variable {X:Cx}{a b c:Expr}{ta tb tc:TE}{pos:Pos}
theorem binT (ha:PE X a ta)(hb:PE X b tb){pins:List (Addr×Obj)}{s:Shared}{σ:St}{H:Hp}{R:V->V->Hp->Prop}(I:Inv X pins σ H s)
  (h:ta σ H λx H1=>tb σ H1 λy H2=>R x y H2) {Q:Value->Shared->Prop} {f:Value->Value->Sem Value}
  (hf: ∀v u s2 x y H2,Inv X pins σ H2 s2->RelV x v->RelV y u->R x y H2->wpAny (model X.prog X.w) X.A (f v u) Q X.xe s2) :
  wpAny (model X.prog X.w) X.A (eval a X.env) (λv s₁=>wpAny (model X.prog X.w) X.A (eval b X.env) (λu s₂=>wpAny (model X.prog X.w) X.A (f v u) Q X.xe s₂) X.xe s₁) X.xe s:=by
 refine thn (ha pins s σ H _ I h) λv s1 ⟨x,H1,I1,r1,q1⟩=> ?_
 refine thn (hb pins s1 σ H1 _ I1 q1) λu s2 ⟨y,H2,I2,r2,q2⟩=> ?_
 exact hf v u s2 x y H2 I2 r1 r2 q2
theorem pe_op {op:Operator}{r:R2}(ho:OpR X (binaryOp op) r)(ha:PE X a ta)(hb:PE X b tb):PE X (.BinOp a op b pos) (tOp r ta tb):=by
 intro pins s σ H Q I h;exact wpAny_BinOp (binT ha hb I h λv u s2 x y H2 I2 rx ry q=>ho pins s2 σ H2 x y v u Q I2 rx ry q)
theorem pe_un {op:UnaryOp}{r:V->Hp->VK->Prop}(ho:UnR X (unaryOp op) r)(ha:PE X a ta):PE X (.UnaryOp op a pos) (tUn r ta):=by
 intro pins s σ H Q I h;exact UnaryOp_ (thn (ha pins s σ H _ I h) λv s1 ⟨x,H1,I1,r1,q1⟩=>ho pins s1 σ H1 x v Q I1 r1 q1)
theorem opI {f:Value->Value->Sem Value}{C:Int->Int->Prop}{g:Int->Int->Int}
  (rule: ∀(i j:Int) (t u:Tok) (s:Shared) (Q:Value->Shared->Prop) (E:Value->Shared->Prop),C i j->Q (.int (g i j) s.toks) {s with toks:=s.toks+1}->wpAny (model X.prog X.w) X.A (f (.int i t)<|.int j u) Q E s) :
  OpR X f (rI C λi j=> .int (g i j)):=by
 intro pins s σ H x y v u Q I rx ry h;obtain⟨i,j,rfl,rfl,hc,q⟩:=h;obtain⟨t,rfl⟩:=rx;obtain⟨t',rfl⟩:=ry;exact rule i j t t' s _ _ hc ⟨.int<|g i j,H,I.tok _,⟨_,rfl⟩,q⟩
theorem opI0 {f:Value->Value->Sem Value}{g:Int->Int->Int}
  (rule: ∀(i j:Int) (t u:Tok) (s:Shared) (Q:Value->Shared->Prop) (E:Value->Shared->Prop),Q (.int (g i j) s.toks) {s with toks:=s.toks+1}->wpAny (model X.prog X.w) X.A (f (.int i t)<|.int j u) Q E s) :
  OpR X f (rI0 λi j=> .int (g i j)):=by
 intro pins s σ H x y v u Q I rx ry h;obtain⟨i,j,rfl,rfl,q⟩:=h;obtain⟨t,rfl⟩:=rx;obtain⟨t',rfl⟩:=ry;exact rule i j t t' s _ _ ⟨.int<|g i j,H,I.tok _,⟨_,rfl⟩,q⟩
theorem cY1 {f:Value->Value->Sem Value}{g:Int->Int->Bool}
  (rule: ∀(i j:Int) (t u:Tok) (s:Shared) (Q:Value->Shared->Prop) (E:Value->Shared->Prop),Q (.bool<|g i j) s->wpAny (model X.prog X.w) X.A (f (.int i t)<|.int j u) Q E s) :
  OpR X f (rI0 λi j=> .bl (g i j)):=by
 intro pins s σ H x y v u Q I rx ry h;obtain⟨i,j,rfl,rfl,q⟩:=h;obtain⟨t,rfl⟩:=rx;obtain⟨t',rfl⟩:=ry;exact rule i j t t' s _ _ ⟨.bl<|g i j,H,I,rfl,q⟩
def cY2 (i j:Int):Prop:=0<=j/\j<=1000000/\i.natAbs<2^64
def bY2 (i j:Int):Prop:=(-(2^64)<i/\i<2^64)\/(-(2^64)<j/\j<2^64)
theorem bY2.ok {i j:Int}(h:bY2 i j):IntMulOk i j:=by
 rcases h with⟨h1,h2⟩| ⟨h1,h2⟩
 ·exact .of_left (intBits_le_64 h1 h2)
 ·exact .of_right (intBits_le_64 h1 h2)
theorem op_add:OpR X (binaryOp .Add) (rI0 λi j=> .int (i+j)):=opI0 λ_ _ _ _ _ _ _ q=>add_int q
theorem op_sub:OpR X (binaryOp .Sub) (rI0 λi j=> .int (i-j)):=opI0 λ_ _ _ _ _ _ _ q=>sub_int q
theorem cY3:OpR X (binaryOp .Mod) (rI (λ_ j=>j≠0) λi j=> .int (i.fmod j)):=opI λ_ _ _ _ _ _ _ hc q=>mod_int' hc q
theorem op_pow:OpR X (binaryOp .Pow) (rI cY2 λi j=> .int (i^j.toNat)):=opI λ_ _ _ _ _ _ _ hc q=>pow_int_small hc.1 hc.2.1 hc.2.2 q
theorem unI {f:Value->Sem Value}{g:Int->Int}
  (rule: ∀(i:Int) (t:Tok) (s:Shared) (Q:Value->Shared->Prop) (E:Value->Shared->Prop),Q (.int (g i) s.toks) {s with toks:=s.toks+1}->wpAny (model X.prog X.w) X.A (f<|.int i t) Q E s) :
  UnR X f (rU λi=> .int (g i)):=by
 intro pins s σ H x v Q I rx h;obtain⟨i,rfl,q⟩:=h;obtain⟨t,rfl⟩:=rx;exact rule i t s _ _ ⟨.int<|g i,H,I.tok _,⟨_,rfl⟩,q⟩
theorem un_neg:UnR X (unaryOp .USub) (rU λi=> .int (-i)):=unI λ_ _ _ _ _ q=>neg_int q
end
noncomputable def scal:V->V->Bool
 | .non,.non=>true| .non,.int _=>true| .int _,.non=>true| .non,.bl _=>true| .bl _,.non=>true| .non,.str _=>true| .str _,.non=>true
 | .int _,.int _=>true| .bl _,.bl _=>true| .str _,.str _=>true| .byt _,.byt _=>true
 | .int _,.str _=>true| .str _,.int _=>true| .bl _,.str _=>true| .str _,.bl _=>true
 | _,_=>false
noncomputable def rEq:R2:=λx y H Q=>scal x y=true/\Q (.bl<|decide (x=y)) H
noncomputable def rNe:R2:=λx y H Q=>scal x y=true/\Q (.bl<|!decide (x=y)) H
theorem aW0 {i j:Int}:decide (V.int i=V.int j)=(i==j):=by
 rw[xO];simp
theorem bF4 {i j:Bool}:decide (V.bl i=V.bl j)=(i==j):=by
 rw[xO];simp
theorem aW1 {i j:Str}:decide (V.str i=V.str j)=(i==j):=by
 rw[xO];simp
theorem c57 {i j:Array UInt8}:decide (V.byt i=V.byt j)=(i.toList==j.toList):=by
 rw[xO];cases i;cases j;simp
section
variable {X:Cx}{a b c:Expr}{ta tb tc:TE}{pos:Pos}
theorem fH {pins:List (Addr×Obj)}{σ:St}{H:Hp}{s:Shared}{Q:VK}{k k':Bool}(I:Inv X pins σ H s)(q:Q (.bl k) H)(e:k=k'):EP X pins σ Q (.bool k') s:=by
 subst e;exact⟨.bl k,H,I,rfl,q⟩
theorem cI8:OpR X (compareOp .Eq) rEq:=by
 intro pins s σ H x y v u Q I rx ry h;obtain⟨hs,q⟩:=h;cases x with
 | non=>
  cases rx;cases y with
  | non=>cases ry;exact PySem.EqNone.eq_none_none (fH I q ae)
  | bl j=>cases ry;exact PySem.EqNone.eq_none_bool (fH I q ae)
  | int j=>obtain⟨t',rfl⟩:=ry;exact PySem.EqNone.eq_none_int (fH I q ae)
  | str j=>obtain⟨t',rfl⟩:=ry;exact PySem.EqNone.eq_none_str (fH I q ae)
  | _=>exact absurd (show false=true from hs) bC
 | bl i=>
  cases rx;cases y with
  | non=>cases ry;exact PySem.EqNone.eq_bool_none (fH I q ae)
  | bl j=>cases ry;exact eq_bool (fH I q bF4)
  | str j=>obtain⟨t',rfl⟩:=ry;exact PySem.EqMixed.eq_bool_str (fH I q ae)
  | _=>exact absurd (show false=true from hs) bC
 | int i=>
  obtain⟨t,rfl⟩:=rx;cases y with
  | non=>cases ry;exact PySem.EqNone.eq_int_none (fH I q ae)
  | int j=>obtain⟨t',rfl⟩:=ry;exact eq_int (fH I q aW0)
  | str j=>obtain⟨t',rfl⟩:=ry;exact PySem.EqMixed.eq_int_str (fH I q ae)
  | _=>exact absurd (show false=true from hs) bC
 | str i=>
  obtain⟨t,rfl⟩:=rx;cases y with
  | non=>cases ry;exact PySem.EqNone.eq_str_none (fH I q ae)
  | bl j=>cases ry;exact PySem.EqMixed.eq_str_bool (fH I q ae)
  | int j=>obtain⟨t',rfl⟩:=ry;exact PySem.EqMixed.eq_str_int (fH I q ae)
  | str j=>obtain⟨t',rfl⟩:=ry;exact eq_str (fH I q aW1)
  | _=>exact absurd (show false=true from hs) bC
 | byt i=>
  obtain⟨t,rfl⟩:=rx;cases y with
  | byt j=>obtain⟨t',rfl⟩:=ry;exact PySem.W.eq_bytes (fH I q c57)
  | _=>exact absurd (show false=true from hs) bC
 | _=>cases y<;>exact absurd (show false=true from hs) bC
theorem cI9:OpR X (compareOp .NotEq) rNe:=by
 intro pins s σ H x y v u Q I rx ry h;obtain⟨hs,q⟩:=h;cases x with
 | non=>
  cases rx;cases y with
  | non=>cases ry;exact PySem.EqNone.ne_none_none (fH I q ae)
  | bl j=>cases ry;exact PySem.EqNone.ne_none_bool (fH I q ae)
  | int j=>obtain⟨t',rfl⟩:=ry;exact PySem.EqNone.ne_none_int (fH I q ae)
  | str j=>obtain⟨t',rfl⟩:=ry;exact PySem.EqNone.ne_none_str (fH I q ae)
  | _=>exact absurd (show false=true from hs) bC
 | bl i=>
  cases rx;cases y with
  | non=>cases ry;exact PySem.EqNone.ne_bool_none (fH I q ae)
  | bl j=>cases ry;exact ne_bool (fH I q<|bP not bF4)
  | str j=>obtain⟨t',rfl⟩:=ry;exact PySem.EqMixed.ne_bool_str (fH I q ae)
  | _=>exact absurd (show false=true from hs) bC
 | int i=>
  obtain⟨t,rfl⟩:=rx;cases y with
  | non=>cases ry;exact PySem.EqNone.ne_int_none (fH I q ae)
  | int j=>obtain⟨t',rfl⟩:=ry;exact ne_int (fH I q<|bP not aW0)
  | str j=>obtain⟨t',rfl⟩:=ry;exact PySem.EqMixed.ne_int_str (fH I q ae)
  | _=>exact absurd (show false=true from hs) bC
 | str i=>
  obtain⟨t,rfl⟩:=rx;cases y with
  | non=>cases ry;exact PySem.EqNone.ne_str_none (fH I q ae)
  | bl j=>cases ry;exact PySem.EqMixed.ne_str_bool (fH I q ae)
  | int j=>obtain⟨t',rfl⟩:=ry;exact PySem.EqMixed.ne_str_int (fH I q ae)
  | str j=>obtain⟨t',rfl⟩:=ry;exact ne_str (fH I q<|bP not aW1)
  | _=>exact absurd (show false=true from hs) bC
 | byt i=>
  obtain⟨t,rfl⟩:=rx;cases y with
  | byt j=>obtain⟨t',rfl⟩:=ry;exact PySem.W.ne_bytes (fH I q<|bP not c57)
  | _=>exact absurd (show false=true from hs) bC
 | _=>cases y<;>exact absurd (show false=true from hs) bC
theorem op_lt:OpR X (compareOp .Lt) (rI0 λi j=> .bl (decide (i<j))):=cY1 λ_ _ _ _ _ _ _ q=>lt_int q
theorem op_le:OpR X (compareOp .LtE) (rI0 λi j=> .bl (decide (i<=j))):=cY1 λ_ _ _ _ _ _ _ q=>le_int q
theorem op_gt:OpR X (compareOp .Gt) (rI0 λi j=> .bl (decide (j<i))):=cY1 λ_ _ _ _ _ _ _ q=>gt_int q
theorem op_ge:OpR X (compareOp .GtE) (rI0 λi j=> .bl (decide (j<=i))):=cY1 λ_ _ _ _ _ _ _ q=>ge_int q
theorem bF5 (b:Expr){op:CmpOp}(h:op≠ .In:=by decide)(h2:op≠ .NotIn:=by decide):behindInMarks op b=false:=by
 have e1:(op==CmpOp.In)=false:=by cases op<;>first|rfl|exact absurd rfl h
 have e2:(op==CmpOp.NotIn)=false:=by cases op<;>first|rfl|exact absurd rfl h2
 cases b<;>simp[behindInMarks,e1,e2]
theorem cY4 {op:CmpOp}{r:R2}(ho:OpR X (compareOp op) r)(ha:PE X a ta)(hb:PE X b tb)(hm:behindInMarks op b=false):PE X (.Compare a [op] [b] pos) (tOp r ta tb):=by
 intro pins s σ H Q I h;exact wpAny_Compare1 (binT ha hb I h λv u s2 x y H2 I2 rx ry q=>ho pins s2 σ H2 x y v u Q I2 rx ry q) hm
def tTest (t:TE):TT:=λσ H Q=>t σ H λx H'=> ∃k,x= .bl k/\Q k H'
theorem cY5 {op:CmpOp}{r:R2}(ho:OpR X (compareOp op) r)(ha:PE X a ta)(hb:PE X b tb)(hm:behindInMarks op b=false):PT X (.Compare a [op] [b] pos) (tTest<|tOp r ta tb):=by
 intro pins s σ H Q I h;refine wpAny_isTrue_Compare1 (thn (ha pins s σ H _ I h) λv s1 ⟨x,H1,I1,r1,q1⟩=>thn (hb pins s1 σ H1 _ I1 q1) λu s2 ⟨y,H2,I2,r2,q2⟩=>
  thn (ho pins s2 σ H2 x y v u _ I2 r1 r2 q2) λc s3 ⟨z,H3,I3,r3,k,e,q3⟩=> ?_) hm
 subst e;cases r3;exact jK ⟨H3,I3,q3⟩
def tChain (r r':R2)(ta tb tc:TE):TE:=λσ H Q=>ta σ H λx H1=>tb σ H1 λy H2=>r x y H2 λz H3=> ∃k,z= .bl k/\
 (if k=true then tc σ H3 λw' H4=>r' y w' H4 Q else Q (.bl false) H3)
theorem cJ0 {op op':CmpOp}{r r':R2}(ho:OpR X (compareOp op) r)(ho':OpR X (compareOp op') r')(ha:PE X a ta)(hb:PE X b tb)(hc:PE X c tc)
  (hm:lastMarks [op,op'] [b,c]=false:=by with_unfolding_all rfl):PE X (.Compare a [op,op'] [b,c] pos) (tChain r r' ta tb tc):=by
 intro pins s σ H Q I h;refine Compare_chain (thn (ha pins s σ H _ I h) λv s1 ⟨x,H1,I1,r1,q1⟩=>chain_link (thn (hb pins s1 σ H1 _ I1 q1) λu s2 ⟨y,H2,I2,r2,q2⟩=>
  thn (ho pins s2 σ H2 x y v u _ I2 r1 r2 q2) λd s3 ⟨z,H3,I3,r3,k,e,q3⟩=> ?_)) hm
 subst e;cases r3;refine jK ?_;cases k with
 | false=>exact ite_ff ⟨.bl false,H3,I3,rfl,q3⟩
 | true=>exact ite_tt (chain_last<|thn (hc pins s3 σ H3 _ I3 q3) λw' s4 ⟨z',H4,I4,r4,q4⟩=>ho' pins s4 σ H4 y z' u w' Q I4 r2 r4 q4)
theorem aO3:(sizeLine:Nat)<2^63:=by rw[sizeLine_eq];decide
theorem vals1 {x:V}{us:List Value}(r:Vals [x] us): ∃u,us=[u]/\RelV x u:=by
 cases r with
 | cons r1 r2=>cases r2;exact⟨_,rfl,r1⟩
theorem vals2 {x y:V}{us:List Value}(r:Vals [x,y] us): ∃u w',us=[u,w']/\RelV x u/\RelV y w':=by
 cases r with
 | cons r1 r2=>
  cases r2 with
  | cons r3 r4=>cases r4;exact⟨_,_,rfl,r1,r3⟩
theorem cJ1:qH X (.builtin "abs") (λxs H Q=> ∃i,xs=[.int i]/\Q (.int<|if i<0 then -i else i) H):=by
 intro pins s σ H xs us Q I r h;obtain⟨i,rfl,q⟩:=h;obtain⟨u,rfl,t,rfl⟩:=vals1 r;exact call_abs_int λu tk=>⟨.int<|if i<0 then -i else i,H,I.tok _,⟨_,rfl⟩,q⟩
theorem cC1 (hc:X.calm=true):qH X (.builtin "max") (λxs H Q=> ∃i j,xs=[.int i,.int j]/\Q (.int<|if j>i then j else i) H):=by
 intro pins s σ H xs us Q I r h;obtain⟨i,j,rfl,q⟩:=h;obtain⟨u,w',rfl,⟨t,rfl⟩,⟨t',rfl⟩⟩:=vals2 r;refine max_two_ints (I.ok.hd hc) λh' tk k=>⟨_,H,I.kept k,?_,q⟩
 by_cases hj:j>i
 ·rw[a7 hj,a7 hj];exact⟨_,rfl⟩
 ·rw[a6 hj,a6 hj];exact⟨_,rfl⟩
theorem cC2 (hc:X.calm=true):qH X (.builtin "min") (λxs H Q=> ∃i j,xs=[.int i,.int j]/\Q (.int<|if j<i then j else i) H):=by
 intro pins s σ H xs us Q I r h;obtain⟨i,j,rfl,q⟩:=h;obtain⟨u,w',rfl,⟨t,rfl⟩,⟨t',rfl⟩⟩:=vals2 r;refine min_two_ints (I.ok.hd hc) λh' tk k=>⟨_,H,I.kept k,?_,q⟩
 by_cases hj:j<i
 ·rw[a7 hj,a7 hj];exact⟨_,rfl⟩
 ·rw[a6 hj,a6 hj];exact⟨_,rfl⟩
end
end L2
namespace L2
open PySem PySem.Spec PyProof.Rows
structure cC3 (h:Heap)(x dx C:Addr)(mA:Str->Option Value):Prop where
 obj:h.get? x=some (instObj C dx)
 ns:h.Ns1 dx mA
 ne:dx≠x
theorem cC4 {h:Heap}{dx:Addr}{mA:Str->Option Value}(n:h.Ns1 dx mA): ∃od,h.get? dx=some od/\ ∀name,lookIn name od=some (mA name):=by
 obtain⟨o,es,ep,ho,hd,hk,_,hm⟩:=n;refine⟨o,ho,λname=> ?_⟩
 have e:=hm name;unfold nsFind findBy at e;rw[<-Array.find?_toList]at e;unfold lookIn;rw[hd];dsimp only;split
 ·rename_i y q
  rw[q]at e;exact bP some e
 ·rename_i q
  rw[q]at e;have a:es.toList.any (·.refKey)=false:=by
   rw[aF3];intro y hy;obtain⟨z,t,hkey⟩:=hk y (Array.mem_toList_iff.mp hy);simp[DictEntry.refKey,hkey]
  have a': ¬es.toList.any (·.refKey)=true:=by rw[a];exact bC
  rw[a6 a'];exact bP some e
theorem cC3.look {h:Heap}{x dx C:Addr}{mA:Str->Option Value}(I:cC3 h x dx C mA): ∃od,InstAt h x (instObj C dx) C (some od)/\ ∀name,lookIn name od=some (mA name):=
 let ⟨od,ho,hl⟩:=cC4 I.ns
 ⟨od,⟨I.obj,rfl,rfl,ho⟩,hl⟩
section
variable {prog:Program}{w:World}{A:Around}{E:Value->Shared->Prop}{s:Shared}{K:Frag}{x dx C f:Addr}{mA:Str->Option Value}{name:Str}{v:Value}
theorem cY6 {expr:Bool}{Q:Value->Shared->Prop}(X:K.In s.heap)(I:cC3 s.heap x dx C mA)(hg:plainGet K C name=true)(hh:hasDictIn K C=true)
  (ha:findIn K (.ref C) name=some none) (hv:mA name=some v) (hv':PySem.W.handedIn v=true) (h:Q v {s with toks:=s.toks+1}) :
  wpAny (model prog w) A (getAttr (.ref x) name expr) Q E s:=by
 obtain⟨od,J,hl⟩:=I.look;exact PySem.W.get_value X J (PySem.W.plainGet_of hg).1 (PySem.W.findObj_own hh ha rfl (by rw[hl,hv])) hv' h
theorem cY7 {ns:List Str}{Q:Unit->Shared->Prop}(X:K.In s.heap)(I:cC3 s.heap x dx C mA)
  (hs:findIn K (.ref C) "__setattr__"=some (some<|.builtin "object.__setattr__")) (hp:plainOver K C=true) (ht:takerIn K C name=some none) (hh:hasDictIn K C=true)
  (hw:PySem.Within mA ns) (hsz:ns.length<=sizeLine)
  (h: ∀h',cC3 h' x dx C (λy=>if y=name then some v else mA y)->SameBut dx s.heap h'->Q () {s with heap:=h',toks:=s.toks+2}) :
  wpAny (model prog w) A (setAttr (.ref x) name v) Q E s:=by
 obtain⟨od,J,hl⟩:=I.look;refine PySem.W.set_plain X J hs (PySem.W.osa_open (s:={s with toks:=s.toks+1}) (r:=none) X J hp ht λb=> ?_)
 obtain⟨cd,hc,hd'⟩:=PySem.W.any_some hh;have hx:s.heap.get? x=some ⟨.ref C,some dx,.plain,#[]⟩:=I.obj;refine a8 (aG<|a8<|a8<|wpAny_loadPart hx<|a8<|PySem.W.Looks.here (s:={s with toks:=s.toks+1}) (aE4 X hc) ?_);rw[hd'];refine aG (a:=some dx) (a8<|aG<|a8 ?_);refine wpAny_nsSet1 (s:={s with toks:=s.toks+1}) I.ns λh' hn2 hs2=> ?_
 obtain⟨oD,esD,epD,hoD,hdD,hcD⟩:=hn2.count (PySem.Within.cons name v hw);refine a8 (wpAny_lookBehind hoD (by rw[hdD];exact pastItsLine_dict (aT hcD (by rw[gJ];lia))) ?_)
 exact aG (h _ ⟨(hs2.2 _<|Ne.symm I.ne).trans I.obj,hn2,I.ne⟩ hs2)
theorem bN7 {R:Result->Shared->Prop}{vs:List Value}{kw:List (Str×Value)}(X:K.In s.heap)(hm:makesIn K C=true)
  (hi:findIn K (.ref C) "__init__"=some (some<|.ref f)) (hf:PySem.W.typeIn K (.ref f)=some (.type "function"))
  (h:codeAny (model prog w) (A.under<|.builtin "type.__call__" ⟨.ref C::vs,kw⟩) (.call (.ref f) ⟨.ref (s.heap.objs.size+1)::vs,kw⟩) (PySem.W.InitBack (s.heap.objs.size+1) R)
   {s with heap:=(s.heap.push emptyDict).push (instObj C s.heap.objs.size)}) :
  codeAny (model prog w) A (.call (.ref C) ⟨vs,kw⟩) R s:=by
 obtain⟨hh,g,d,t,os⟩:=s;exact PySem.W.make_core (PySem.W.makes_of X hm) (PySem.W.looks_findIn X hi) (λself=>PySem.W.bind_fn X self hf) (.inl rfl) h
end
noncomputable def uH (f:Str)(v:V):List (Str×V)->List (Str×V)
 | []=>[(f,v)]
 | (g,x)::r=>if g=f then(g,v)::r else(g,x)::uH f v r
theorem aS1 (f g:Str)(v:V): ∀fs:List (Str×V),(uH f v fs).lookup g=if g=f then some v else fs.lookup g
 | []=>by
  show List.lookup g [(f,v)]=_
  by_cases h:g=f
  ·have hb:(g==f)=true:=fW.mpr h;simp only[List.lookup,hb,a7 h]
  ·have hb:(g==f)=false:=oU.mpr h;simp only[List.lookup,hb,a6 h]
 | (k,x)::r=>by
  have ih:=aS1 f g v r;rw[show uH f v ((k,x)::r)=(if k=f then(k,v)::r else(k,x)::uH f v r)from rfl]
  by_cases hk:k=f
  ·rw[a7 hk]
   by_cases h:g=k
   ·have hb:(g==k)=true:=fW.mpr h;simp only[List.lookup,hb,a7<|h.trans hk]
   ·have hb:(g==k)=false:=oU.mpr h;simp only[List.lookup,hb,a6 (λe:g=f=>h (e.trans hk.symm))]
  ·rw[a6 hk]
   by_cases h:g=k
   ·have hb:(g==k)=true:=fW.mpr h;simp only[List.lookup,hb,a6 (λe:g=f=>hk (h.symm.trans e))]
   ·have hb:(g==k)=false:=oU.mpr h;simp only[List.lookup,hb];exact ih
theorem aO4 (f:Str)(v:V): ∀fs:List (Str×V),f∈(uH f v fs).map (·.1)/\ ∀g,g∈fs.map (·.1)->g∈(uH f v fs).map (·.1)
 | []=>⟨by simp[uH],λg h=>by simp at h⟩
 | (k,x)::r=>by
  obtain⟨i1,i2⟩:=aO4 f v r;rw[show uH f v ((k,x)::r)=(if k=f then(k,v)::r else(k,x)::uH f v r)from rfl]
  by_cases hk:k=f
  ·rw[a7 hk];subst hk;exact⟨ae,λg h=>by simpa using h⟩
  ·rw[a6 hk];refine⟨?_,λg h=> ?_⟩
   ·rw[bW];exact b6 _ i1
   ·rw[bW]at h⊢;rcases aS.mp h with e|e
    ·exact aS.mpr (.inl e)
    ·exact b6 _ (i2 g e)
theorem aS2 (f:Str)(v:V): ∀fs:List (Str×V),(uH f v fs).length<=fs.length+1
 | []=>by simp[uH]
 | (k,x)::r=>by
  have ih:=aS2 f v r;rw[show uH f v ((k,x)::r)=(if k=f then(k,v)::r else(k,x)::uH f v r)from rfl]
  by_cases hk:k=f
  ·rw[a7 hk,gJ,gJ];lia
  ·rw[a6 hk,gJ,gJ];lia
theorem bX8.some_of {v:V}{o:Option Value}(r:bX8 (some v) o): ∃u,o=some u/\RelV v u:=by
 cases o with
 | none=>exact(show False from r).elim
 | some u=>exact⟨u,rfl,r⟩
theorem cC5 {v:V}{u:Value}(r:RelV v u):PySem.W.handedIn u=true:=by
 cases v with
 | non=>cases (show u=Value.none from r);rfl
 | bl b=>cases (show u=Value.bool b from r);rfl
 | int i=>obtain⟨t,e⟩:=(show ∃t,u=Value.int i t from r);cases e;rfl
 | str x=>obtain⟨t,e⟩:=(show ∃t,u=Value.str x t from r);cases e;rfl
 | byt b=>obtain⟨t,e⟩:=(show ∃t,u=Value.bytes b t from r);cases e;rfl
 | flt b=>obtain⟨t,e⟩:=(show ∃t,u=Value.float b t from r);cases e;rfl
 | ref a=>cases (show u=Value.ref a from r);rfl
 | ty n=>cases (show u=Value.type n from r);rfl
section
variable {P:Program}{w:World}{H H':Hp}{h h':Heap}{a C dx:Addr}{fs fs':List (Str×V)}
theorem c58 (hok:HOk P w H h)(e:H a=some (.ins C dx fs)): ∃mA,cC3 h a dx C mA/\(∀f,bX8 (fs.lookup f)<|mA f)/\PySem.Within mA (fs.map (·.1))/\fs.length<=1000/\H dx=some (.own a):=by
 obtain⟨d,z,ne,ob,mA,n,r,q⟩:=(show qF P w H h a (.ins C dx fs)from hok a _ e)
 exact⟨mA,⟨ob,n,ne⟩,r,q,z,d⟩
end
structure Cls (K:Frag)(C:Addr):Prop where
 pg:plainGet K C Str.empty=true
 hd:hasDictIn K C=true
 po:plainOver K C=true
 sa:findIn K (.ref C) "__setattr__"=some (some<|.builtin "object.__setattr__")
theorem Cls.get {K:Frag}{C:Addr}(c:Cls K C)(f:Str):plainGet K C f=true:=c.pg
def a15 (K:Frag)(C:Addr)(f:Str):Prop:=findIn K (.ref C) f=some none
theorem a15.taker {K:Frag}{C:Addr}{f:Str}(n:a15 K C f):takerIn K C f=some none:=by
 unfold takerIn;rw[show findIn K (.ref C) f=some none from n]
 rfl
section
variable {X:Cx}{pins:List (Addr×Obj)}{σ:St}{H:Hp}{s:Shared}{a C dx:Addr}{fs:List (Str×V)}{f:Str}{v:V}{A:Around}{E:Value->Shared->Prop}
theorem bY3 {b:Bool}{Q:Value->Shared->Prop}(I:Inv X pins σ H s)(e:H a=some (.ins C dx fs))(c:Cls X.K C)(n:a15 X.K C f)(l:fs.lookup f=some v)
  (h: ∀u s',Inv X pins σ H s'->RelV v u->Q u s'):wpAny (model X.prog X.w) A (getAttr (.ref a) f b) Q E s:=by
 obtain⟨mA,O,r,_,_,_⟩:=c58 I.hok e;obtain⟨u,hu,ru⟩:=bX8.some_of (v:=v) (o:=mA f) (by rw[<-l];exact r f)
 exact cY6 I.kIn O (c.get f) c.hd n hu (cC5 ru) (h u _ (I.tok _) ru)
theorem bY4 {y:V}{u:Value}{Q:Unit->Shared->Prop}(I:Inv X pins σ H s)(e:H a=some (.ins C dx fs))(c:Cls X.K C)(n:a15 X.K C f)(hl:fs.length<1000)(ry:RelV y u)
  (h: ∀s',Inv X pins σ (upd H a<|.ins C dx<|uH f y fs) s'->Q () s'):wpAny (model X.prog X.w) A (setAttr (.ref a) f u) Q E s:=by
 obtain⟨mA,O,r,wi,_,ho⟩:=c58 I.hok e;have hz:(fs.map (·.1)).length<=sizeLine:=by rw[aH,sizeLine_eq];lia
 refine cY7 I.kIn O c.sa c.po n.taker c.hd wi hz λh' O' sb=>h _ ?_
 have hd: ∃o,h'.get? dx=some o:=let ⟨o,_,_,e',_⟩:=O'.ns;⟨o,e'⟩;refine I.write (x:=a) (e:=dx) (by rw[e];exact True.intro) (.inr ho) (λb q hb z=>(sb.2 b hb).trans z) hd ?_
 refine⟨by rw[bL O.ne];exact ho,?_,O.ne,O'.obj,_,O'.ns,λg=> ?_,λg hg=> ?_⟩
 ·have:=aS2 f y fs;lia
 ·show bX8 ((uH f y fs).lookup g) (if g=f then some u else mA g)
  rw[aS1]
  by_cases q:g=f
  ·rw[a7 q,a7 q];exact ry
  ·rw[a6 q,a6 q];exact r g
 ·by_cases q:g=f
  ·rw[q];exact(aO4 f y fs).1
  ·refine(aO4 f y fs).2 g (wi g λz=>hg ?_)
   show(if g=f then some u else mA g)=none
   rw[a6 q];exact z
theorem Inv.made (I:Inv X pins σ H s):Inv X pins σ (upd (upd H s.heap.objs.size<|.own<|s.heap.objs.size+1) (s.heap.objs.size+1)<|.ins C s.heap.objs.size [])
  {s with heap:=(s.heap.push emptyDict).push (instObj C s.heap.objs.size)}:=by
 have e1:(s.heap.push emptyDict).get? s.heap.objs.size=some emptyDict:=bN s.heap rfl;have e2:((s.heap.push emptyDict).push<|instObj C s.heap.objs.size).get? (s.heap.objs.size+1)=some (instObj C s.heap.objs.size):=by
  have:=bN (s.heap.push emptyDict) (o:=instObj C s.heap.objs.size) rfl
  rwa [iT]at this
 have e3:(s.heap.push emptyDict).Ns s.heap.objs.size (λ_=>none):=⟨emptyDict,#[],_,e1,rfl,(λe he=>absurd he ae),λ_=>rfl⟩
 have I1:=I.laid (a:=s.heap.objs.size) (o:= .own (s.heap.objs.size+1)) (h':=s.heap.push emptyDict) (t':=s.toks) (λb u q=>aM _ q) (aB _) ⟨_,e1⟩
 refine I1.laid (a:=s.heap.objs.size+1) (o:= .ins C s.heap.objs.size []) (t':=s.toks) (λb u q=>aM _ q) (le_of_eq<|iT _ _) ?_
 have ne:s.heap.objs.size≠s.heap.objs.size+1:=bE (pC _);refine⟨by rw[bL ne,iB],d6 _,ne,e2,λ_=>none,(Heap.Ns1.of_empty e3).at λo q=>aM _ q,λ_=>True.intro,λy hy=>absurd rfl hy⟩
theorem cY8 {prog:Program}{w:World}{env:Env}{e:Expr}{f:Str}{pos:Pos}{s:Shared}{Q:Value->Shared->Prop}(hb:attributeBase e f env (eval e env)=eval e env)
  (h:wpAny (model prog w) A (eval e env) (λo s₁=>wpAny (model prog w) A (getAttr o f true) Q E s₁) E s):wpAny (model prog w) A (eval (.Attribute e f pos) env) Q E s:=
 Attribute_any_ h (by rw[arm_eval_Attribute,hb])
end
def tFld (K:Frag)(ta:TE)(f:Str):TE:=λσ H Q=>ta σ H λx H1=> ∃a C dx fs v,x= .ref a/\H1 a=some (.ins C dx fs)/\Cls K C/\a15 K C f/\fs.lookup f=some v/\Q v H1
def cJ2 (K:Frag)(ta tv:TE)(f:Str):TS:=λD σ H=>tv σ H λy H1=>ta σ H1 λx H2=> ∃a C dx fs,x= .ref a/\H2 a=some (.ins C dx fs)/\Cls K C/\a15 K C f/\fs.length<1000/\
 D.nx σ (upd H2 a<|.ins C dx<|uH f y fs)
section
variable {X:Cx}{o e value:Expr}{f:Str}{pos pos' tpos:Pos}{ta tv:TE}
theorem pe_fld (he:PE X e ta)(hb:attributeBase e f X.env (eval e X.env)=eval e X.env):PE X (.Attribute e f pos) (tFld X.K ta f):=by
 intro pins s σ H Q I h;refine cY8 hb (thn (he pins s σ H _ I h) λu s1 zz=> ?_)
 obtain⟨x,H1,I1,rx,a,C,dx,fs,v,ex,ea,c,n,l,q⟩:=zz;subst ex;obtain rfl:u=Value.ref a:=rx;exact bY3 I1 ea c n l λu' s2 I2 ru=>⟨v,H1,I2,ru,q⟩
theorem bY5 (ha:PE X o ta)(hv:PE X value tv)(hs:swapsWith value (some<|.Attribute o f pos') pos.line X.env=pure false):PS X (.Assign [.Attribute o f pos'] value pos) (cJ2 X.K ta tv f):=by
 intro pins s σ H D I h;refine aB9 (thn (hv pins s σ H _ I h) λu s1 ⟨y,H1,I1,ry,q⟩=>thn (ha pins s1 σ H1 _ I1 q) λov s2 zz=> ?_) hs
 obtain⟨x,H2,I2,rx,a,C,dx,fs,ex,ea,c,n,l,q2⟩:=zz;subst ex;obtain rfl:ov=Value.ref a:=rx;exact bY4 I2 ea c n l ry λs3 I3=>⟨σ,_,I3,q2⟩
end
end L2
namespace L2
open PySem PySem.Spec PyProof.Rows
structure gM (k:Nat)(A:Around):Prop where
 hd:A.handled=none
 dp:A.depth+3*k+5<recursionLimit
 un:A.units+16*k+200<cLine
theorem gM.mono {j k:Nat}{A:Around}(r:gM k A)(h:j<=k):gM j A:=⟨r.hd,by have:=r.dp;lia,by have:=r.un;lia⟩
theorem gM.deeper {k:Nat}{A:Around}(r:gM (k+1) A)(env:Env):gM k (A.deeper env):=
 ⟨r.hd,by have:=r.dp;show A.depth+1+3*k+5<_;lia,by have:=r.un;show A.units+3+16*k+200<_;lia⟩
theorem bY6 {A:Around}{C:Addr}{us:List Value}{kw:List (Str×Value)}:(A.under<|.builtin "type.__call__" ⟨.ref C::us,kw⟩).depth=A.depth+1:=by
 first|rfl|simp[Around.under,Code.weight,Code.isCreation,Code.isGuard,Code.isCaller,Code.frames,Code.isFrame,guardIds]
theorem bY7 {A:Around}{C:Addr}{us:List Value}{kw:List (Str×Value)}:(A.under<|.builtin "type.__call__" ⟨.ref C::us,kw⟩).units=A.units+1:=by
 first|rfl|simp[Around.under,Code.cUnits,Code.frames,Code.isFrame]
theorem gM.make {k:Nat}{A:Around}(r:gM (k+1) A)(C:Addr)(us:List Value)(kw:List (Str×Value)):gM k (A.under<|.builtin "type.__call__" ⟨.ref C::us,kw⟩):=
 ⟨r.hd,by have:=r.dp;rw[bY6];omega,by have:=r.un;rw[bY7];omega⟩
theorem gM.depth {k:Nat}{A:Around}(r:gM k A):A.depth<recursionLimit:=by have:=r.dp;lia
theorem gM.units {k:Nat}{A:Around}(r:gM k A):A.units+64<cLine:=by have:=r.un;lia
def tNil:TA:=λ_ H Q=>Q [] H
def tCons (ta:TE)(tr:TA):TA:=λσ H Q=>ta σ H λx H1=>tr σ H1 λxs H2=>Q (x::xs) H2
section
variable {X:Cx}{e:Expr}{es:List Expr}{te:TE}{t:TA}{pos:Pos}
theorem aY8:PA X [] tNil:=λ_ _ _ _ H Q I h=>Calls.spliced_nil ⟨[],H,I,.nil,h⟩
theorem aJ3 (ha:PE X e te)(hr:PA X es t)(hs:starEach (e::es) X.env=(false,eval e X.env)::starEach es X.env:=by rfl):PA X (e::es) (tCons te t):=by
 intro pos pins s σ H Q I h;rw[hs];show wpAny _ _ (spliced ((false,eval e X.env)::backTo pos (starEach es X.env))) _ _ s;refine Calls.spliced_cons (thn (ha pins s σ H _ I h) λu s1 ⟨x,H1,I1,r1,q1⟩=> ?_)
 exact thn (hr pos pins s1 σ H1 _ I1 q1) λus s2 ⟨xs,H2,I2,r2,q2⟩=>⟨x::xs,H2,I2,.cons r1 r2,q2⟩
def tTup (t:TA):TE:=λσ H Q=>t σ H λxs H1=>xs.length<=sizeLine/\ ∀p,H1 p=none->Q (.ref p) (upd H1 p<|.tup xs)
def tLst (t:TA):TE:=λσ H Q=>t σ H λxs H1=>xs.length<=sizeLine/\ ∀p,H1 p=none->Q (.ref p) (upd H1 p<|.lst xs)
theorem pe_tup {x1}(h:PA X es t):PE X (.Tuple es x1 pos) (tTup t):=by
 intro pins s σ H Q I hq;refine wpAny_Tuple_spliced (thn (h pos pins s σ H _ I hq) λus s1 ⟨xs,H1,I1,r,z,q⟩=>⟨by rw[<-r.length];exact z,?_⟩)
 have hf:H1 s1.heap.objs.size=none:=I1.hok.fresh (aB _);refine⟨.ref s1.heap.objs.size,upd H1 s1.heap.objs.size<|.tup xs,I1.laid (t':=s1.toks) (λb u e=>aM _ e) (aB _) ?_,rfl,q _ hf⟩
 exact⟨z,us,r,⟨_,bN _ rfl,rfl,_,rfl⟩⟩
theorem pe_lst (h:PA X es t):PE X (.List es pos) (tLst t):=by
 intro pins s σ H Q I hq;refine wpAny_List_spliced (thn (h pos pins s σ H _ I hq) λus s1 ⟨xs,H1,I1,r,z,q⟩=>⟨by rw[<-r.length];exact z,?_⟩)
 have hf:H1 s1.heap.objs.size=none:=I1.hok.fresh (aB _);refine⟨.ref s1.heap.objs.size,upd H1 s1.heap.objs.size<|.lst xs,I1.laid (t':=s1.toks) (λb u e=>aM _ e) (aB _) ?_,rfl,q _ hf⟩
 exact⟨z,us,0,r,bN _ rfl⟩
end
abbrev Sp:=List V->Hp->VK->XK->Prop
abbrev CXT:=List Env->Hp->Shared->XK->Value->Shared->Prop
structure bY8 (P:Program)(w:World)(K:Frag)(mg:Str->Option Value)(base:Heap)(A:Around)(outer:List Env)(s:Shared)(H:Hp):Prop where
 frames:A.frames=some outer
 mod:Mod K mg base
 bs: ∀b o,base.get? b=some o->s.heap.get? b=some o/\H b=none
 bsz:base.objs.size<=s.heap.objs.size
 funs:s.heap.FunFrames base outer
 frf: ∀b∈frs outer,H b=none
 hok:HOk P w H s.heap
 bare:AllBare s.gens
def CE (outer:List Env)(P:Program)(w:World)(H:Hp)(s:Shared)(Q:VK)(u:Value)(s':Shared):Prop:=
 ∃v H',s'.os=s.os/\AllBare s'.gens/\Un (frs outer) [] H H' s.heap s'.heap/\HOk P w H' s'.heap/\RelV v u/\Q v H'
def CR (CX:CXT)(outer:List Env)(P:Program)(w:World)(H:Hp)(s:Shared)(Q:VK)(E:XK)(r:Result)(s':Shared):Prop:=
 match r with
 | .ok (.ret u)=>CE outer P w H s Q u s'
 | .ok _=>False
 | .error e=>CX outer H s E e s'
structure qU (P:Program)(w:World)(K:Frag)(mg:Str->Option Value)(base:Heap)(CX:CXT)(k:Nat)(f:Addr)(fd:FuncData)(ps:List Str)(sp:Sp):Prop where
 len: ∀vs H Q E,sp vs H Q E->vs.length=ps.length
 run: ∀(A:Around) (outer:List Env) (s:Shared) (H:Hp) (args:Args) (us:List Value) (vs:List V) (Q:VK) (E:XK),gM k A->bY8 P w K mg base A outer s H->BindsTo s fd args (ps.zip us)->Vals vs us->sp vs H Q E->
  codeAny (model P w) A (.call (.ref f) args) (CR CX outer P w H s Q E) s
theorem qU.mono {P:Program}{w:World}{K:Frag}{mg:Str->Option Value}{base:Heap}{CX:CXT}{j k:Nat}{f:Addr}{fd:FuncData}{ps:List Str}{sp:Sp}(F:qU P w K mg base CX j f fd ps sp)(h:j<=k) :
  qU P w K mg base CX k f fd ps sp:=⟨F.len,λA outer s H args us vs Q E hr=>F.run A outer s H args us vs Q E (hr.mono h)⟩
theorem bY8.make {P:Program}{w:World}{K:Frag}{mg:Str->Option Value}{base:Heap}{A:Around}{outer:List Env}{s:Shared}{H:Hp}(e:bY8 P w K mg base A outer s H)(C:Addr)(us:List Value)(kw:List (Str×Value)) :
  bY8 P w K mg base (A.under<|.builtin "type.__call__" ⟨.ref C::us,kw⟩) outer s H:=⟨by first|exact e.frames| (simpa[Around.under,Code.envs,Code.isFrame,pushEnvs]using e.frames),e.mod,e.bs,e.bsz,e.funs,e.frf,e.hok,e.bare⟩
section
variable {X:Cx}{pins:List (Addr×Obj)}{σ:St}{H:Hp}{s s':Shared}
theorem Inv.env0 (I:Inv X pins σ H s):bY8 X.prog X.w X.K X.mg X.base X.A X.stack s H:=
 ⟨I.ok.frames,I.ok.mod,I.bs,aT I.ok.bsz I.sz,I.stack,I.stkFree,I.hok,I.bare⟩
theorem Inv.after {Q:VK}{u:Value}(I:Inv X pins σ H s)(h:CE X.stack X.prog X.w H s Q u s'):EP X pins σ Q u s':=by
 obtain⟨v,H',os,bare,un,hok,r,q⟩:=h;obtain⟨hh,g,d,t,os'⟩:=s';obtain rfl:os'=s.os:=os;exact⟨v,H',I.call (h':=hh) (g':=g) (d':=d) (t':=t) (ch:=[]) un hok bare λb z=>absurd z ae,r,q⟩
end
def cJ3 (sp:Sp)(dvs:List V)(E:XK)(t:TA):TE:=λσ H Q=>t σ H λvs H1=>sp (vs++dvs) H1 Q E
def c59 (C:Addr)(sp:Sp)(dvs:List V)(E:XK)(t:TA):TE:=λσ H Q=>t σ H λvs H1=> ∀x dx,H1 x=none->H1 dx=none->dx≠x->
 sp (.ref x::(vs++dvs)) (upd (upd H1 dx<|.own x) x<|.ins C dx []) (λv H2=>v= .non/\Q (.ref x) H2) E
def Binds (K:Frag)(fd:FuncData)(ps:List Str)(ds:List Value):Prop:=
 ∀(s:Shared) (us:List Value),K.In s.heap->(us++ds).length=ps.length->BindsTo s fd ⟨us,[]⟩ (ps.zip<|us++ds)
theorem Binds.all {K:Frag}{fd:FuncData}{ps:List Str}(h: ∀us:List Value,us.length=ps.length->bindArgs fd ⟨us,[]⟩=pure (ps.zip us)):Binds K fd ps []:=λs us _ hl=>by
 rw[i7]at hl⊢;exact .of_eq (h us hl)
def v6 (CX:CXT)(X:Cx)(E:XK):Prop:= ∀(pins:List (Addr×Obj)) (σ:St) (H:Hp) (s:Shared) (e:Value) (s':Shared),Inv X pins σ H s->CX X.stack H s E e s'->X.xe e s'
section
variable {X:Cx}{CX:CXT}{k:Nat}{f C:Addr}{fd:FuncData}{ps:List Str}{sp:Sp}{dvs:List V}{ds:List Value}{E:XK}{x m:Str}{p pos apos:Pos}{e o:Expr}{es:List Expr}{ta:TE}{t:TA}
theorem cJ4 {pins:List (Addr×Obj)}{σ:St}{H:Hp}{s:Shared}{Q:VK}{us:List Value}{vs:List V}(F:qU X.prog X.w X.K X.mg X.base CX k f fd ps sp)(hr:gM k X.A)(hb:Binds X.K fd ps ds)(hd:Vals dvs ds)(hx:v6 CX X E)
  (I:Inv X pins σ H s) (r:Vals vs us) (h:sp (vs++dvs) H Q E):wpAny (model X.prog X.w) X.A (call (.ref f) us) (EP X pins σ Q) X.xe s:=by
 have r2:Vals (vs++dvs) (us++ds):=r.append hd;have hl:(us++ds).length=ps.length:=by rw[<-r2.length];exact F.len _ _ _ _ h
 refine tE (t6 (F.run X.A X.stack s H ⟨us,[]⟩ (us++ds) (vs++dvs) Q E hr I.env0 (hb s us I.kIn hl) r2 h) λr s' hq=> ?_)
 cases r with
 | error e=>exact hx pins σ H s e s' I hq
 | ok fl=>
  cases fl with
  | ret u=>exact I.after hq
  | next=>exact False.elim hq
  | brk=>exact False.elim hq
  | cont=>exact False.elim hq
theorem c60 (F:qU X.prog X.w X.K X.mg X.base CX k f fd ps sp)(hr:gM k X.A)(hg:Gl X x)(hm:X.mg x=some (.ref f))(hk:keepIn X.K (.ref f)=true)(hb:Binds X.K fd ps ds)(hd:Vals dvs ds)(hx:v6 CX X E)
  (ha:PA X (e::es) t) (hdb:(x==("__debug__":Str))=false:=by decide) (he:starEach (e::es) X.env=(false,eval e X.env)::starEach es X.env:=by rfl) (hpl:(backTo pos<|starEach es X.env).any (·.1)=false:=by rfl) :
  PE X (.Call (.Name x p) (e::es) [] pos) (cJ3 sp dvs E t):=by
 intro pins s σ H Q I h;refine oW (uL I hg hm ?_ hdb);refine aE8 (h₀:=X.base) I.ok.mod.kin hk (thn (ha pos pins s σ H _ I h) λus s1 ⟨vs,H1,I1,r,q⟩=>⟨I1.kIn,?_⟩) he hpl
 exact cJ4 F hr hb hd hx I1 r q
theorem cJ5 (F:qU X.prog X.w X.K X.mg X.base CX k f fd ps sp)(hr:gM k X.A)(hg:Gl X x)(hm:X.mg x=some (.ref f))(hk:keepIn X.K (.ref f)=true)(hb:Binds X.K fd ps ds)(hd:Vals dvs ds)(hx:v6 CX X E)
  (hdb:(x==("__debug__":Str))=false:=by decide):PE X (.Call (.Name x p) [] [] pos) (cJ3 sp dvs E tNil):=by
 intro pins s σ H Q I h;refine oW (uL I hg hm ?_ hdb);exact PySem.W.callWith_K0 I.kIn hk (cJ4 (us:=[]) F hr hb hd hx I .nil h)
structure Mk (K:Frag)(C f:Addr):Prop where
 makes:makesIn K C=true
 init:findIn K (.ref C) "__init__"=some (some<|.ref f)
 fn:PySem.W.isFn K (.ref f)=true
 kp:keepIn K (.ref C)=true
theorem cJ6 {pins:List (Addr×Obj)}{σ:St}{H:Hp}{s:Shared}{Q:VK}{us:List Value}{vs:List V}(M:Mk X.K C f)(F:qU X.prog X.w X.K X.mg X.base CX k f fd ps sp)(hr:gM (k+1) X.A)(hb:Binds X.K fd ps ds)(hd:Vals dvs ds)
  (hx:v6 CX X E) (I:Inv X pins σ H s) (r:Vals vs us)
  (h: ∀x dx,H x=none->H dx=none->dx≠x->sp (.ref x::(vs++dvs)) (upd (upd H dx<|.own x) x<|.ins C dx []) (λv H2=>v= .non/\Q (.ref x) H2) E) :
  wpAny (model X.prog X.w) X.A (call (.ref C) us) (EP X pins σ Q) X.xe s:=by
 have hq:=h (s.heap.objs.size+1) s.heap.objs.size (I.hok.fresh<|tD _) (I.hok.fresh<|aB _) (bE<|pC _);have I2:=Inv.made (C:=C) I;have r2:Vals (V.ref (s.heap.objs.size+1)::(vs++dvs)) (Value.ref (s.heap.objs.size+1)::(us++ds)):= .cons rfl (r.append hd);have hl:(Value.ref (s.heap.objs.size+1)::us++ds).length=ps.length:=by
  have e:=r2.length;rw[F.len _ _ _ _ hq]at e;exact e.symm
 refine tE (bN7 (f:=f) I.kIn M.makes M.init (fW.mp M.fn) (t6 (F.run _ X.stack _ _ ⟨Value.ref (s.heap.objs.size+1)::us,[]⟩ (Value.ref (s.heap.objs.size+1)::(us++ds)) _ _ E (hr.make C us [])
  (I2.env0.make C us []) (hb _ (Value.ref (s.heap.objs.size+1)::us) I2.kIn hl) r2 hq) λr s' hq'=> ?_))
 cases r with
 | error e=>exact hx pins σ _ _ e s' I2 hq'
 | ok fl=>
  cases fl with
  | ret u=>
   obtain⟨v,H',I3,rv,ev,q3⟩:=I2.after hq';subst ev;exact⟨rv,⟨V.ref<|s.heap.objs.size+1,H',I3,rfl,q3⟩⟩
  | next=>exact False.elim hq'
  | brk=>exact False.elim hq'
  | cont=>exact False.elim hq'
theorem cY9 (M:Mk X.K C f)(F:qU X.prog X.w X.K X.mg X.base CX k f fd ps sp)(hr:gM (k+1) X.A)(hg:Gl X x)(hm:X.mg x=some (.ref C))(hb:Binds X.K fd ps ds)(hd:Vals dvs ds)(hx:v6 CX X E)
  (ha:PA X (e::es) t) (hdb:(x==("__debug__":Str))=false:=by decide) (he:starEach (e::es) X.env=(false,eval e X.env)::starEach es X.env:=by rfl) (hpl:(backTo pos<|starEach es X.env).any (·.1)=false:=by rfl) :
  PE X (.Call (.Name x p) (e::es) [] pos) (c59 C sp dvs E t):=by
 intro pins s σ H Q I h;refine oW (uL I hg hm ?_ hdb);refine aE8 (h₀:=X.base) I.ok.mod.kin M.kp (thn (ha pos pins s σ H _ I h) λus s1 ⟨vs,H1,I1,r,q⟩=>⟨I1.kIn,?_⟩) he hpl
 exact cJ6 M F hr hb hd hx I1 r q
end
section
variable {X:Cx}{CX:CXT}{k:Nat}{f C:Addr}{fd:FuncData}{ps ks:List Str}{sp:Sp}{E:XK}{x m:Str}{p pos apos kpos:Pos}{e o:Expr}{es:List Expr}{kws:List Keyword}{te ta:TE}{t tk:TA}{nm:Option Str}
variable {g:List Value->List Value->List Value}{gV:List V->List V->List V}
end
structure aZ (N P:List Str)(sc:Scope):Prop where
 kind:sc.kind= .function
 co:sc.isCoroutine=false
 gen:sc.isGenerator=false
 nd:N.Nodup
 pre:N.take P.length=P
 par: ∀x∈P,sc.names.lookup x=some .local\/sc.names.lookup x=some .cell
 nofree: ∀y∈sc.names,y.2≠ .free
theorem bB3 {kindOf:Str->Option NameKind}{x:Str}: ∀{binds:List (Str×Value)} {m:Str->Option Value},(∀v,(x,v) ∉ binds)->bindL kindOf binds m x=m x
 | [],_,_=>rfl
 | (n,v)::r,m,h=>by
  unfold bindL;rw[bB3 λw hw=>h w (b6 _ hw)]
  split
  ·have:x≠n:=by rintro rfl;exact h v aW
   simp[this]
  ·rfl
theorem bB4 {kindOf:Str->Option NameKind}{x:Str}: ∀{binds:List (Str×Value)} {m:Str->Option Value},(∀v,(x,v) ∉ binds)->bindC kindOf binds m x=m x
 | [],_,_=>rfl
 | (n,v)::r,m,h=>by
  unfold bindC;rw[bB4 λw hw=>h w (b6 _ hw)]
  split
  ·rfl
  ·have:x≠n:=by rintro rfl;exact h v aW
   simp[this]
theorem bB5 {kindOf:Str->Option NameKind}{x:Str}{v:Value}: ∀{P:List Str} {vs:List Value} {i:Nat} {m:Str->Option Value},P.Nodup->P[i]? =some x->vs[i]? =some v->kindOf x=some .local->
  bindL kindOf (P.zip vs) m x=some v
 | [],_,_,_,_,h,_,_=>by simp at h
 | _::_,[],_,_,_,_,h,_=>by simp at h
 | p::P,w::vs,0,m,nd,h1,h2,hk=>by
  simp at h1 h2;subst h1;subst h2
  show bindL kindOf ((p,w)::P.zip vs) m p=_
  unfold bindL;rw[bB3 λv hv=>(xP.mp nd).1 (xQ hv).1,a7 hk]
  simp
 | p::P,w::vs,i+1,m,nd,h1,h2,hk=>by
  show bindL kindOf ((p,w)::P.zip vs) m x=_
  unfold bindL;exact bB5 (i:=i) (xP.mp nd).2 (by simpa using h1) (by simpa using h2) hk
theorem bB6 {kindOf:Str->Option NameKind}{x:Str}{v:Value}: ∀{P:List Str} {vs:List Value} {i:Nat} {m:Str->Option Value},P.Nodup->P[i]? =some x->vs[i]? =some v->kindOf x≠some .local->
  bindC kindOf (P.zip vs) m x=some v
 | [],_,_,_,_,h,_,_=>by simp at h
 | _::_,[],_,_,_,_,h,_=>by simp at h
 | p::P,w::vs,0,m,nd,h1,h2,hk=>by
  simp at h1 h2;subst h1;subst h2
  show bindC kindOf ((p,w)::P.zip vs) m p=_
  unfold bindC;rw[bB4 λv hv=>(xP.mp nd).1 (xQ hv).1,a6 hk]
  simp
 | p::P,w::vs,i+1,m,nd,h1,h2,hk=>by
  show bindC kindOf ((p,w)::P.zip vs) m x=_
  unfold bindC;exact bB6 (i:=i) (xP.mp nd).2 (by simpa using h1) (by simpa using h2) hk
noncomputable def start (N:List Str)(vs:List V):St:=vs.map some++replicate (N.length-vs.length) none
noncomputable def qV (CX:CXT)(P:Program)(w:World)(K:Frag)(mg:Str->Option Value)(base:Heap)(N:List Str)(qual:Str)(scope:Scope)(f:Addr)(cd:Value)(A:Around)(outer:List Env)(s:Shared)(H:Hp)(E:XK):Cx where
 prog:=P
 w:=w
 K:=K
 mg:=mg
 base:=base
 A:=A.deeper (envOfC qual scope s.heap.objs.size f cd)
 N:=N
 s₀:=s
 H₀:=H
 env:=envOfC qual scope s.heap.objs.size f cd
 outer:=outer
 stack:=envOfC qual scope s.heap.objs.size f cd::outer
 ex:=[]
 calm:=true
 fn:=λ_=>true
 pn:=[]
 xe:=λe s'=>wpAny (model P w) (A.deeper<|envOfC qual scope s.heap.objs.size f cd) (leaving (envOfC qual scope s.heap.objs.size f cd) e) (λ_ s''=>CX outer H s E e s'') (λe' s''=>CX outer H s E e' s'') s'
theorem bN8 {sc:Scope}{n:Nat}{x:Str}(h:sc.names.lookup x=some .cell): ∃c,(cellsFrom n sc.names []).lookup x=some c:=by
 have q:=aD3 sc.names n [] (.inl h);exact Option.isSome_iff_exists.mp q
theorem bB7 {CX:CXT}{P:Program}{w:World}{K:Frag}{mg:Str->Option Value}{base:Heap}{N ps:List Str}{qual:Str}{scope:Scope}{f:Addr}{cd:Value}{A:Around}{outer:List Env}{s s1:Shared}{H:Hp}{E:XK}{us:List Value}{vs:List V}
  (S:aZ N ps scope) (hd:A.handled=none) (e0:bY8 P w K mg base A outer s H) (hl:vs.length=ps.length) (r:Vals vs us)
  (x:InCallC s s.heap.objs.size (bindL (envOfC qual scope s.heap.objs.size f cd).kindOf (ps.zip us) λ_=>none) (cellsFrom (s.heap.objs.size+1) scope.names []) (bindC (envOfC qual scope s.heap.objs.size f cd).kindOf (ps.zip us) λ_=>none) s1) :
  Inv (qV CX P w K mg base N qual scope f cd A outer s H E) [] (start N vs) H s1:=by
 have hpl:ps.length<=N.length:=by have:=bP length S.pre;rw[sR]at this;lia
 obtain⟨h1,tk,rfl,hk⟩:=x.done;have noA: ∀b:Addr,b ∉ (qV CX P w K mg base N qual scope f cd A outer s H E).ex:=λb z=>absurd (show b∈([]:List Addr)from z) ae
 refine⟨⟨e0.mod,S.kind,rfl,rfl,aB _,λy z c h1 h2=> ?_,λy hy=> ?_,λy c _ h=> ?_,λ_=>hd,Around.frames_deeper e0.frames,.inr ⟨rfl,rfl⟩,λb z=>absurd z (noA b),e0.bs,e0.bsz,λb _ _=>noA b,λb z=>absurd z (noA b),e0.funs,e0.frf⟩,
  rfl,e0.bare,Un.kept hk,⟨_,x.toInCall.ns,λi y v h1 h2 h3=> ?_⟩,λy c h=>⟨_,x.cell y c h⟩,e0.hok.fresh<|aB _,λy c h=> ?_,λp hp=>absurd (show p∈([]:List (Addr×Obj))from hp) ae,e0.hok.kept hk,?_⟩
 ·exact name_of_addr x.apart (oV h1) (oV h2)
 ·have hy:scope.names.lookup y=some .cell\/scope.names.lookup y=some .free:=hy;rcases hy with hy|hy
  ·exact bN8 hy
  ·exact absurd rfl (S.nofree _<|oV hy)
 ·exact pG (x.above y c<|oV h)
 ·have hi:i<vs.length:=by
   unfold start at h2
   by_cases hi:i<vs.length
   ·exact hi
   ·rw[sG<|by simpa using hi]at h2
    rw[List.getElem?_replicate]at h2;split at h2<;>cases h2
  have ha:vs[i]? =some v:=by
   unfold start at h2;rw[wY<|by simpa using hi,bI]at h2
   cases e:vs[i]? with
   | none=>rw[e]at h2;cases h2
   | some a=>rw[e]at h2;cases h2;rfl
  obtain⟨u,hu,rv⟩:=r.get ha;have hp:ps[i]? =some y:=by
   rw[<-S.pre,List.getElem?_take_of_lt ad];exact h1
  have ndP:ps.Nodup:=by rw[<-S.pre];exact S.nd.sublist (List.take_sublist _ _)
  refine⟨u,rv,?_⟩
  rcases S.par y (sJ hp)with k|k
  ·exact .inl ⟨k,bB5 ndP hp hu k⟩
  ·obtain⟨c,e⟩:=bN8 (n:=s.heap.objs.size+1) k;refine .inr ⟨.inl k,c,e,?_⟩;have q:=x.cell y c e;rw[bB6 ndP hp hu (by show scope.names.lookup y≠_;rw[k];decide)]at q
   exact q
 ·exact e0.hok.fresh (pG<|x.above y c<|oV h)
 ·unfold start;show _=N.length;rw[cU,aH,List.length_replicate]
  lia
theorem cJ7 {CX:CXT}{P:Program}{w:World}{K:Frag}{mg:Str->Option Value}{base:Heap}{k:Nat}{f:Addr}{name qual:Str}{params:Arguments}{body:List Stmt}{scope:Scope}{dV kV doc pm cdv ct oc:Value}{an od:Option Addr}
  {osl:Array (Option Value)} {N ps:List Str} {sp:Sp} (lk:K.lookup f=some ⟨oc,od,.func<|fnOf name qual params body scope dV kV doc pm an cdv ct,osl⟩) (hcd:codeIn K cdv qual=true) (S:aZ N ps scope)
  (len: ∀vs H Q E,sp vs H Q E->vs.length=ps.length)
  (hbody: ∀(A:Around) (outer:List Env) (s:Shared) (H:Hp) (vs:List V) (Q:VK) (E:XK),gM k (A.deeper<|envOfC qual scope s.heap.objs.size f cdv)->sp vs H Q E->
   ∃t,PSs (qV CX P w K mg base N qual scope f cdv A outer s H E) body t/\t {nx:=λ_ H'=>Q .non H',rt:=Q} (start N vs) H) :
  qU P w K mg base CX (k+1) f (fnOf name qual params body scope dV kV doc pm an cdv ct) ps sp:=by
 refine⟨len,λA outer s H args us vs Q E hr e0 hb r hsp=> ?_⟩
 have hl:=len _ _ _ _ hsp;have KX:K.In s.heap:=e0.mod.kin.keeps λb o e=>(e0.bs b o e).1
 have lim:s.heap.NoLimit:=e0.mod.nolimit.keeps λb o e=>(e0.bs b o e).1
 have hkind: ∀y∈ps.zip us,scope.names.lookup y.1=some .local\/(scope.names.lookup y.1=some .cell/\((cellsFrom (s.heap.objs.size+1) scope.names []).lookup y.1).isSome=true):=λ⟨n,v⟩ hy=>by
  rcases S.par n (xQ hy).1 with q|q
  ·exact .inl q
  ·exact .inr ⟨q,aD3 _ _ _<|.inl q⟩
 refine codeAny_call_function hr.depth (KX _ _ lk) rfl S.co S.gen rfl (PySem.W.codeRec_of KX hcd) (hb _ _ _ _ ?_)
 refine wpAny_newFunctionEnv_cells S.kind hkind λenv he s1 x=> ?_
 subst he;refine⟨lim.keeps x.toInCall.keep,codeAny_func ?_⟩;obtain⟨t,ht,hq⟩:=hbody A outer s H vs Q E (hr.deeper _) hsp;have I:Inv (qV CX P w K mg base N qual scope f cdv A outer s H E) [] (start N vs) H s1:=bB7 S hr.hd e0 hl r x;refine bD (ht [] s1 (start N vs) H _ I hq) (λfl s' hs=> ?_) λe s' hs=>hs
 have fin: ∀{σ':St} {H':Hp} {v:V} {u:Value},Inv (qV CX P w K mg base N qual scope f cdv A outer s H E) [] σ' H' s'->RelV v u->Q v H'->CE outer P w H s Q u s':=
  λ{σ' H' v u} J rv q=>⟨v,H',J.os,J.bare,J.base,J.hok,rv,q⟩
 cases fl with
 | ret u=>
  obtain⟨v,σ',H',J,rv,q⟩:=hs;exact fin J rv q
 | next=>
  obtain⟨σ',H',J,q⟩:=hs;exact fin (v:=V.non) (u:=Value.none) J rfl q
 | brk=>
  obtain⟨_,_,_,q⟩:=hs;exact False.elim q
 | cont=>
  obtain⟨_,_,_,q⟩:=hs;exact False.elim q
end L2
namespace L2
open PySem PySem.Spec PyProof.Rows
section
variable {X:Cx}{x:Str}{p pos:Pos}{e:Expr}{es:List Expr}{t:TA}{id T:String}{r:List V->Hp->VK->Prop}
def tCB (r:List V->Hp->VK->Prop)(t:TA):TE:=λσ H Q=>t σ H λvs H1=>r vs H1 Q
theorem bN9 (hc:qH X (.builtin id) r)(hg:Gl X x)(hm:X.mg x=none)(hv:bootBuiltins x=some (.builtin id))(ha:PA X (e::es) t)(hn:x≠"__name__":=by decide)(hdb:(x==("__debug__":Str))=false:=by decide)
  (he:starEach (e::es) X.env=(false,eval e X.env)::starEach es X.env:=by rfl) (hpl:(backTo pos<|starEach es X.env).any (·.1)=false:=by rfl):PE X (.Call (.Name x p) (e::es) [] pos) (tCB r t):=by
 intro pins s σ H Q I h;refine oW (tG I hg hm hv ?_ hn hdb);exact PyProof.Rows.callWith_builtin1 (thn (ha pos pins s σ H _ I h) λus s1 ⟨vs,H1,I1,r1,q1⟩=>hc pins s1 σ H1 vs us Q I1 r1 q1) he hpl
theorem cC6 (hc:qH X (.type T) r)(hg:Gl X x)(hm:X.mg x=none)(hv:bootBuiltins x=some (.type T))(ha:PA X (e::es) t)(hn:x≠"__name__":=by decide)(hdb:(x==("__debug__":Str))=false:=by decide)
  (he:starEach (e::es) X.env=(false,eval e X.env)::starEach es X.env:=by rfl) (hpl:(backTo pos<|starEach es X.env).any (·.1)=false:=by rfl):PE X (.Call (.Name x p) (e::es) [] pos) (tCB r t):=by
 intro pins s σ H Q I h;refine oW (tG I hg hm hv ?_ hn hdb);exact jE (thn (ha pos pins s σ H _ I h) λus s1 ⟨vs,H1,I1,r1,q1⟩=>hc pins s1 σ H1 vs us Q I1 r1 q1) he hpl
end
end L2
namespace HT
open PySem PyProof.Rows
section
open PySem.SeqAt
open PySem.AutoSeq1 (wpAny_loadPart')
open PySem.MeetsSeq PySem.MeetsSeq2 PySem.MeetsSeq3
end
section
variable {prog:Program}{w:World}{A:Around}{E:Value->Shared->Prop}{s:Shared}
theorem cat_tup {t b:Addr}{vs ws:List Value}{Q:Value->Shared->Prop}(ht:IsTup s.heap t vs.toArray)(hb:IsTup s.heap b ws.toArray)(hv:vs≠[])
  (h1:ws=[]->Q (.ref t) s) (h2:ws≠[]->Q (.ref s.heap.objs.size) {s with heap:=s.heap.push {cls:= .type "tuple",data:= .seq (vs++ws).toArray}})
  (hsz:vs.length+ws.length<=sizeLine):wpAny (model prog w) A (binaryOp .Add (.ref t)<|.ref b) Q E s:=by
 obtain⟨⟨cls,dd,data,sl⟩,ho,hc,n,hd⟩:=id ht;obtain⟨⟨cls2,dd2,data2,sl2⟩,ho2,hc2,n2,hd2⟩:=id hb;simp only at hc hd hc2 hd2;subst hc hd hc2 hd2;have e:vs.toArray++ws.toArray=(vs++ws).toArray:=ae
 by_cases hw:ws=[]
 ·exact concat_meets ⟨_,ho,rfl⟩ ⟨_,ho2,rfl⟩ aF6 seq_tuple_add aD4 aC8 (aC2 _ _)
   (tuple_addW1 t b vs.toArray ws.toArray n n2 dd dd2 sl sl2 (by simpa using hv)<|by simp[hw]) ⟨ho,ho2,h1 hw⟩
 ·refine concat_meets ⟨_,ho,rfl⟩ ⟨_,ho2,rfl⟩ aF6 seq_tuple_add aD4 aC8 (aC2 _ _)
   (tuple_addW2 t b vs.toArray ws.toArray n n2 dd dd2 sl sl2 (by simpa using hv) (by simpa using hw) (by rw[aY,aY];exact hsz)) ⟨ho,ho2,?_⟩
  rw[e];exact h2 hw
noncomputable def sIx (n d:Nat):Option Int->Nat
 | none=>d
 | some v=>if v<0 then(v+(n:Int)).toNat else min v.toNat n
theorem sIx_none (n d:Nat):sIx n d none=d:=rfl
theorem sIx_nat (n d k:Nat):sIx n d (some (k:Int))=min k n:=by
 show(if(k:Int)<0 then((k:Int)+(n:Int)).toNat else min (k:Int).toNat n)=min k n
 rw[a6 ad,eM]
theorem sIx_le (n d:Nat)(hd:d<=n)(o:Option Int):sIx n d o<=n:=by
 cases o with
 | none=>exact hd
 | some v=>
  show(if v<0 then(v+(n:Int)).toNat else min v.toNat n)<=n
  by_cases hv:v<0
  ·rw[a7 hv];lia
  ·rw[a6 hv];exact Nat.min_le_right _ _
theorem c61 (v:Int)(n d:Nat):(if v<0 then max (v+(n:Int)) 0 else min v (n:Int))=((sIx n d (some v):Nat):Int):=by
 show(if v<0 then max (v+(n:Int)) 0 else min v (n:Int))=(((if v<0 then(v+(n:Int)).toNat else min v.toNat n):Nat):Int)
 by_cases hv:v<0
 ·simp only[a7 hv];lia
 ·simp only[a6 hv];lia
theorem bY9 (lo hi:Option Int)(n:Nat):Builtin.Slice.sliceAdjust lo hi 1 (n:Int)=(((sIx n 0 lo:Nat):Int),((sIx n n hi:Nat):Int)):=by
 have h1: ¬((1:Int)<0):=ad
 unfold Builtin.Slice.sliceAdjust;simp only[h1,dQ];refine fX ?_ ?_
 ·cases lo with
  | none=>rfl
  | some v=>exact c61 v n 0
 ·cases hi with
  | none=>rfl
  | some v=>exact c61 v n n
theorem bZ0 (i j:Nat):Builtin.Slice.slicePlaces (i:Int) (j:Int) 1=j-i:=by
 unfold Builtin.Slice.slicePlaces;have h1:(1:Int)>0:=ad
 simp only[h1,cF,Int.ediv_one];split<;>lia
theorem aY9 {v:Value}{o:Option Int}{Q:Option Int->Shared->Prop}(p:IsPart v o)(h:Q o s):wpAny (model prog w) A (Builtin.Slice.slicePartIndex v) Q E s:=by
 cases p with
 | none=>exact slicePart_none h
 | int i t=>exact slicePart_int h
theorem wB {sl:Addr}{vl vu:Value}{lo hi:Option Int}{n:Nat}{Q:Int×Int×Nat->Shared->Prop}(hs:s.heap.IsSliceOf sl vl vu .none)(pl:IsPart vl lo)(pu:IsPart vu hi)
  (h:Q (((sIx n 0 lo:Nat):Int),1,sIx n n hi-sIx n 0 lo) s):wpAny (model prog w) A (Builtin.Slice.sliceApplied (.ref sl)<|pure (n:Int)) Q E s:=by
 obtain⟨os,hos,hcs,hds⟩:=id hs;unfold Builtin.Slice.sliceApplied Builtin.Slice.sliceFields;refine a8 (a8<|cO hos hds (x:=vl) rfl (a8<|cO hos hds (x:=vu) rfl (a8<|cO hos hds (x:= .none) rfl (aG ?_))));refine a8 (slicePart_none ?_);show wpAny _ _ (if((1:Int)==0)=true then _ else _) _ _ s;rw[a6 ac]
 refine a8 (aY9 pl<|a8<|aY9 pu<|a8<|aG ?_)
 show wpAny _ _ (match Builtin.Slice.sliceAdjust lo hi 1 (n:Int)with| (lo,hi)=>pure (lo,(1:Int),Builtin.Slice.slicePlaces lo hi 1)) _ _ s
 rw[bY9 lo hi n];show wpAny _ _ (pure (((sIx n 0 lo:Nat):Int),(1:Int),Builtin.Slice.slicePlaces ((sIx n 0 lo:Nat):Int) ((sIx n n hi:Nat):Int) 1)) _ _ s;rw[bZ0];exact aG h
theorem cJ8 (xs:Array Value)(i k:Nat):((List.range k).filterMap fun(m:Nat)=>xs[((i:Int)+(m:Int)*1).toNat]?).toArray=((xs.toList.drop i).take k).toArray:=by
 have e:(fun(m:Nat)=>xs[((i:Int)+(m:Int)*1).toNat]?)=λm=>xs[i+m]? :=by
  funext m
  have:((i:Int)+(m:Int)*1).toNat=i+m:=ad
  rw[this]
 rw[e];have:=pick_run xs i k;rw[List.filterMap_map]at this;have e2:((λx=>xs[x]?)∘λx=>i+x)=λm=>xs[i+m]? :=rfl
 rw[e2]at this;rw[this]
theorem getItem_tuple_cut {t sl:Addr}{items:Array Value}{vl vu:Value}{lo hi:Option Int}{Q:Value->Shared->Prop}(ht:IsTup s.heap t items)(hs:s.heap.IsSliceOf sl vl vu .none)(pl:IsPart vl lo)(pu:IsPart vu hi)
  (hw: ¬(sIx items.size 0 lo=0/\sIx items.size items.size hi=items.size))
  (h:Q (.ref s.heap.objs.size) {s with heap:=s.heap.push {cls:= .type "tuple",data:= .seq ((items.toList.drop<|sIx items.size 0 lo).take<|sIx items.size items.size hi-sIx items.size 0 lo).toArray}})
  (hsz:items.size<=sizeLine):wpAny (model prog w) A (getItem (.ref t)<|.ref sl) Q E s:=by
 have htake:sizeOk (.seq ((items.toList.drop<|sIx items.size 0 lo).take<|sIx items.size items.size hi-sIx items.size 0 lo).toArray):=by
  show((items.toList.drop<|sIx items.size 0 lo).take<|sIx items.size items.size hi-sIx items.size 0 lo).toArray.size<=sizeLine
  rw[aY,sR,sS,aE3];omega
 have hj:sIx items.size items.size hi<=items.size:=sIx_le _ _ (aB _) hi;obtain⟨os,hos,hcs,hds⟩:=id hs;have hTs:s.TypeIs (.ref sl) "slice":=⟨os,hos,hcs⟩;unfold getItem;try with_reducible refine iV ?_
 first|refine a8 (aG ?_)|skip
 refine a8 (wpAny_sequenceKey ht.typeIs ac ?_)
 refine a8 (kL (name:=Str.ofString "__getitem__") ht.typeIs wW
  (i6 wW ht.typeIs entry_tuple_getitem ?_<|args_tuple_getitem _ _))
 show wpAny _ _ (Builtin.Tuple.tupleItemsOf (.ref t) >>= _) _ _ s
 refine a8 (tupleItemsOf_ ht ?_)
 refine a8 (xX hTs ?_)
 rw[a7 ac]
 refine a8 (wB hs pl pu ?_)
 have hno: ¬((((sIx items.size 0 lo:Nat):Int)==0&&(1:Int)==1&&(sIx items.size items.size hi-sIx items.size 0 lo)==items.size)=true):=by
  intro q;rw[dN,dN]at q;have q1:((sIx items.size 0 lo:Nat):Int)=0:=eq_of_beq q.1.1;have q2:sIx items.size items.size hi-sIx items.size 0 lo=items.size:=eq_of_beq q.2;exact hw ⟨aa,aa⟩
 show wpAny _ _ (if(((sIx items.size 0 lo:Nat):Int)==0&&(1:Int)==1&&(sIx items.size items.size hi-sIx items.size 0 lo)==items.size)=true then _ else _) _ _ s
 rw[a6 hno,cJ8]
 first
  | exact a8 (m:=Builtin.Tuple.tupleExact _) (jL (aG ⟨_,rfl,aG h⟩) htake)
  | exact a8 (m:=Builtin.Tuple.tupleExact _) (jL (a8<|aG<|aG ⟨_,rfl,aG h⟩) htake)
  | exact a8 (a8 (m:=Builtin.Tuple.tupleExact _)<|jL (aG<|aG ⟨_,rfl,aG h⟩) htake)
  | exact a8 (a8 (m:=Builtin.Tuple.tupleExact _)<|jL (aG ⟨_,rfl,aG h⟩) htake)
end
end HT
namespace L2
open PySem PySem.Spec PyProof.Rows
abbrev TO:=St->Hp->(Option Int->Hp->Prop)->Prop
def PO (X:Cx)(e:Option Expr)(t:TO):Prop:=
 ∀(pins:List (Addr×Obj)) (s:Shared) (σ:St) (H:Hp) (Q:Option Int->Hp->Prop),Inv X pins σ H s->t σ H Q->
  wpAny (model X.prog X.w) X.A (evalPart e X.env) (λu s'=> ∃o H',Inv X pins σ H' s'/\IsPart u o/\Q o H') X.xe s
def cZ0:TO:=λ_ H Q=>Q none H
def tPart (t:TE):TO:=λσ H Q=>t σ H λx H1=> ∃i,x= .int i/\Q (some i) H1
theorem intsAre_of {ns:List Int}: ∀{us:List Value},Vals (ns.map V.int) us->IntsAre us ns:=by
 induction ns with
 | nil=>intro us r;rw[jO]at r;cases r;exact .nil
 | cons n ns ih=>
  intro us r;rw[bW]at r;cases r with
  | cons r1 r2=>
   obtain⟨t,e⟩:=r1;subst e;exact .cons n t (ih r2)
section
variable {X:Cx}{e:Expr}{te:TE}{lo hi:Option Expr}{tl th:TO}{pos p2:Pos}
theorem cZ1:PO X none cZ0:=by
 intro pins s σ H Q I h;rw[evalPart_none];exact aG ⟨none,H,I,.none,h⟩
theorem cZ2 (h:PE X e te):PO X (some e) (tPart te):=by
 intro pins s σ H Q I hw;rw[evalPart_some];refine thn (h pins s σ H _ I hw) λu s1 ⟨x,H1,I1,r1,q1⟩=> ?_
 obtain⟨i,rfl,q⟩:=q1;obtain⟨t,rfl⟩:=r1;exact⟨some i,H1,I1,.int i t,q⟩
def SlR (X:Cx)(r:V->Option Int->Option Int->Hp->VK->Prop):Prop:=
 ∀(pins:List (Addr×Obj)) (s:Shared) (σ:St) (H:Hp) (x:V) (v vl vu:Value) (lo hi:Option Int) (sl:Addr) (Q:VK),Inv X pins σ H s->RelV x v->s.heap.IsSliceOf sl vl vu .none->IsPart vl lo->IsPart vu hi->r x lo hi H Q->
  ∃T id,typeLookup (.type T) "__getitem__"=pure (some<|.builtin id)/\s.TypeIs v T/\wpAny (model X.prog X.w) X.A (getItem v<|.ref sl) (EP X pins σ Q) X.xe s
theorem SlR.or {r r':V->Option Int->Option Int->Hp->VK->Prop}(h:SlR X r)(h':SlR X r'):SlR X (λx lo hi H Q=>r x lo hi H Q\/r' x lo hi H Q):=by
 intro pins s σ H x v vl vu lo hi sl Q I rx hs pl pu q;rcases q with q|q
 ·exact h pins s σ H x v vl vu lo hi sl Q I rx hs pl pu q
 ·exact h' pins s σ H x v vl vu lo hi sl Q I rx hs pl pu q
def tSl (r:V->Option Int->Option Int->Hp->VK->Prop)(te:TE)(tl th:TO):TE:=λσ H Q=>te σ H λx H1=>tl σ H1 λl H2=>th σ H2 λu H3=>r x l u H3 Q
theorem bO0 {r:V->Option Int->Option Int->Hp->VK->Prop}(hr:SlR X r)(he:PE X e te)(hl:PO X lo tl)(hu:PO X hi th):PE X (.Subscript e (.Slice lo hi none p2) pos) (tSl r te tl th):=by
 intro pins s σ H Q I h;refine Subscript_ (thn (he pins s σ H _ I h) λv s1 ⟨x,H1,I1,r1,q1⟩=> ?_)
 refine wpAny_Slice (thn (hl pins s1 σ H1 _ I1 q1) λvl s2 ⟨l,H2,I2,pl,q2⟩=>thn (hu pins s2 σ H2 _ I2 q2) λvu s3 ⟨u,H3,I3,pu,q3⟩=> ?_)
 rw[evalPart_none];refine aG ?_;have I4:Inv X pins σ H3 {s3 with heap:=s3.heap.push {cls:= .type "slice",data:= .fields #[vl,vu,.none]}}:=I3.kept (t':=s3.toks) λb ob q=>aM _ q
 obtain⟨T,id,hT,ht,hg⟩:=hr pins {s3 with heap:=s3.heap.push {cls:= .type "slice",data:= .fields #[vl,vu,.none]}} σ H3 x v vl vu l u s3.heap.objs.size Q I4 r1 (Heap.IsSliceOf.new ..) pl pu q3;show wpAny (model X.prog X.w) X.A (subscriptTail e (.Slice lo hi none p2) v<|.ref s3.heap.objs.size) (EP X pins σ Q) X.xe {s3 with heap:=s3.heap.push {cls:= .type "slice",data:= .fields #[vl,vu,.none]}}
 exact tail_any (ops:=[.ref s3.heap.objs.size,v]) ht hT hg (by with_unfolding_all rfl)
noncomputable def bO1 (xs:List V)(lo hi:Option Int):List V:=(xs.drop<|HT.sIx xs.length 0 lo).take (HT.sIx xs.length xs.length hi-HT.sIx xs.length 0 lo)
theorem aS3 (xs:List V)(lo hi:Option Int):(bO1 xs lo hi).length<=xs.length:=by
 unfold bO1;rw[sR,sS]
 lia
noncomputable def rSlT (K:Frag):V->Option Int->Option Int->Hp->VK->Prop:=λx lo hi H Q=> ∃a xs,x= .ref a/\SqT K H a xs/\
 ¬(HT.sIx xs.length 0 lo=0/\HT.sIx xs.length xs.length hi=xs.length)/\ ∀p,H p=none->Q (.ref p) (upd H p<|.tup<|bO1 xs lo hi)
theorem cJ9:SlR X (rSlT X.K):=by
 intro pins s σ H x v vl vu lo hi sl Q I rx hs pl pu h;obtain⟨a,xs,rfl,hx,hw,q⟩:=h;cases rx;obtain⟨its,r,ht,hz⟩:=I.tuple hx;have hlen:its.toArray.size=xs.length:=by rw[aY];exact r.length.symm
 refine⟨"tuple",_,PyProof.Rows.slot_tuple_getitem.lookup,ht.typeIs,?_⟩
 refine HT.getItem_tuple_cut ht hs pl pu (by rw[hlen];exact hw) ?_ (by rw[hlen];exact hz)
 rw[hlen];refine⟨.ref s.heap.objs.size,_,I.laid (t':=s.toks) (o:= .tup (bO1 xs lo hi)) (λb ob q=>aM _ q) (aB _) ?_,rfl,q _<|I.hok.fresh<|aB _⟩
 exact⟨aT (aS3 xs lo hi) hz,_,(r.drop<|HT.sIx xs.length 0 lo).take<|HT.sIx xs.length xs.length hi-HT.sIx xs.length 0 lo,tF _ _⟩
noncomputable def rCatT (K:Frag):R2:=λx y H Q=> ∃a b xs ys,x= .ref a/\y= .ref b/\SqT K H a xs/\SqT K H b ys/\xs≠[]/\xs.length+ys.length<=sizeLine/\
 (ys=[]->Q (.ref a) H)/\(ys≠[]-> ∀p,H p=none->Q (.ref p) (upd H p<|.tup<|xs++ys))
theorem Vals.nil_iff {xs:List V}{us:List Value}(r:Vals xs us):us=[]↔xs=[]:=by
 cases r with
 | nil=>simp
 | cons _ _=>simp
theorem cZ3:OpR X (binaryOp .Add) (rCatT X.K):=by
 intro pins s σ H x y v u Q I rx ry h;obtain⟨a,b,xs,ys,rfl,rfl,ha,hb,hx,hz,q1,q2⟩:=h;cases rx;cases ry;obtain⟨its,r1,p1,_⟩:=I.tuple ha;obtain⟨its2,r2,p2,_⟩:=I.tuple hb;refine HT.cat_tup p1 p2 (λz=>hx (r1.nil_iff.mp z)) (λz=>⟨.ref a,H,I,rfl,q1<|r2.nil_iff.mp z⟩) (λz=> ?_) (by rw[<-r1.length,<-r2.length];exact hz)
 refine⟨.ref s.heap.objs.size,_,I.laid (t':=s.toks) (o:= .tup (xs++ys)) (λb ob q=>aM _ q) (aB _) ?_,rfl,q2 (λw=>z (r2.nil_iff.mpr w)) _<|I.hok.fresh<|aB _⟩
 exact⟨by rw[cU];exact hz,_,r1.append r2,tF _ _⟩
end
end L2
namespace L2
open PySem PySem.Spec PyProof.Rows
noncomputable def ixN (n:Nat)(i:Int):Option Nat:=if 0<=i then(if i<n then some i.toNat else none)else if -(n:Int)<=i then some (i+n).toNat else none
noncomputable def atI {α:Type}(xs:List α)(i:Int):Option α:=(ixN xs.length i).bind λj=>xs[j]?
theorem c62 {n:Nat}{i:Int}{j:Nat}(h:ixN n i=some j):seqIndex? i n=some j/\j<n/\ -(n:Int)<=i/\i<n:=by
 unfold ixN at h
 by_cases h0:0<=i
 ·rw[a7 h0]at h
  by_cases h1:i<n
  ·rw[a7 h1]at h;have e:i.toNat=j:=gK h;exact⟨by rw[y9 h0 h1,e],ad,ad,h1⟩
  ·rw[a6 h1]at h;cases h
 ·rw[a6 h0]at h
  by_cases h1: -(n:Int)<=i
  ·rw[a7 h1]at h;have e:(i+n).toNat=j:=gK h;exact⟨by rw[xY ad h1,e],ad,h1,ad⟩
  ·rw[a6 h1]at h;cases h
theorem aW2 {α:Type}{xs:List α}{i:Int}{v:α}(h:atI xs i=some v): ∃j,seqIndex? i xs.length=some j/\xs[j]? =some v/\j<xs.length/\ -(xs.length:Int)<=i/\i<xs.length:=by
 unfold atI at h;cases e:ixN xs.length i with
 | none=>rw[e]at h;cases h
 | some j=>
  rw[e]at h;obtain⟨h1,h2,h3,h4⟩:=c62 e;exact⟨j,h1,h,h2,h3,h4⟩
theorem cD {α:Type}{xs:List α}{j:Nat}{v:α}(h:xs[j]? =some v):atI xs (j:Int)=some v:=by
 have hj:j<xs.length:=(kK.mp h).1;have e:ixN xs.length (j:Int)=some j:=by
  unfold ixN;rw[a7 ad,a7 ad];simp
 unfold atI;rw[e];exact h
theorem cK0 {α:Type}(xs:List α)(v:α):atI (xs++[v]) (-1)=some v:=by
 have hl:(xs++[v]).length=xs.length+1:=ae
 have e:ixN (xs++[v]).length (-1)=some xs.length:=by
  unfold ixN;rw[hl,a6 ac,a7 ad]
  congr 1
  lia
 unfold atI;rw[e];show(xs++[v])[xs.length]? =some v;simp
def bF6 (b:Expr):Prop:= ∀o i,subscripted b false o i=operate [o,i] (getItem o i)
def IxR (X:Cx)(r:R2):Prop:=
 ∀(value slice:Expr) (pins:List (Addr×Obj)) (s:Shared) (σ:St) (H:Hp) (x y:V) (v u:Value) (Q:VK),Inv X pins σ H s->RelV x v->RelV y u->r x y H Q->
  subscripted slice false v u=operate [v,u] (getItem v u)->wpAny (model X.prog X.w) X.A (subscriptTail value slice v u) (EP X pins σ Q) X.xe s
def MtR (X:Cx)(id:String)(r:V->List V->Hp->VK->Prop):Prop:=
 ∀(pins:List (Addr×Obj)) (s:Shared) (σ:St) (H:Hp) (x:V) (xs:List V) (v:Value) (us:List Value) (Q:VK),Inv X pins σ H s->RelV x v->Vals xs us->r x xs H Q->
  wpAny (model X.prog X.w) X.A (call (.builtin id) (v::us)) (EP X pins σ Q) X.xe s
section
variable {X:Cx}{a b:Expr}{ta tb:TE}{pos:Pos}
theorem IxR.or {r r':R2}(h:IxR X r)(h':IxR X r'):IxR X (λx y H Q=>r x y H Q\/r' x y H Q):=by
 intro value slice pins s σ H x y v u Q I rx ry q hs;rcases q with q|q
 ·exact h value slice pins s σ H x y v u Q I rx ry q hs
 ·exact h' value slice pins s σ H x y v u Q I rx ry q hs
theorem pe_ix {r:R2}(hr:IxR X r)(ha:PE X a ta)(hb:PE X b tb)(hs:bF6 b):PE X (.Subscript a b pos) (tOp r ta tb):=by
 intro pins s σ H Q I h;exact Subscript_ (binT ha hb I h λv u s2 x y H2 I2 rx ry q=>hr a b pins s2 σ H2 x y v u Q I2 rx ry q (hs _ _))
noncomputable def rIxL (K:Frag):R2:=λx y H Q=> ∃p xs i v,x= .ref p/\y= .int i/\SqL K H p xs/\atI xs i=some v/\Q v H
noncomputable def rIxT (K:Frag):R2:=λx y H Q=> ∃p xs i v,x= .ref p/\y= .int i/\SqT K H p xs/\atI xs i=some v/\Q v H
noncomputable def rIxS:R2:=λx y H Q=> ∃z i c,x= .str z/\y= .int i/\z.length<=sizeLine/\atI z.cps.toList i=some c/\Q (.str ⟨#[c]⟩) H
theorem cZ4:IxR X (rIxL X.K):=by
 intro value slice pins s σ H x y v u Q I rx ry h hs;obtain⟨p,xs,i,z,rfl,rfl,hq,he,q⟩:=h;cases rx;obtain⟨t,rfl⟩:=ry;obtain⟨its,r,pl,hz⟩:=I.list hq;obtain⟨j,h1,h2,h3,h4,h5⟩:=aW2 he;obtain⟨w,ew,rw'⟩:=r.get h2;have hl:=r.length;have hn:=aO3;have fin:EP X pins σ Q w s:=⟨z,H,I,rw',q⟩
 by_cases h0:0<=i
 ·have hj:i.toNat=j:=by
   rw[y9 h0 h5]at h1;exact gK h1
  exact item_listR pl.isList h0 ad (by rw[hj];simpa using ew) fin hs
 ·have hj:(i+(its.toArray.size:Int)).toNat=j:=by
   rw[xY ad h4]at h1
   rw[aY,<-hl];exact gK h1
  exact subscriptTail_builtinR (x:=w) pl.isList.typeIs slot_list_getitem.lookup
   (wpAny_getItem_list_neg (Q:=λr s'=>r=w/\EP X pins σ Q r s') pl.isList ad (by rw[aY]<;>lia) ad (by rw[hj];simpa using ew) ⟨rfl,fin⟩) hs
theorem ix_tup:IxR X (rIxT X.K):=by
 intro value slice pins s σ H x y v u Q I rx ry h hs;obtain⟨p,xs,i,z,rfl,rfl,hq,he,q⟩:=h;cases rx;obtain⟨t,rfl⟩:=ry;obtain⟨its,r,pl,hz⟩:=I.tuple hq;obtain⟨j,h1,h2,h3,h4,h5⟩:=aW2 he;obtain⟨w,ew,rw'⟩:=r.get h2;have hl:=r.length;have hn:=aO3;have fin:EP X pins σ Q w s:=⟨z,H,I,rw',q⟩;exact subscriptTail_builtinR (x:=w) pl.typeIs slot_tuple_getitem.lookup
  (getItem_tuple (j:=j) (Q:=λr s'=>r=w/\EP X pins σ Q r s') pl ad ad (by rw[aY,<-hl];exact h1) (by simpa using ew) ⟨rfl,fin⟩) hs
theorem ix_str:IxR X rIxS:=by
 intro value slice pins s σ H x y v u Q I rx ry h hs;obtain⟨z,i,c,rfl,rfl,hz,he,q⟩:=h;obtain⟨t,rfl⟩:=rx;obtain⟨t',rfl⟩:=ry;obtain⟨j,h1,h2,h3,h4,h5⟩:=aW2 he;have hl:z.cps.toList.length=z.length:=by simp[Str.length]
 rw[hl]at h1 h4 h5;have hn:=aO3;exact tail_any (typeIs_str s z t) slot_str_getitem.lookup (getItem_str (c:=c) (by
  have e1:decide (i< -(2^63:Int))=false:=cL ad
  have e2:decide (i≥2^63)=false:=cL ad
  rw[e1,e2,Bool.or_false]) (by rw[h1];simpa using h2) ⟨.str ⟨#[c]⟩,H,I.tok _,⟨_,rfl⟩,q⟩) hs
noncomputable def rIx (K:Frag):R2:=λx y H Q=>rIxL K x y H Q\/rIxT K x y H Q\/rIxS x y H Q
theorem ix_seq:IxR X (rIx X.K):=cZ4.or (ix_tup.or ix_str)
theorem bZ1 (its:List Value)(n j:Nat)(u:Value):Obj.mapSeq (·.setIfInBounds j u) {cls:= .type "list",data:= .seq its.toArray n}={cls:= .type "list",data:= .seq (its.set j u).toArray n}:=by
 simp[Obj.mapSeq]
theorem Inv.lst {pins:List (Addr×Obj)}{σ:St}{H:Hp}{s:Shared}{p:Addr}{xs:List V}(I:Inv X pins σ H s)(h:H p=some (.lst xs)) :
  ∃(its:List Value) (n:Nat),Vals xs its/\s.heap.get? p=some {cls:= .type "list",data:= .seq its.toArray n}/\xs.length<=sizeLine:=by
 obtain⟨z,its,n,r,e⟩:=I.hok p _ h;exact⟨its,n,r,e,z⟩
theorem Inv.lstUpd {pins:List (Addr×Obj)}{σ:St}{H:Hp}{s:Shared}{p:Addr}{xs ys:List V}{its its':List Value}{n n':Nat}{f:Obj->Obj}(I:Inv X pins σ H s)(h:H p=some (.lst xs))
  (ho:s.heap.get? p=some {cls:= .type "list",data:= .seq its.toArray n}) (hf:f {cls:= .type "list",data:= .seq its.toArray n}={cls:= .type "list",data:= .seq its'.toArray n'}) (r:Vals ys its') (hz:ys.length<=sizeLine) (t:Nat) :
  Inv X pins σ (upd H p<|.lst ys) {s with heap:=s.heap.update p f,toks:=t}:=by
 have e:(s.heap.update p f).get? p=some {cls:= .type "list",data:= .seq its'.toArray n'}:=by
  rw[oO f ho (by rw[hf]<;>rfl),hf]
 refine I.write (x:=p) (e:=p) (by rw[h];trivial) (.inl rfl) (λb u hb q=>(aD5 _ _<|Ne.symm hb).trans q) ⟨_,e⟩ ?_
 exact⟨hz,its',n',r,e⟩
noncomputable def rSetL:V->V->V->Hp->(Hp->Prop)->Prop:=λo i v H Q=> ∃p xs k j,o= .ref p/\i= .int k/\H p=some (.lst xs)/\ixN xs.length k=some j/\Q (upd H p<|.lst<|xs.set j v)
theorem bO2:PSet X rSetL:=by
 intro pins s σ H o i v ov iv u Q I ro ri rv h;obtain⟨p,xs,k,j,rfl,rfl,hp,hj,q⟩:=h;cases ro;obtain⟨t,rfl⟩:=ri;obtain⟨its,n,r,ho,hz⟩:=I.lst hp;obtain⟨h1,h2,h3,h4⟩:=c62 hj;have hl:=r.length;have hn:=aO3;have I':Inv X pins σ (upd H p<|.lst<|xs.set j v) {s with heap:=s.heap.update p (Obj.mapSeq (·.setIfInBounds j u))}:=
  I.lstUpd hp ho (bZ1 its n j u) (r.set rv j) (by rw[dU];exact hz) s.toks
 by_cases h0:0<=k
 ·have hk:k.toNat=j:=by
   rw[y9 h0 h4]at h1;exact gK h1
  exact PySem.W.ki_setAt ho h0 ad (by rw[aY,<-hl];exact h4) (by rw[hk];exact⟨_,I',q⟩)
 ·have hk:(k+(its.toArray.size:Int)).toNat=j:=by
   rw[xY ad h3]at h1
   rw[aY,<-hl];exact gK h1
  exact PySem.W.ki_setBack ho ad (by rw[aY,<-hl];exact h3) ad (by rw[hk];exact⟨_,I',q⟩)
theorem bF7 (lo hi:Option Int)(n:Nat):(sliceBounds lo hi none n).1=((HT.sIx n 0 lo:Nat):Int)/\(sliceBounds lo hi none n).2.1=((HT.sIx n n hi:Nat):Int)/\(sliceBounds lo hi none n).2.2=1:=by
 refine⟨?_,?_,rfl⟩
 ·cases lo with
  | none=>simp[sliceBounds,HT.sIx]
  | some i=>
   simp only[sliceBounds,HT.sIx,getD_none,show(1:Int)>0 by decide,cF]
   by_cases h:i<0
   ·simp only[h,cF]<;>lia
   ·simp only[h,dQ]<;>lia
 ·cases hi with
  | none=>simp[sliceBounds,HT.sIx]
  | some i=>
   simp only[sliceBounds,HT.sIx,getD_none,show(1:Int)>0 by decide,cF]
   by_cases h:i<0
   ·simp only[h,cF]<;>lia
   ·simp only[h,dQ]<;>lia
theorem b77 (its:List Value)(lo hi:Option Int):slicePick its.toArray lo hi none=((its.drop<|HT.sIx its.length 0 lo).take<|HT.sIx its.length its.length hi-HT.sIx its.length 0 lo).toArray:=by
 obtain⟨h1,h2,h3⟩:=bF7 lo hi its.toArray.size;unfold slicePick;rw[h1,h2,h3];simp only[sliceRange_one,pick_run,aY]<;>rfl
noncomputable def rSlL (K:Frag):V->Option Int->Option Int->Hp->VK->Prop:=λx lo hi H Q=> ∃a xs,x= .ref a/\SqL K H a xs/\ ∀p,H p=none->Q (.ref p) (upd H p<|.lst<|bO1 xs lo hi)
theorem c63:SlR X (rSlL X.K):=by
 intro pins s σ H x v vl vu lo hi sl Q I rx hs pl pu h;obtain⟨a,xs,rfl,hx,q⟩:=h;cases rx;obtain⟨its,r,ht,hz⟩:=I.list hx;have hlen:=r.length;refine⟨"list",_,slot_list_getitem.lookup,ht.isList.typeIs,?_⟩;refine wpAny_getItem_list_slice ht.isList hs pl pu .none ae ?_ (by rw[aY]<;>lia)
 rw[b77,<-hlen];refine⟨.ref s.heap.objs.size,_,I.laid (t':=s.toks) (o:= .lst (bO1 xs lo hi)) (λb ob q=>aM _ q) (aB _) ?_,rfl,q _<|I.hok.fresh<|aB _⟩
 exact⟨aT (aS3 xs lo hi) hz,_,0,(r.drop<|HT.sIx xs.length 0 lo).take<|HT.sIx xs.length xs.length hi-HT.sIx xs.length 0 lo,bN _ rfl⟩
noncomputable def aJ4:V->Bool
 | .non=>true
 | .bl _=>true
 | .int _=>true
 | .str _=>true
 | _=>false
noncomputable def eqV:V->V->Bool
 | .non,.non=>true
 | .bl a,.bl b=>a==b
 | .bl a,.int b=>(if a then 1 else 0)==b
 | .int a,.bl b=>a==(if b then 1 else 0)
 | .int a,.int b=>a==b
 | .str a,.str b=>a==b
 | _,_=>false
theorem eqAt_V {A:Around}{s:Shared}{y x:V}{u v:Value}(ry:RelV y u)(rx:RelV x v)(fy:aJ4 y=true)(fx:aJ4 x=true):SeqAt.EqAt A s u v (eqV y x):=by
 cases y with
 | non=>
  cases ry;cases x with
  | non=>cases rx;exact SeqAt.EqAt.same _
  | bl b=>cases rx;exact SeqAt.EqAt.none_bool b
  | int b=>obtain⟨t,rfl⟩:=rx;exact SeqAt.EqAt.none_int b t
  | str b=>obtain⟨t,rfl⟩:=rx;exact SeqAt.EqAt.none_str b t
  | _=>exact absurd (show false=true from fx) bC
 | bl a=>
  cases ry;cases x with
  | non=>cases rx;exact SeqAt.EqAt.bool_none a
  | bl b=>cases rx;exact SeqAt.EqAt.bool_bool a b
  | int b=>obtain⟨t,rfl⟩:=rx;exact SeqAt.EqAt.bool_int a b t
  | str b=>obtain⟨t,rfl⟩:=rx;exact SeqAt.EqAt.bool_str a b t
  | _=>exact absurd (show false=true from fx) bC
 | int a=>
  obtain⟨t',rfl⟩:=ry;cases x with
  | non=>cases rx;exact SeqAt.EqAt.int_none a t'
  | bl b=>cases rx;exact SeqAt.EqAt.int_bool a t' b
  | int b=>obtain⟨t,rfl⟩:=rx;exact SeqAt.EqAt.int_int a t' b t
  | str b=>obtain⟨t,rfl⟩:=rx;exact SeqAt.EqAt.int_str a t' b t
  | _=>exact absurd (show false=true from fx) bC
 | str a=>
  obtain⟨t',rfl⟩:=ry;cases x with
  | non=>cases rx;exact SeqAt.EqAt.str_none a t'
  | bl b=>cases rx;exact SeqAt.EqAt.str_bool a t' b
  | int b=>obtain⟨t,rfl⟩:=rx;exact SeqAt.EqAt.str_int a t' b t
  | str b=>obtain⟨t,rfl⟩:=rx;exact SeqAt.EqAt.str_str a t' b t
  | _=>exact absurd (show false=true from fx) bC
 | _=>exact absurd (show false=true from fy) bC
noncomputable def eqU (x:V)(u:Value):Bool:=match u with
 | .none=>eqV .non x
 | .bool b=>eqV (.bl b) x
 | .int i _=>eqV (.int i) x
 | .str z _=>eqV (.str z) x
 | _=>false
theorem cK1 {x y:V}{u:Value}(r:RelV y u)(f:aJ4 y=true):eqU x u=eqV y x:=by
 cases y with
 | non=>cases r;rfl
 | bl b=>cases r;rfl
 | int i=>obtain⟨t,rfl⟩:=r;rfl
 | str z=>obtain⟨t,rfl⟩:=r;rfl
 | _=>exact absurd (show false=true from f) bC
theorem bF8 {x:V}: ∀{xs:List V} {us:List Value},Vals xs us->xs.all aJ4=true->us.any (eqU x)=xs.any λy=>eqV y x
 | _,_,.nil,_=>rfl
 | y::xs,u::us,.cons r t,f=>by
  rw[all_cons,dN]at f;rw[any_cons,any_cons,cK1 r f.1,bF8 t f.2]
theorem aZ0 {A:Around}{s:Shared}{x:V}{v:Value}(rx:RelV x v)(fx:aJ4 x=true): ∀{xs:List V} {us:List Value},Vals xs us->xs.all aJ4=true-> ∀u∈us,SeqAt.EqAt A s u v (eqU x u)
 | _,_,.nil,_=>λu hu=>by cases hu
 | y::xs,u::us,.cons r t,f=>λu' hu=>by
  rw[all_cons,dN]at f;rcases aS.mp hu with rfl|hu
  ·rw[cK1 r f.1];exact eqAt_V r rx f.1 fx
  ·exact aZ0 rx fx t f.2 u' hu
noncomputable def inV (x:V)(xs:List V):Bool:=xs.any λy=>eqV y x
noncomputable def rIn (K:Frag)(neg:Bool):R2:=λx y H Q=> ∃p xs,y= .ref p/\(SqL K H p xs\/SqT K H p xs)/\aJ4 x=true/\xs.all aJ4=true/\Q (.bl<|if neg then !inV x xs else inV x xs) H
theorem bF9:OpR X (compareOp .NotIn) (rIn X.K true):=by
 intro pins s σ H x y v u Q I rx ry h;obtain⟨p,xs,rfl,hq,fx,fs,q⟩:=h;cases ry;rcases hq with hq|hq
 ·obtain⟨its,r,pl,hz⟩:=I.list hq;refine SeqAt.notIn_listAt (eqU x) pl.isList (λw hw=>aZ0 rx fx r fs w (by simpa using hw)) ⟨.bl _,H,I,rfl,?_⟩
  rw[show its.toArray.any (eqU x)=its.any (eqU x)by simp,bF8 r fs]
  exact q
 ·obtain⟨its,r,pl,hz⟩:=I.tuple hq;refine SeqAt.notIn_tupleAt (eqU x) pl (λw hw=>aZ0 rx fx r fs w (by simpa using hw)) ⟨.bl _,H,I,rfl,?_⟩
  rw[show its.toArray.any (eqU x)=its.any (eqU x)by simp,bF8 r fs]
  exact q
theorem bG0:qH X (.builtin "len") (λxs H Q=> ∃p ys,xs=[.ref p]/\(SqL X.K H p ys\/SqT X.K H p ys)/\Q (.int ys.length) H):=by
 intro pins s σ H xs us Q I r h;obtain⟨p,ys,rfl,hq,q⟩:=h;obtain⟨u,rfl,rx⟩:=vals1 r;cases rx;have hn:=aO3;rcases hq with hq|hq
 ·obtain⟨its,r',pl,hz⟩:=I.list hq;have hlen:=r'.length;exact Calls.call_len_list pl.isList (by simp only[aY]<;>lia) ⟨.int ys.length,H,I.tok _,⟨s.toks+1,by rw[aY,hlen]⟩,q⟩
 ·obtain⟨its,r',pl,hz⟩:=I.tuple hq;have hlen:=r'.length;exact len_tuple pl (by simp only[aY]<;>lia) ⟨.int ys.length,H,I.tok _,⟨s.toks+1,by rw[aY,hlen]⟩,q⟩
theorem bG1:qH X (.type "list") (λxs H Q=> ∃p ys,xs=[.ref p]/\(SqL X.K H p ys\/SqT X.K H p ys)/\ ∀l,H l=none->Q (.ref l) (upd H l<|.lst ys)):=by
 intro pins s σ H xs us Q I r h;obtain⟨p,ys,rfl,hq,q⟩:=h;obtain⟨u,rfl,rx⟩:=vals1 r;cases rx;have fin: ∀(its:List Value),Vals ys its->ys.length<=sizeLine-> ∀(h':Heap) (c':Nat),(∀b o',s.heap.get? b=some o'->h'.get? b=some o')->
   h'.get? s.heap.objs.size=some {cls:= .type "list",dict:=none,data:= .seq its.toArray c',slots:= #[]}->EP X pins σ Q (.ref s.heap.objs.size) {s with heap:=h'}:=λits r' hz h' c' kp e=>
  ⟨.ref s.heap.objs.size,_,I.laid (t':=s.toks) kp (aB _)<|show qF X.prog X.w _ h' _ (.lst ys)from⟨hz,its,c',r',e⟩,rfl,q _<|I.hok.fresh<|aB _⟩
 rcases hq with hq|hq
 ·obtain⟨its,r',pl,hz⟩:=I.list hq;have hlen:=r'.length;obtain⟨o,ho,hc,n,hd⟩:=pl.isList;exact call_list_seq p (.inl rfl) ho hc hd (λh' c' kp e=>fin its r' hz h' c' kp e) (by simp only[aY]<;>lia)
 ·obtain⟨its,r',pl,hz⟩:=I.tuple hq;have hlen:=r'.length;obtain⟨o,ho,hc,n,hd⟩:=pl;exact call_list_seq p (.inr rfl) ho hc hd (λh' c' kp e=>fin its r' hz h' c' kp e) (by simp only[aY]<;>lia)
theorem v7:qH X (.type "tuple") (λxs H Q=> ∃p ys,xs=[.ref p]/\((SqL X.K H p ys/\ ∀l,H l=none->Q (.ref l) (upd H l<|.tup ys))\/(SqT X.K H p ys/\Q (.ref p) H))):=by
 intro pins s σ H xs us Q I r h;obtain⟨p,ys,rfl,h⟩:=h;obtain⟨u,rfl,rx⟩:=vals1 r;cases rx;rcases h with⟨hq,q⟩| ⟨hq,q⟩
 ·obtain⟨its,r',pl,hz⟩:=I.list hq;have hlen:=r'.length;refine call_tuple_list pl.isList (λh' kp=> ?_) (by simp only[aY]<;>lia)
  have I1:Inv X pins σ H {s with heap:=h'}:=I.kept (t':=s.toks) kp;have I2:Inv X pins σ (upd H h'.objs.size<|.tup ys) {s with heap:=h'.push {cls:= .type "tuple",data:= .seq its.toArray}}:=
   I1.laid (t':=s.toks) (λb o e=>aM _ e) (aB _) (show qF X.prog X.w _ _ _ (.tup ys)from⟨hz,its,r',tF _ _⟩)
  exact⟨.ref h'.objs.size,_,I2,rfl,q _<|I1.hok.fresh<|aB _⟩
 ·obtain⟨its,r',pl,hz⟩:=I.tuple hq;exact call_tuple_same pl ⟨.ref p,H,I,rfl,q⟩
def tyV (K:Frag)(T:String)(x:V)(H:Hp):Prop:=match x with
 | .str _=>T="str"
 | .int _=>T="int"
 | .ref p=>(T="list"/\ ∃xs,SqL K H p xs)\/(T="tuple"/\ ∃o,K.lookup p=some o/\o.cls= .type "tuple"/\o.dict=none)\/
   (T="dict"/\((∃kvs,H p=some (.dK kvs))\/ ∃kvs,H p=some (.dT kvs)))\/(T="set"/\ ∃S n,H p=some (.set S n))
 | _=>False
theorem cK2 {pins:List (Addr×Obj)}{σ:St}{H:Hp}{s:Shared}{T:String}{x:V}{v:Value}(I:Inv X pins σ H s)(r:RelV x v)(ty:tyV X.K T x H) :
  s.TypeIs v T/\ ∀a,v= .ref a-> ∃ob,s.heap.get? a=some ob/\ob.dict=none:=by
 cases x with
 | str z=>
  obtain⟨t,rfl⟩:=r;cases (show T="str" from ty)
  exact⟨typeIs_str s z t,λ_ e=>nomatch e⟩
 | int i=>
  obtain⟨t,rfl⟩:=r;cases (show T="int" from ty)
  exact⟨pI s i t,λ_ e=>nomatch e⟩
 | ref p=>
  cases r;rcases ty with⟨rfl,xs,hq⟩| ⟨rfl,o,hk,hc,hd⟩| ⟨rfl,hk⟩| ⟨rfl,S,n,hk⟩
  ·obtain⟨its,_,pl,_⟩:=I.list hq;refine⟨pl.isList.typeIs,λa e=> ?_⟩
   cases e;obtain⟨o,n,e,c,hd,_⟩:=pl;exact⟨o,e,hd⟩
  ·refine⟨⟨o,I.kIn p o hk,hc⟩,λa e=> ?_⟩
   cases e;exact⟨o,I.kIn _ o hk,hd⟩
  ·have z: ∃o,s.heap.get? p=some o/\o.ExactDict:=by
    rcases hk with⟨kvs,hk⟩| ⟨kvs,hk⟩
    ·obtain⟨_,_,_,_,o,_,_,e,ex,_⟩:=I.hok p _ hk;exact⟨o,e,ex⟩
    ·obtain⟨_,_,_,_,o,_,_,e,ex,_⟩:=I.hok p _ hk;exact⟨o,e,ex⟩
   obtain⟨o,e,ex⟩:=z;refine⟨⟨o,e,ex.1⟩,λa e2=> ?_⟩
   cases e2;exact⟨o,e,ex.2.1⟩
  ·obtain⟨o,_,_,_,e,ex,_⟩:=I.hok p _ hk;refine⟨⟨o,e,ex.1⟩,λa e2=> ?_⟩
   cases e2;exact⟨o,e,ex.2.1⟩
 | _=>exact False.elim ty
def tBM0 (K:Frag)(T:String)(r:V->List V->Hp->VK->Prop)(to:TE):TE:=λσ H Q=>to σ H λx H1=>tyV K T x H1/\r x [] H1 Q
def tBM (K:Frag)(T:String)(r:V->List V->Hp->VK->Prop)(to:TE)(t:TA):TE:=λσ H Q=>to σ H λx H1=>tyV K T x H1/\t σ H1 λxs H2=>r x xs H2 Q
variable {o e:Expr}{es:List Expr}{to:TE}{t:TA}{name:Str}{apos cpos:Pos}{T id:String}{r:V->List V->Hp->VK->Prop}
theorem pe_bm0 (pa:PlainAttrs T)(slot:Slot T name id)(hty:typeOf (.builtin id)=pure (.type "method_descriptor"))(hm:MtR X id r)(ho:PE X o to)
  (hbase:attributeBase o name X.env (eval o X.env)=eval o X.env:=by rfl) (hline:(apos.endLine==cpos.line)=true:=by rfl):PE X (.Call (.Attribute o name apos) [] [] cpos) (tBM0 X.K T r to):=by
 intro pins s σ H Q I h;refine wpAny_Call_method0_late hbase hline (thn (ho pins s σ H _ I h) λv s1 ⟨x,H1,I1,r1,ty,q1⟩=> ?_)
 obtain⟨h1,h2⟩:=cK2 I1 r1 ty;exact⟨T,id,pa,slot,hty,h1,h2,Calls.callWith_builtin rfl (PySem.evalArgs_none<|hm pins s1 σ H1 x [] v [] Q I1 r1 .nil q1)⟩
theorem cK3 (pa:PlainAttrs T)(slot:Slot T name id)(hty:typeOf (.builtin id)=pure (.type "method_descriptor"))(hm:MtR X id r)(ho:PE X o to)(ha:PA X (e::es) t)
  (hbase:attributeBase o name X.env (eval o X.env)=eval o X.env:=by rfl)
  (hfew:((backTo cpos<|starEach (e::es) X.env).all (λx=> !x.1)&&(backToKw cpos<|keywordEach [] X.env).all (λx=>x.1.isSome)
   &&decide ((e::es).length+([]:List Keyword).length+(if([]:List Keyword).isEmpty then 0 else 1)<30))=true:=by rfl)
  (hline:(apos.endLine==cpos.line)=true:=by rfl) (hs:starEach (e::es) X.env=(false,eval e X.env)::starEach es X.env:=by rfl) (hplain:(backTo cpos<|starEach es X.env).any (·.1)=false:=by rfl) :
  PE X (.Call (.Attribute o name apos) (e::es) [] cpos) (tBM X.K T r to t):=by
 intro pins s σ H Q I h;refine wpAny_Call_method_late hbase hfew hline rfl (thn (ho pins s σ H _ I h) λv s1 ⟨x,H1,I1,r1,ty,q1⟩=> ?_)
 obtain⟨h1,h2⟩:=cK2 I1 r1 ty;refine⟨T,id,pa,slot,hty,h1,h2,?_⟩;have hA:=ha cpos pins s1 σ H1 _ I1 q1;rw[hs]at hA⊢;refine Calls.callWith_builtin (by show(false||(backTo cpos<|starEach es X.env).any (·.1))=false;rw[hplain]<;>rfl) (aD9 ?_)
 exact thn hA λus s2 ⟨vs,H2,I2,r2,q2⟩=>hm pins s2 σ H2 x vs v us Q I2 r1 r2 q2
end
end L2
namespace L2
open PySem PySem.Spec PyProof.Rows
def MtM (X:Cx)(id:String)(r:V->List V->Hp->VK->Prop):Prop:=
 ∀(pins:List (Addr×Obj)) (s:Shared) (σ:St) (H:Hp) (x:V) (xs:List V) (v:Value) (us:List Value) (Q:VK),Inv X pins σ H s->RelV x v->Vals xs us->r x xs H Q->
  wpAny (model X.prog X.w) X.A (call (.builtin id) (v::us)) (EP X pins σ Q) X.xe s
theorem Vals.one {x:V}{us:List Value}(h:Vals [x] us): ∃u,us=[u]/\RelV x u:=by
 cases h with
 | cons r q=>cases q;exact⟨_,rfl,r⟩
theorem Vals.two {x y:V}{us:List Value}(h:Vals [x,y] us): ∃u v,us=[u,v]/\RelV x u/\RelV y v:=by
 cases h with
 | cons r q=>obtain⟨u,rfl,s⟩:=Vals.one q;exact⟨_,_,rfl,r,s⟩
theorem Vals.zero: ∀{us:List Value},Vals [] us->us=[]
 | _,.nil=>rfl
theorem Vals.dropLast {xs:List V}{us:List Value}(h:Vals xs us):Vals xs.dropLast us.dropLast:=by
 induction h with
 | nil=>exact .nil
 | cons r t ih=>
  cases t with
  | nil=>exact .nil
  | cons q t'=>exact .cons r ih
theorem Vals.rep {xs:List V}{us:List Value}(h:Vals xs us): ∀k:Nat,Vals (replicate k xs).flatten (replicate k us).flatten
 | 0=> .nil
 | k+1=>by
  rw[jI,jI,mQ,mQ];exact Vals.append h (Vals.rep h k)
theorem bZ2 {α:Type}(l:List α):l.eraseIdx (l.length-1)=l.dropLast:=by
 induction l with
 | nil=>rfl
 | cons a r ih=>
  cases r with
  | nil=>rfl
  | cons b r=>
   have e:(a::b::r).length-1=((b::r).length-1)+1:=by
    have h1:(a::b::r).length=r.length+2:=rfl;have h2:(b::r).length=r.length+1:=rfl
    lia
   rw[e,List.eraseIdx_cons_succ,ih]
   all_goals rfl
theorem foldl_rep (its:List Value): ∀(k:Nat) (acc:List Value),
  foldl (λx1 x2=>x1++x2) acc.toArray (replicate k its.toArray)=(acc++(replicate k its).flatten).toArray
 | 0,acc=>ae
 | k+1,acc=>by
  have e:acc.toArray++its.toArray=(acc++its).toArray:=ae
  have e2:(acc++its)++(replicate k its).flatten=acc++(replicate (k+1) its).flatten:=by
   rw[jI,mQ,List.append_assoc]
  rw[<-e2,<-foldl_rep its k (acc++its),<-e,jI,List.foldl_cons]
section
variable {X:Cx}{pins:List (Addr×Obj)}{σ:St}{H:Hp}{s:Shared}{l b:Addr}{xs ys zs:List V}
theorem Inv.lset {its its':List Value}{n:Nat}{f:Array Value->Array Value}{t':Nat}(I:Inv X pins σ H s)(hH:H l=some (.lst xs))
  (e:s.heap.get? l=some {cls:= .type "list",data:= .seq its.toArray n}) (hf:f its.toArray=its'.toArray) (hv:Vals ys its') (hz:ys.length<=sizeLine) :
  Inv X pins σ (upd H l<|.lst ys) {s with heap:=s.heap.update l (Obj.mapSeq f),toks:=t'}:=by
 have q:=PySem.IsL.update e f;rw[hf]at q;refine I.write (x:=l) (e:=l) (by rw[hH];exact trivial) (.inl rfl) (λb' u hb hu=>(aD5 s.heap (Obj.mapSeq f)<|Ne.symm hb).trans hu) ⟨_,q⟩ ?_
 exact⟨hz,its',_,hv,q⟩
theorem Inv.lnew {its:List Value}{t':Nat}(I:Inv X pins σ H s)(hv:Vals ys its)(hz:ys.length<=sizeLine) :
  Inv X pins σ (upd H s.heap.objs.size<|.lst ys) {s with heap:=s.heap.push {cls:= .type "list",data:= .seq its.toArray},toks:=t'}:=
 I.laid (λ_ _ q=>aM _ q) (aB _) ⟨hz,its,0,hv,bN _ rfl⟩
theorem Inv.fresh (I:Inv X pins σ H s):H s.heap.objs.size=none:=I.hok.fresh (aB _)
theorem Inv.lstM (I:Inv X pins σ H s)(hH:H l=some (.lst xs)):xs.length<=sizeLine/\ ∃(its:List Value) (n:Nat),Vals xs its/\xs.length=its.length/\s.heap.get? l=some {cls:= .type "list",data:= .seq its.toArray n}:=by
 obtain⟨z,its,n,r,e⟩:=I.hok l _ hH;exact⟨z,its,n,r,r.length,e⟩
theorem cK4 {n:Nat}(h:n<=sizeLine):Builtin.List.listTooLong n=false:=by
 unfold Builtin.List.listTooLong;exact cL ad
end
section
variable {X:Cx}
noncomputable def cZ5:V->List V->Hp->VK->Prop:=λx vs H Q=> ∃l xs y,x= .ref l/\vs=[y]/\H l=some (.lst xs)/\xs.length<sizeLine/\Q .non (upd H l<|.lst<|xs++[y])
theorem a82:MtM X "list.append" cZ5:=by
 intro pins s σ H x vs v us Q I rx rv h;obtain⟨l,xs,y,rfl,rfl,hH,hz,q⟩:=h;cases rx;obtain⟨u,rfl,ru⟩:=rv.one;obtain⟨z,its,n,r,hl,e⟩:=I.lstM hH;refine jR F.slot_list_append ⟨_,e,rfl⟩ F.entry_list_append (F.args_list_append_2 _ _) (PySem.list_append l its.toArray n u (by rw[aY];lia)) ⟨e,?_⟩
 refine⟨.non,_,I.lset (its':=its++[u]) hH e ae (r.append<|.cons ru .nil) ?_,rfl,q⟩
 rw[cU,xC]
 lia
noncomputable def rPop:V->List V->Hp->VK->Prop:=λx vs H Q=> ∃l xs y,x= .ref l/\vs=[]/\H l=some (.lst xs)/\xs[xs.length-1]? =some y/\Q y (upd H l<|.lst xs.dropLast)
theorem mt_pop:MtM X "list.pop" rPop:=by
 intro pins s σ H x vs v us Q I rx rv h;obtain⟨l,xs,y,rfl,rfl,hH,hy,q⟩:=h;cases rx;have hus:=rv.zero;subst hus;obtain⟨z,its,n,r,hl,e⟩:=I.lstM hH;obtain⟨u,hu,ru⟩:=r.get hy;have hy':its.toArray[its.toArray.size-1]? =some u:=by
  show its.toArray[its.length-1]? =some u
  rw[<-Array.getElem?_toList,<-hl];exact hu
 refine jR F.slot_list_pop ⟨_,e,rfl⟩ F.entry_list_pop (F.args_list_pop_1 _) (MeetsSeq.list_pop_last l its.toArray n u hy' (by rw[aY];omega)) ⟨e,?_⟩
 refine⟨y,_,I.lset (its':=its.dropLast) hH e ?_ r.dropLast ?_,ru,q⟩
 ·show its.toArray.eraseIdxIfInBounds (its.toArray.size-1)=its.dropLast.toArray
  rw[aY,List.eraseIdxIfInBounds_toArray,bZ2]
 ·rw[List.length_dropLast];omega
noncomputable def rCat:R2:=λx y H Q=> ∃l b xs zs,x= .ref l/\y= .ref b/\H l=some (.lst xs)/\H b=some (.lst zs)/\xs.length+zs.length<=sizeLine/\ ∀p,H p=none->Q (.ref p) (upd H p<|.lst<|xs++zs)
theorem op_cat:OpR X (binaryOp .Add) rCat:=by
 intro pins s σ H x y v u Q I rx ry h;obtain⟨l,b,xs,zs,rfl,rfl,hH,hB,hz,q⟩:=h;cases rx;cases ry;obtain⟨z,its,n,r,hl,e⟩:=I.lstM hH;obtain⟨z2,its2,n2,r2,hl2,e2⟩:=I.lstM hB;refine PySem.P.add_list e e2 ?_ (by rw[aY,aY];omega)
 have ea:its.toArray++its2.toArray=(its++its2).toArray:=ae
 rw[ea];exact⟨.ref _,_,I.lnew (t':=s.toks) (r.append r2) (by rw[cU];omega),rfl,q _ I.fresh⟩
noncomputable def rRep:R2:=λx y H Q=> ∃l k xs,x= .ref l/\y= .int k/\H l=some (.lst xs)/\ -(2^63)<=k/\k<2^63/\xs.length*k.toNat<=sizeLine/\
 ∀p,H p=none->Q (.ref p) (upd H p<|.lst (replicate k.toNat xs).flatten)
theorem bG2 {α:Type}(xs:List α)(k:Nat):(replicate k xs).flatten.length=k*xs.length:=by
 induction k with
 | zero=>simp
 | succ k ih=>rw[jI,mQ,cU,ih,succ_mul,add_comm]
theorem op_rep:OpR X (binaryOp .Mult) rRep:=by
 intro pins s σ H x y v u Q I rx ry h;obtain⟨l,k,xs,rfl,rfl,hH,h1,h2,hz,q⟩:=h;cases rx;obtain⟨t,rfl⟩:=ry;obtain⟨z,its,n,r,hl,e⟩:=I.lstM hH;have hlen:its.toArray.size*k.toNat<=sizeLine:=by rw[aY,<-hl];exact hz
 have hcap: ¬its.toArray.size*k.toNat>(2^63-1)/8:=by
  have:(sizeLine:Nat)<=(2^63-1)/8:=ac
  lia
 have hfit: ¬(!Builtin.List.listFitsIndex k)=true:=by
  rw[fitsIndex_both h1 h2];exact bC
 have hlong: ¬Builtin.List.listTooLong (its.toArray.size*k.toNat)=true:=by
  rw[cK4 hlen];exact bC
 have hnew:foldl (λx1 x2=>x1++x2) #[] (replicate (if its.toArray.isEmpty=true then 0 else k.toNat) its.toArray)=(replicate k.toNat its).flatten.toArray:=by
  have f0: ∀m:Nat,foldl (λx1 x2=>x1++x2) #[] (replicate m its.toArray)=(replicate m its).flatten.toArray:=λm=>by
   have:=foldl_rep its m [];rw[xR]at this;exact this
  rw[f0];cases its with
  | nil=>simp
  | cons a r'=>rw[a6 ae]
 refine wpAny_binaryOp_repeat_ref (T:="list") (U:="int") ac ⟨_,e,rfl⟩ (λs'=>pI s' k t) noFill_list_mul F.fills_int_mul F.slot_int_rmul repeat_list F.slot_int_index.lookup
  (jR F.slot_int_rmul (pI s k t) F.entry_int_rmul (F.args_int_rmul_2 _ _) (int___rmul___int_list k t l its.toArray n)
   ⟨e,rfl,⟨_,e,rfl⟩,jR F.slot_list_mul ⟨_,e,rfl⟩ F.entry_list_mul (F.args_list_mul_2 _ _) (AutoListH.list___mul___list_int_3 l its.toArray n k t hfit hcap hlong) ⟨e,?_⟩⟩)
 rw[hnew];exact⟨.ref _,_,I.lnew (t':=s.toks) (r.rep k.toNat) (by rw[bG2,mul_comm];exact hz),rfl,q _ I.fresh⟩
end
section
variable {prog:Program}{w:World}{A:Around}{E:Value->Shared->Prop}{s:Shared}
set_option maxRecDepth 100000 in
end
end L2
namespace Att
open PySem PySem.W PySem.Calls PyProof.Rows
theorem aU2 {P:Params}{h:Heap}: ∀(ns:List Int) (vs:List Value),WellAll P h vs (ns.map WData.int)->IntsAre vs ns:=by
 intro ns
 induction ns with
 | nil=>
  intro vs w;rw[jO]at w;cases w;exact .nil
 | cons n ns ih=>
  intro vs w;rw[bW]at w;cases w with
  | cons a b=>
   cases a;exact .cons _ _ (ih _ b)
theorem cC7 {l:OpenLaw}{n:Nat}(hn:l.most=some n){P:Params}{h:Heap}{args:List WData}{vals:List Value}
  (hpre:l.row.toRowW.claim.pre args=true) (hwl:WellAll P h vals args) :
  ∃a vs ns,vals=[Value.ref a]/\args=[WData.list<|ns.map WData.int]/\h.get? a=some {cls:= .type "list",data:= .seq vs.toArray}/\IntsAre vs ns/\ns.length<=n:=by
 have hsh:WShape.hasAll [] args [.list .int]=true:=(pre_splitW hpre).1;have hc:l.pre.holds [] {args:=args}=true:=(pre_splitW hpre).2;obtain⟨d,r,rfl,h1,h2⟩:=hasAllW_cons hsh;obtain rfl:=hasAllW_nil h2;obtain⟨xs,rfl,h3⟩:=hasW_list h1;obtain⟨ns,rfl⟩:=items_int h3;have hlen:ns.length<=n:=by
  unfold OpenLaw.pre at hc;have h4:(WTm.not<|.lt (.lit<|.int (n:Int))<|.len<|.arg 0).holds [] {args:=[.list<|ns.map .int]}=true:=by
   have h4:=(holds_andW hc).1;rw[hn]at h4;exact h4
  have h5:=condW_of h4 (w_not<|w_lt w_lit<|w_len_list<|w_arg rfl);rw[aH]at h5;refine Nat.le_of_not_lt λq=> ?_
  have q':(n:Int)< ((ns.length:Nat):Int):=aa
  first
   | (rw[dP q']at h5;exact absurd h5 ac)
   | (simp at h5;omega)
 cases hwl with
 | cons w1 w2=>
  cases w2;cases w1 with
  | list ho hall=>exact⟨_,_,ns,rfl,rfl,ho,aU2 ns _ hall,hlen⟩
theorem cC8 (l:OpenLaw)(args:List WData):l.row.toRowW.claim.post args (.bool true) args=true:=
 postW_of (r:=l.row.toRowW) (X:=(true==true))
  (show WShape.has [] (.bool true) .bool=true by first|rfl|decide|simp[WShape.has,WShape.arms,WShape.armsAll])
  (show(WTm.eq .res<|.lit<|.bool true).value [] {args:=args,res:=some (.bool true),after:=args}=some (.bool<|true==true)from w_eq_bool (w_res rfl) w_lit) rfl
theorem attach_call {l:OpenLaw}{n:Nat}{q:Program}{loose:List Str}{XP:(Str->Option Value)->Heap->Prop}{YP:World->Heap->Prop}{d:DefRec}
  (hn:l.most=some n) (hdf:d.params.defaults=[])
  (call: ∀(w:World) (s₀ s₁:Shared) (mg mb:Str->Option Value) (fa:Addr) (o:Obj) (pm cd doc:Value) (a:Addr) (vs:List Value) (ns:List Int),
   Ground q loose [] XP w s₀ mg mb s₁.heap->YP w s₁.heap->
   s₁.heap.get? fa=some o->o.data= .func (docDef d.name d.params d.body d.scope pm cd doc)->s₁.heap.CodeRec cd d.name->mg d.name=some (.ref fa)->
   s₁.heap.get? a=some {cls:= .type "list",data:= .seq vs.toArray}->IntsAre vs ns->ns.length<=n->s₁.gens= #[]->
   codeAny (model l.prog w) callerA (.call (.ref fa) ⟨[.ref a],[]⟩) (λr s'=>r= .ok (.ret<|.bool true)/\OldK s₁.heap s'.heap/\s'.os=s₁.os/\AllBare s'.gens) s₁) :
  WalkO q loose XP YP l.row.toRowW d [] (λf vs=>PySem.call f vs):=by
 intro w s₀ s₁ mg mb G Y fa o pm cd doc dV kV ho hd hcd hD hmg hg args vals as hpre hlay hrd hwl hlo;obtain rfl:dV= .none:=Dflts.none hD hdf;obtain rfl:kV= .none:=Dflts.noKw hD;obtain⟨a,vs,ns,rfl,rfl,hobj,hints,hlen⟩:=cC7 hn hpre hwl;refine enter_call (t6 (call w s₀ s₁ mg mb fa o pm cd doc a vs ns G Y ho (fd_plain hd) hcd hmg hobj hints hlen hg) λr s' hq=> ?_)
 obtain⟨rfl,h2,h3,h4⟩:=hq;exact⟨.inl ⟨.bool true,.bool true,[],rfl,λ_=>rfl,.bool true,cC8 l _,λ_=>⟨List.Pairwise.nil,λ_ hm=>(nomatch hm)⟩⟩,h2,h3,h4⟩
end Att
namespace L2
open PySem PySem.Spec PyProof.Rows
theorem bB8: ∀{vs:List Value} {ns:List Int},IntsAre vs ns->Vals (ns.map V.int) vs
 | _,_,.nil=> .nil
 | _,_,.cons n t h=> .cons ⟨t,rfl⟩ (bB8 h)
def Only (H:Hp):Prop:= ∀b,H b=none\/ ∃o xs,H b=some (.frz o<|.lst xs)
theorem cK5 {P:Program}{w:World}{K:Frag}{mg mb:Str->Option Value}{CX:CXT}{k:Nat}{fa a:Addr}{fd:FuncData}{x:Str}{sp:Sp}{s₁:Shared}{vs:List Value}{ns:List Int}
  (KX:K.In s₁.heap) (hns:s₁.heap.Ns mainGlobals mg) (hb:s₁.heap.Ns builtinsNs mb) (hbb: ∀x:Str,x≠"__name__"->mb x=bootBuiltins x) (hlim:s₁.heap.NoLimit) (hg:s₁.gens= #[])
  (ha:s₁.heap.get? a=some {cls:= .type "list",data:= .seq vs.toArray}) (hi:IntsAre vs ns) (hl:ns.length<=sizeLine) (hr:gM k callerA)
  (F: ∀base:Heap,K.In base->base.Ns mainGlobals mg->qU P w K mg base CX k fa fd [x] sp) (hbind: ∀(s:Shared) (u:Value),BindsTo s fd ⟨[u],[]⟩ [(x,u)])
  (hsp: ∀H:Hp,Only H->SqL K H a (ns.map V.int)->sp [.ref a] H (λv _=>v= .bl true) λ_ _ _=>False)
  (hCX: ∀H e s',CX [] H s₁ (λ_ _ _=>False) e s'->False) :
  codeAny (model P w) callerA (.call (.ref fa) ⟨[.ref a],[]⟩) (λr s'=>r= .ok (.ret<|.bool true)/\OldK s₁.heap s'.heap/\s'.os=s₁.os/\AllBare s'.gens) s₁:=by
 have rv:=bB8 hi;have lenV:=hi.length;have core: ∀H:Hp,Only H->SqL K H a (ns.map V.int)->HOk P w H s₁.heap->(∀b,H b≠none->b=a)->(H a≠none->K.lookup a=none)->
   codeAny (model P w) callerA (.call (.ref fa) ⟨[.ref a],[]⟩) (λr s'=>r= .ok (.ret<|.bool true)/\OldK s₁.heap s'.heap/\s'.os=s₁.os/\AllBare s'.gens) s₁:=by
  intro H hO hS hok hA hK;have base_of: ∀{b:Addr} {o:Obj},s₁.heap.get? b=some o->H b=none->(bF3 s₁.heap H).get? b=some o:=λe n=>cH7 e n
  have noA: ∀{b:Addr} {o:Obj} {es:Array DictEntry} {ep:Nat},s₁.heap.get? b=some o->o.data= .dict es ep->H b=none:=λ{b o es ep} e d=>by
   cases q:H b with
   | none=>rfl
   | some u=>
    have e':b=a:=hA b (by rw[q];simp)
    subst e';rw[ha]at e;cases e;have d':Data.seq vs.toArray _=Data.dict es ep:=d;cases d'
  have nsK: ∀{b:Addr} {m:Str->Option Value},s₁.heap.Ns b m->(bF3 s₁.heap H).Ns b m:=λ{b m} ⟨o,es,ep,e,d,r⟩=>⟨o,es,ep,base_of e<|noA e d,d,r⟩
  have hKb:K.In (bF3 s₁.heap H):=λb o e=>base_of (KX b o e) (by
   cases q:H b with
   | none=>rfl
   | some u=>
    have e':b=a:=hA b (by rw[q];simp)
    subst e';rw[hK (by rw[q];simp)]at e;cases e)
  have hM:Mod K mg (bF3 s₁.heap H):=⟨hKb,nsK hns,⟨mb,nsK hb,hbb⟩,let ⟨mc,h1,h2⟩:=hlim;⟨mc,nsK h1,h2⟩⟩;have e0:bY8 P w K mg (bF3 s₁.heap H) callerA [] s₁ H:=⟨rfl,hM,λb o e=>cX1 e,le_of_eq<|cB7 _ _,trivial,λb hb=>absurd (show b∈([]:List Addr)from hb) ae,hok,.of_eq hg⟩
  refine t6 ((F _ hKb<|nsK hns).run callerA [] s₁ H ⟨[.ref a],[]⟩ [.ref a] [.ref a] _ _ hr e0 (hbind s₁<|.ref a) (.cons rfl .nil)<|hsp H hO hS) λr s' h=> ?_
  cases r with
  | error e=>exact(hCX H e s' h).elim
  | ok fl=>
   cases fl with
   | next=>exact False.elim h
   | brk=>exact False.elim h
   | cont=>exact False.elim h
   | ret u=>
    obtain⟨v,H',os,bare,un,hok',r',q⟩:=h;have q':v= .bl true:=q;subst q';obtain rfl:u=Value.bool true:=r';refine⟨rfl,OldK.of_keep λb o e=> ?_,os,bare⟩
    cases q:H b with
    | none=>exact un.keep b o e q (by intro z;exact absurd (show b∈([]:List Addr)from z) ae) ae
    | some u=>
     rcases hO b with z| ⟨ob,xs,z⟩
     ·rw[q]at z;cases z
     ·have z2:=un.frzs b ob _ z;obtain⟨e1,_⟩:=hok b _ z;obtain⟨e2,_⟩:=hok' b _ z2;rw[e]at e1;cases e1;exact e2
 cases hk:K.lookup a with
 | some o=>
  have e:=KX a o hk;rw[ha]at e;cases e;refine core (λ_=>none) (λ_=> .inl rfl) (.inr ⟨_,vs.toArray,_,hk,rfl,rfl,rfl,by rw[aY,lenV];exact hl,by simpa using rv⟩) (λb u z=>by have z':(none:Option HO)=some u:=z;cases z') (λb z=>absurd rfl z) λz=>absurd rfl z
 | none=>
  refine core (λb=>if b=a then some (.frz {cls:= .type "list",data:= .seq vs.toArray}<|.lst<|ns.map V.int)else none) (λb=> ?_) (.inl<|.inr ⟨{cls:= .type "list",data:= .seq vs.toArray},a7 rfl⟩) (λb u z=> ?_) (λb z=> ?_) λ_=>hk
  ·by_cases hb:b=a
   ·exact .inr ⟨_,_,a7 hb⟩
   ·exact .inl (a6 hb)
  ·by_cases hb:b=a
   ·have z':=(a7 hb).symm.trans z;cases z';subst hb;exact⟨ha,by rw[aH];exact hl,vs,_,rv,ha⟩
   ·have z':=(a6 hb).symm.trans z;cases z'
  ·by_cases hb:b=a
   ·exact hb
   ·exact absurd (a6 hb) z
end L2
namespace L2
open PySem PySem.Spec PyProof.Rows
theorem walk_of {l:PySem.W.OpenLaw}{n k:Nat}{q:Program}{loose:List Str}{XP:(Str->Option Value)->Heap->Prop}{YP:World->Heap->Prop}{d:DefRec}{K:Params->Frag}{CX:World->CXT}{sp:World->Sp}{x:Str}
  (hn:l.most=some n) (hn2:n<=sizeLine) (hdf:d.params.defaults=[]) (hr:gM k callerA)
  (hY: ∀(w:World) (h:Heap),YP w h->(K w.params).In h)
  (F: ∀(w:World) (mg:Str->Option Value) (fa:Addr) (h:Heap),(K w.params).In h->h.Ns mainGlobals mg->mg d.name=some (.ref fa)->
   ∃fd:FuncData,(∀(s:Shared) (u:Value),BindsTo s fd ⟨[u],[]⟩ [(x,u)])/\
    ∀base:Heap,(K w.params).In base->base.Ns mainGlobals mg->qU l.prog w (K w.params) mg base (CX w) k fa fd [x] (sp w))
  (hsp: ∀(w:World) (H:Hp) (a:Addr) (ns:List Int),ns.length<=n->Only H->SqL (K w.params) H a (ns.map V.int)->sp w [.ref a] H (λv _=>v= .bl true) λ_ _ _=>False)
  (hCX: ∀(w:World) (H:Hp) (s:Shared) (e:Value) (s':Shared),CX w [] H s (λ_ _ _=>False) e s'->False) :
  PySem.W.WalkO q loose XP YP l.row.toRowW d [] (λf vs=>PySem.call f vs):=by
 refine Att.attach_call hn hdf λw s₀ s₁ mg mb fa o pm cd doc a vs ns G Y ho hd hcd hmg hobj hints hlen hg=> ?_
 have KX:=hY w _ Y;obtain⟨fd,hb,hF⟩:=F w mg fa _ KX G.T.g hmg;exact cK5 KX G.T.g G.T.b G.T.builtins G.T.nolimit hg hobj hints (aT hlen hn2) hr hF hb (λH hO hS=>hsp w H a ns hlen hO hS) λH e s'=>hCX w H s₁ e s'
end L2
namespace L2
open PySem PySem.Spec PyProof.Rows
noncomputable def jS (s:Stmt):Arguments:=match s with
 | .FunctionDef _ a _ _ _ _ _ _ _ _=>a
 | _=>{posonlyargs:=[],args:=[],vararg:=none,kwonlyargs:=[],kw_defaults:=[],kwarg:=none,defaults:=[]}
noncomputable def dJ (s:Stmt):List Stmt:=match s with
 | .FunctionDef _ _ b _ _ _ _ _ _ _=>b
 | _=>[]
noncomputable def aD (s:Stmt):Scope:=match s with
 | .FunctionDef _ _ _ _ _ _ sc _ _ _=>sc
 | _=>{kind:= .function,names:=[],isGenerator:=false,isCoroutine:=false}
abbrev CX0:CXT:=λ_ _ _ _ _ _=>False
abbrev E0:XK:=λ_ _ _=>False
structure Fun (K:Frag)(x qual:Str)(st:Stmt)(f:Addr)(fd:FuncData):Prop where
 ex: ∃(oc:Value) (od:Option Addr) (kV doc pm:Value) (an:Option Addr) (cdv ct:Value) (osl:Array (Option Value)),
  fd=fnOf x qual (jS st) (dJ st) (aD st) .none kV doc pm an cdv ct/\K.lookup f=some ⟨oc,od,.func fd,osl⟩/\codeIn K cdv qual=true
 kp:keepIn K (.ref f)=true
section
variable {P:Program}{w:World}{K:Frag}{mg:Str->Option Value}{base:Heap}
theorem Fun.ok {x qual:Str}{st:Stmt}{f:Addr}{fd:FuncData}{N ps:List Str}{k:Nat}{sp:Sp}(F:Fun K x qual st f fd)(S:aZ N ps (aD st))(len: ∀vs H Q E,sp vs H Q E->vs.length=ps.length)
  (hbody: ∀(cdv:Value) (A:Around) (outer:List Env) (s:Shared) (H:Hp) (vs:List V) (Q:VK) (E:XK),gM k (A.deeper<|envOfC qual (aD st) s.heap.objs.size f cdv)->sp vs H Q E->
   ∃t,PSs (qV CX0 P w K mg base N qual (aD st) f cdv A outer s H E).nox (dJ st) t/\t {nx:=λ_ H'=>Q .non H',rt:=Q} (start N vs) H):qU P w K mg base CX0 (k+1) f fd ps sp:=by
 obtain⟨oc,od,kV,doc,pm,an,cdv,ct,osl,rfl,lk,hcd⟩:=F.ex;refine cJ7 lk hcd S len λA outer s H vs Q E hr hsp=> ?_
 obtain⟨t,h,q⟩:=hbody cdv A outer s H vs Q E hr hsp;exact⟨t,h.nox,q⟩
theorem Fun.binds {x qual:Str}{st:Stmt}{f:Addr}{fd:FuncData}{ps:List Str}(F:Fun K x qual st f fd)
  (h: ∀(kV doc pm:Value) (an:Option Addr) (cdv ct:Value) (us:List Value),us.length=ps.length->bindArgs (fnOf x qual (jS st) (dJ st) (aD st) .none kV doc pm an cdv ct) ⟨us,[]⟩=pure (ps.zip us)):Binds K fd ps []:=by
 obtain⟨oc,od,kV,doc,pm,an,cdv,ct,osl,rfl,lk,hcd⟩:=F.ex;exact .all (h kV doc pm an cdv ct)
theorem aZ1 {x qual:Str}{st:Stmt}{f:Addr}{oc:Value}{od an:Option Addr}{osl:Array (Option Value)}{kV doc pm cdv ct:Value}(l:K.lookup f=some ⟨oc,od,.func<|fnOf x qual (jS st) (dJ st) (aD st) .none kV doc pm an cdv ct,osl⟩)
  (c:codeIn K cdv qual=true) (k:keepIn K (.ref f)=true):Fun K x qual st f (fnOf x qual (jS st) (dJ st) (aD st) .none kV doc pm an cdv ct):=⟨⟨oc,od,kV,doc,pm,an,cdv,ct,osl,rfl,l,c⟩,k⟩
end
section
variable {X:Cx}
theorem pv (i:Nat){x:Str}{pos:Pos}(hN:X.N[i]? =some x:=by rfl)(hv:Vis X.env.scope x:=by first|exact Or.inl rfl|exact Or.inr (Or.inl rfl)|exact Or.inr (Or.inr rfl))(hd:(x==("__debug__":Str))=false:=by decide)
  (hcd:(x==("__classdict__":Str))=false:=by decide):PE X (.Name x pos) (a08 i):=pe_var hN hv hd hcd
end
def gP (H H':Hp):Prop:= ∀b o,H b=some o->H' b=some o
theorem gP.refl (H:Hp):gP H H:=λ_ _ h=>h
theorem gP.trans {H H1 H2:Hp}(a:gP H H1)(b:gP H1 H2):gP H H2:=λc o h=>b c o (a c o h)
theorem gP.free {H H':Hp}(e:gP H H'){l:Addr}(h:H' l=Option.none):H l=Option.none:=by
 cases q:H l with
 | none=>rfl
 | some o=>
  rw[e l o q]at h;cases h
theorem gP.seq {K:Frag}{H H':Hp}{a:Addr}{xs:List V}(e:gP H H')(h:SqL K H a xs):SqL K H' a xs:=by
 rcases h with(h| ⟨o,h⟩)|h
 ·exact .inl (.inl<|e _ _ h)
 ·exact .inl (.inr ⟨o,e _ _ h⟩)
 ·exact .inr h
end L2
section
namespace M
open PySem PySem.Spec PyProof.Rows L2
inductive D where
 | non|bl (b:Bool)|int (i:Int)|str (x:Str)|ty (n:String)
 | tup (l:List D)|lst (l:List D)|rol (l:List D)
 | obj (C:Addr) (ks:List Str) (l:List D)
 | adr (a:Addr)
 | xob (a d:Addr) (ks:List Str) (l:List D)
abbrev AS:=Addr->Prop
def KT (K:Frag)(a:Addr)(vs:List V):Prop:=
 ∃(o:Obj) (its:Array Value) (n:Nat),K.lookup a=some o/\o.cls= .type "tuple"/\o.data= .seq its n/\its.size<=sizeLine/\Vals vs its.toList
def KL (K:Frag)(a:Addr)(vs:List V):Prop:=
 ∃(o:Obj) (its:Array Value) (n:Nat),K.lookup a=some o/\o.cls= .type "list"/\o.dict=none/\o.data= .seq its n/\its.size<=sizeLine/\Vals vs its.toList
def OkC (K:Frag)(C:Addr)(ks:List Str):Prop:=Cls K C/\ ∀f∈ks,a15 K C f
mutual
def Rep (K:Frag)(A:AS)(H:Hp):D->V->Prop
 | .non,v=>v= .non
 | .bl b,v=>v= .bl b
 | .int i,v=>v= .int i
 | .str x,v=>v= .str x
 | .ty n,v=>v= .ty n
 | .tup l,v=> ∃a vs,v= .ref a/\((¬A a/\Rd H a (.tup vs))\/KT K a vs)/\bG K A H l vs
 | .lst l,v=> ∃a vs,v= .ref a/\ ¬A a/\H a=some (.lst vs)/\bG K A H l vs
 | .rol l,v=> ∃a vs,v= .ref a/\((¬A a/\Rd H a (.lst vs))\/KL K a vs)/\bG K A H l vs
 | .obj C ks l,v=> ∃a dx vs,v= .ref a/\ ¬A a/\H a=some (.ins C dx<|ks.zip vs)/\ks.length=vs.length/\bG K A H l vs/\OkC K C ks
 | .adr a,v=>v= .ref a
 | .xob a d ks l,v=> ∃vs,v= .ref a/\ ¬A d/\H d=some (.xd<|ks.zip vs)/\ks.length=vs.length/\bG K A H l vs
def bG (K:Frag)(A:AS)(H:Hp):List D->List V->Prop
 | [],vs=>vs=[]
 | d::ds,vs=> ∃v vr,vs=v::vr/\Rep K A H d v/\bG K A H ds vr
end
section
variable {K:Frag}{A A':AS}{H H':Hp}
def lY (A:AS)(H:Hp)(A':AS)(H':Hp):Prop:= ∀b o,¬A b->H b=some o-> ¬A' b/\H' b=some o
theorem Rd.pres (p:lY A H A' H'){a:Addr}{u:HO}(n: ¬A a)(r:Rd H a u): ¬A' a/\Rd H' a u:=by
 rcases r with r| ⟨o,r⟩
 ·exact⟨(p a _ n r).1,.inl (p a _ n r).2⟩
 ·exact⟨(p a _ n r).1,.inr ⟨o,(p a _ n r).2⟩⟩
mutual
theorem Rep.mono (p:lY A H A' H'): ∀{d:D} {v:V},Rep K A H d v->Rep K A' H' d v
 | .non,_,h=>h
 | .bl _,_,h=>h
 | .int _,_,h=>h
 | .str _,_,h=>h
 | .ty _,_,h=>h
 | .tup l,v,h=>by
  simp only[Rep]at h⊢;obtain⟨a,vs,e,c,r⟩:=h;refine⟨a,vs,e,?_,bG.mono p r⟩;rcases c with⟨n,c⟩|c
  ·exact .inl (Rd.pres p n c)
  ·exact .inr c
 | .lst l,v,h=>by
  simp only[Rep]at h⊢;obtain⟨a,vs,e,n,c,r⟩:=h;exact⟨a,vs,e,(p a _ n c).1,(p a _ n c).2,bG.mono p r⟩
 | .rol l,v,h=>by
  simp only[Rep]at h⊢;obtain⟨a,vs,e,c,r⟩:=h;refine⟨a,vs,e,?_,bG.mono p r⟩;rcases c with⟨n,c⟩|c
  ·exact .inl (Rd.pres p n c)
  ·exact .inr c
 | .obj C ks l,v,h=>by
  simp only[Rep]at h⊢;obtain⟨a,dx,vs,e,n,c,hl,r,ok⟩:=h;exact⟨a,dx,vs,e,(p a _ n c).1,(p a _ n c).2,hl,bG.mono p r,ok⟩
 | .adr _,_,h=>h
 | .xob a d ks l,v,h=>by
  simp only[Rep]at h⊢;obtain⟨vs,e,n,c,hl,r⟩:=h;exact⟨vs,e,(p d _ n c).1,(p d _ n c).2,hl,bG.mono p r⟩
theorem bG.mono (p:lY A H A' H'): ∀{l:List D} {vs:List V},bG K A H l vs->bG K A' H' l vs
 | [],_,h=>by simp only[bG]at h ⊢; exact h
 | d::ds,vs,h=>by
  simp only[bG]at h⊢;obtain⟨v,vr,e,r,rs⟩:=h;exact⟨v,vr,e,Rep.mono p r,bG.mono p rs⟩
end
theorem bG.length: ∀{l:List D} {vs:List V},bG K A H l vs->l.length=vs.length
 | [],_,h=>by simp only[bG]at h;subst h;rfl
 | d::ds,vs,h=>by
  simp only[bG]at h;obtain⟨v,vr,rfl,_,rs⟩:=h;simp only[gJ,bG.length rs]
theorem bG.nil:bG K A H [] []:=by simp only[bG]
theorem bG.cons {d:D}{v:V}{l:List D}{vs:List V}(r:Rep K A H d v)(rs:bG K A H l vs):bG K A H (d::l) (v::vs):=by
 simp only[bG];exact⟨v,vs,rfl,r,rs⟩
theorem bG.uncons {d:D}{l:List D}{vs:List V}(h:bG K A H (d::l) vs): ∃v vr,vs=v::vr/\Rep K A H d v/\bG K A H l vr:=by
 simpa only[bG]using h
theorem bG.unnil {vs:List V}(h:bG K A H [] vs):vs=[]:=by simpa only[bG]using h
theorem bG.append: ∀{l m:List D} {vs ws:List V},bG K A H l vs->bG K A H m ws->bG K A H (l++m) (vs++ws)
 | [],_,_,_,h,g=>by rw[h.unnil];exact g
 | d::l,m,vs,ws,h,g=>by
  obtain⟨v,vr,rfl,r,rs⟩:=h.uncons;exact .cons r (bG.append rs g)
theorem bG.get: ∀{l:List D} {vs:List V} {i:Nat} {d:D},bG K A H l vs->l[i]? =some d-> ∃v,vs[i]? =some v/\Rep K A H d v
 | [],_,_,_,_,e=>by simp at e
 | d::l,vs,0,d',h,e=>by
  obtain⟨v,vr,rfl,r,rs⟩:=h.uncons;simp at e;subst e;exact⟨v,ae,r⟩
 | d::l,vs,i+1,d',h,e=>by
  obtain⟨v,vr,rfl,r,rs⟩:=h.uncons;obtain⟨w,h1,h2⟩:=bG.get (i:=i) rs (by simpa using e)
  exact⟨w,by simpa using h1,h2⟩
theorem bG.set: ∀{l:List D} {vs:List V} {d:D} {v:V} (i:Nat),bG K A H l vs->Rep K A H d v->bG K A H (l.set i d) (vs.set i v)
 | [],_,_,_,_,h,_=>by rw[h.unnil];exact .nil
 | d'::l,vs,d,v,0,h,g=>by
  obtain⟨w,vr,rfl,r,rs⟩:=h.uncons;exact .cons g rs
 | d'::l,vs,d,v,i+1,h,g=>by
  obtain⟨w,vr,rfl,r,rs⟩:=h.uncons;exact .cons r (bG.set i rs g)
theorem bG.drop: ∀{l:List D} {vs:List V} (n:Nat),bG K A H l vs->bG K A H (l.drop n) (vs.drop n)
 | _,_,0,h=>h
 | [],_,n+1,h=>by rw[h.unnil];exact .nil
 | d::l,vs,n+1,h=>by
  obtain⟨v,vr,rfl,r,rs⟩:=h.uncons;exact bG.drop n rs
theorem bG.take: ∀{l:List D} {vs:List V} (n:Nat),bG K A H l vs->bG K A H (l.take n) (vs.take n)
 | _,_,0,h=>by simp only[List.take_zero];exact .nil
 | [],_,n+1,h=>by rw[h.unnil];exact .nil
 | d::l,vs,n+1,h=>by
  obtain⟨v,vr,rfl,r,rs⟩:=h.uncons;exact .cons r (bG.take n rs)
theorem bG.rep {l:List D}{vs:List V}(h:bG K A H l vs): ∀k:Nat,bG K A H (replicate k l).flatten (replicate k vs).flatten
 | 0=> .nil
 | k+1=>by
  rw[jI,jI,mQ,mQ];exact .append h (h.rep k)
theorem lY.same (s:gP H H'):lY A H A H':=λb o n e=>⟨n,s b o e⟩
theorem lY.sub (s:gP H H')(h: ∀a,A' a->A a):lY A H A' H':=λb o n e=>⟨λq=>n (h b q),s b o e⟩
theorem lY.fresh {a:Addr}(s:gP H H')(n:H a=none):lY A H (λb=>A b\/b=a) H':=λb o nb e=>
 ⟨λq=>q.elim nb λz=>(by subst z;rw[n]at e;cases e),s b o e⟩
theorem lY.upd {a:Addr}{o:HO}(h:A a):lY A H A (upd H a o):=λb o' nb e=>⟨nb,by rw[bL λz=>nb (by subst z;exact h)];exact e⟩
end
inductive B where
 | pu (d:D)|ow (l:List D)|bo (l:List D)
noncomputable def B.d:B->D
 | .pu d=>d
 | .ow l=> .lst l
 | .bo l=> .lst l
abbrev Ev:=List (Option B)
def Own (ρ:Ev)(σ:L2.St):AS:=λa=> ∃(i:Nat) (l:List D),ρ[i]? =some (some<|.ow l)/\σ[i]? =some (some<|.ref a)
structure C0 where
 H0:Hp
 A0:AS
def Av (C:C0)(ρ:Ev)(σ:L2.St):AS:=λa=>C.A0 a\/Own ρ σ a
structure EOk (K:Frag)(C:C0)(ρ:Ev)(σ:L2.St)(H:Hp):Prop where
 len:ρ.length=σ.length
 pu: ∀(i:Nat) (d:D),ρ[i]? =some (some<|.pu d)-> ∃v,σ[i]? =some (some v)/\Rep K (Av C ρ σ) H d v
 ow: ∀(i:Nat) (l:List D),ρ[i]? =some (some<|.ow l)-> ∃a vs,σ[i]? =some (some<|.ref a)/\H a=some (.lst vs)/\C.H0 a=none/\bG K (Av C ρ σ) H l vs
 inj: ∀(i j:Nat) (l l':List D) (a:Addr),ρ[i]? =some (some<|.ow l)->ρ[j]? =some (some<|.ow l')->σ[i]? =some (some<|.ref a)->σ[j]? =some (some<|.ref a)->i=j
 bo: ∀(i:Nat) (l:List D),ρ[i]? =some (some<|.bo l)-> ∃a vs,σ[i]? =some (some<|.ref a)/\C.A0 a/\C.H0 a=some (.lst vs)/\bG K (Av C ρ σ) H l vs
 ext:gP C.H0 H
 a0: ∀a,C.A0 a->C.H0 a≠none
section
variable {K:Frag}{C:C0}{ρ ρ':Ev}{σ σ':L2.St}{H H':Hp}
theorem EOk.avSome (I:EOk K C ρ σ H){a:Addr}(h:Av C ρ σ a):H a≠none:=by
 rcases h with h| ⟨i,l,h1,h2⟩
 ·intro z;cases e:C.H0 a with
  | none=>exact I.a0 a h e
  | some o=>rw[I.ext a o e]at z;cases z
 ·obtain⟨b,vs,h3,h4,_⟩:=I.ow i l h1;rw[h2]at h3;cases h3;rw[h4];simp
theorem EOk.same (I:EOk K C ρ σ H)(s:gP H H'):EOk K C ρ σ H' where
 len:=I.len
 pu:=λi d h=>let ⟨v,h1,h2⟩:=I.pu i d h;⟨v,h1,h2.mono<|.same s⟩
 ow:=λi l h=>let ⟨a,vs,h1,h2,h3,h4⟩:=I.ow i l h;⟨a,vs,h1,s _ _ h2,h3,h4.mono<|.same s⟩
 inj:=I.inj
 bo:=λi l h=>let ⟨a,vs,h1,h2,h3,h4⟩:=I.bo i l h;⟨a,vs,h1,h2,h3,h4.mono<|.same s⟩
 ext:=I.ext.trans s
 a0:=I.a0
theorem get_set_ne {α:Type}{l:List α}{i j:Nat}{x:α}(h:i≠j):(l.set i x)[j]? =l[j]? :=by
 rw[aF4];simp[h]
theorem iX {α:Type}{l:List α}{i:Nat}{x:α}(h:i<l.length):(l.set i x)[i]? =some x:=by
 rw[aF4];simp[h]
theorem bB {α:Type}{l:List α}{i j:Nat}{x y:α}(h:(l.set i x)[j]? =some y):(i=j/\y=x/\i<l.length)\/(i≠j/\l[j]? =some y):=by
 by_cases e:i=j
 ·subst e;rw[aF4]at h
  by_cases hl:i<l.length
  ·simp[hl]at h;exact .inl ⟨rfl,h.symm,hl⟩
  ·simp[hl]at h
 ·exact .inr ⟨e,by rw[get_set_ne e]at h;exact h⟩
def tH (K:Frag)(A:AS)(H H':Hp):B->V->Prop
 | .pu d,v=>Rep K A H' d v
 | .ow l,v=> ∃a vs,v= .ref a/\H a=none/\H' a=some (.lst vs)/\bG K (λb=>A b\/b=a) H' l vs
 | .bo _,_=>False
theorem tH.rep {A:AS}(hA: ∀a,A a->H a≠none): ∀{b:B} {v:V},tH K A H H' b v->Rep K A H' b.d v
 | .pu d,v,h=>h
 | .ow l,v,h=>by
  obtain⟨a,vs,e,n,h1,r⟩:=h;show Rep K A H' (.lst l) v;simp only[Rep];exact⟨a,vs,e,λz=>hA a z n,h1,r.mono λb o nb q=>⟨λz=>nb (.inl z),q⟩⟩
 | .bo l,v,h=>h.elim
theorem EOk.store (I:EOk K C ρ σ H){i:Nat}{b:B}{v:V}{H1:Hp}(s:gP H H1)(r:tH K (Av C ρ σ) H H1 b v)(hi:i<σ.length):EOk K C (ρ.set i<|some b) (σ.set i<|some v) H1:=by
 have I1:=I.same s;have hir:i<ρ.length:=by rw[I.len];exact hi
 cases b with
 | pu d=>
  have sub: ∀a,Av C (ρ.set i<|some<|.pu d) (σ.set i<|some v) a->Av C ρ σ a:=by
   rintro a (z| ⟨j,l,h1,h2⟩)
   ·exact .inl z
   ·rcases bB h1 with⟨rfl,h3,_⟩| ⟨ne,h3⟩
    ·cases h3
    ·rw[get_set_ne ne]at h2;exact .inr ⟨j,l,h3,h2⟩
  refine⟨by rw[dU,dU];exact I.len,?_,?_,?_,?_,I1.ext,I.a0⟩
  rotate_right
  ·intro j l h;rcases bB h with⟨rfl,h3,_⟩| ⟨ne,h3⟩
   ·cases h3
   ·obtain⟨a,vs,h4,h5,h6,h7⟩:=I1.bo j l h3;exact⟨a,vs,by rw[get_set_ne ne];exact h4,h5,h6,h7.mono<|.sub (.refl _) sub⟩
  ·intro j d' h;rcases bB h with⟨rfl,h3,_⟩| ⟨ne,h3⟩
   ·cases h3;exact⟨v,iX hi,Rep.mono (.sub (.refl _) sub) r⟩
   ·obtain⟨v',h4,h5⟩:=I1.pu j d' h3;exact⟨v',by rw[get_set_ne ne];exact h4,h5.mono<|.sub (.refl _) sub⟩
  ·intro j l h;rcases bB h with⟨rfl,h3,_⟩| ⟨ne,h3⟩
   ·cases h3
   ·obtain⟨a,vs,h4,h5,h6,h7⟩:=I1.ow j l h3;exact⟨a,vs,by rw[get_set_ne ne];exact h4,h5,h6,h7.mono<|.sub (.refl _) sub⟩
  ·intro j k l l' a h1 h2 h3 h4;rcases bB h1 with⟨rfl,z,_⟩| ⟨ne,z⟩
   ·cases z
   ·rcases bB h2 with⟨rfl,z',_⟩| ⟨ne',z'⟩
    ·cases z'
    ·rw[get_set_ne ne]at h3;rw[get_set_ne ne']at h4;exact I.inj j k l l' a z z' h3 h4
 | ow l0=>
  obtain⟨a0,vs0,rfl,n0,e0,r0⟩:=r;have sub: ∀a,Av C (ρ.set i<|some<|.ow l0) (σ.set i<|some<|.ref a0) a->Av C ρ σ a\/a=a0:=by
   rintro a (z| ⟨j,l,h1,h2⟩)
   ·exact .inl (.inl z)
   ·rcases bB h1 with⟨rfl,h3,_⟩| ⟨ne,h3⟩
    ·rw[iX hi]at h2;cases h2;exact .inr rfl
    ·rw[get_set_ne ne]at h2;exact .inl (.inr ⟨j,l,h3,h2⟩)
  have P:lY (Av C ρ σ) H (Av C (ρ.set i<|some<|.ow l0)<|σ.set i<|some<|.ref a0) H1:=λb o nb e=>
   ⟨λq=>(sub b q).elim nb λz=>(by subst z;rw[n0]at e;cases e),s b o e⟩
  refine⟨by rw[dU,dU];exact I.len,?_,?_,?_,?_,I1.ext,I.a0⟩
  rotate_right
  ·intro j l h;rcases bB h with⟨rfl,h3,_⟩| ⟨ne,h3⟩
   ·cases h3
   ·obtain⟨a,vs,h4,h5,h6,h7⟩:=I.bo j l h3;exact⟨a,vs,by rw[get_set_ne ne];exact h4,h5,h6,h7.mono P⟩
  ·intro j d' h;rcases bB h with⟨rfl,h3,_⟩| ⟨ne,h3⟩
   ·cases h3
   ·obtain⟨v',h4,h5⟩:=I.pu j d' h3;exact⟨v',by rw[get_set_ne ne];exact h4,h5.mono P⟩
  ·intro j l h;rcases bB h with⟨rfl,h3,_⟩| ⟨ne,h3⟩
   ·cases h3;refine⟨a0,vs0,iX hi,e0,?_,r0.mono λb o nb q=>⟨λz=>nb (sub b z),q⟩⟩
    cases e:C.H0 a0 with
    | none=>rfl
    | some o=>rw[I.ext _ _ e]at n0;cases n0
   ·obtain⟨a,vs,h4,h5,h6,h7⟩:=I.ow j l h3;exact⟨a,vs,by rw[get_set_ne ne];exact h4,s _ _ h5,h6,h7.mono P⟩
  ·intro j k l l' a h1 h2 h3 h4;have old: ∀{j:Nat} {l:List D},ρ[j]? =some (some<|.ow l)->σ[j]? ≠some (some<|.ref a0):=λ{j l} h z=>by
    obtain⟨b,vs,h4,h5,_⟩:=I.ow j l h;rw[z]at h4;cases h4;rw[n0]at h5;cases h5
   rcases bB h1 with⟨rfl,z,_⟩| ⟨ne,z⟩
   ·rw[iX hi]at h3;cases h3;rcases bB h2 with⟨rfl,z',_⟩| ⟨ne',z'⟩
    ·rfl
    ·rw[get_set_ne ne']at h4;exact absurd h4 (old z')
   ·rw[get_set_ne ne]at h3;rcases bB h2 with⟨rfl,z',_⟩| ⟨ne',z'⟩
    ·rw[iX hi]at h4;cases h4;exact absurd h3 (old z)
    ·rw[get_set_ne ne']at h4;exact I.inj j k l l' a z z' h3 h4
 | bo l0=>exact r.elim
theorem EOk.freeze (I:EOk K C ρ σ H){i:Nat}{l:List D}(h:ρ[i]? =some (some<|.ow l)) :
  EOk K C (ρ.set i<|some<|.pu<|.lst l) σ H/\(∀a,Own (ρ.set i<|some<|.pu<|.lst l) σ a->Own ρ σ a)/\ ∃v,σ[i]? =some (some v)/\Rep K (Av C (ρ.set i<|some<|.pu<|.lst l) σ) H (.lst l) v:=by
 have sub: ∀a,Own (ρ.set i<|some<|.pu<|.lst l) σ a->Own ρ σ a:=by
  rintro a ⟨j,l',h1,h2⟩;rcases bB h1 with⟨rfl,h3,_⟩| ⟨ne,h3⟩
  ·cases h3
  ·exact⟨j,l',h3,h2⟩
 have subA: ∀a,Av C (ρ.set i<|some<|.pu<|.lst l) σ a->Av C ρ σ a:=λa z=>z.imp id (sub a)
 obtain⟨a,vs,h1,h2,h3,h4⟩:=I.ow i l h;have na: ¬Av C (ρ.set i<|some<|.pu<|.lst l) σ a:=by
  rintro(z| ⟨j,l',g1,g2⟩)
  ·exact I.a0 a z h3
  ·rcases bB g1 with⟨rfl,g3,_⟩| ⟨ne,g3⟩
   ·cases g3
   ·exact ne (I.inj i j l l' a h g3 h1 g2)
 have R:Rep K (Av C (ρ.set i<|some<|.pu<|.lst l) σ) H (.lst l) (.ref a):=by
  simp only[Rep];exact⟨a,vs,rfl,na,h2,h4.mono<|.sub (.refl _) subA⟩
 refine⟨⟨by rw[dU];exact I.len,?_,?_,?_,?_,I.ext,I.a0⟩,sub,.ref a,h1,R⟩
 rotate_right
 ·intro j l' g;rcases bB g with⟨rfl,g3,_⟩| ⟨ne,g3⟩
  ·cases g3
  ·obtain⟨a',vs',g4,g5,g6,g7⟩:=I.bo j l' g3;exact⟨a',vs',g4,g5,g6,g7.mono<|.sub (.refl _) subA⟩
 ·intro j d' g;rcases bB g with⟨rfl,g3,_⟩| ⟨ne,g3⟩
  ·cases g3;exact⟨_,h1,R⟩
  ·obtain⟨v',g4,g5⟩:=I.pu j d' g3;exact⟨v',g4,g5.mono<|.sub (.refl _) subA⟩
 ·intro j l' g;rcases bB g with⟨rfl,g3,_⟩| ⟨ne,g3⟩
  ·cases g3
  ·obtain⟨a',vs',g4,g5,g6,g7⟩:=I.ow j l' g3;exact⟨a',vs',g4,g5,g6,g7.mono<|.sub (.refl _) subA⟩
 ·intro j k l1 l2 a' g1 g2 g3 g4;rcases bB g1 with⟨rfl,z,_⟩| ⟨ne,z⟩
  ·cases z
  ·rcases bB g2 with⟨rfl,z',_⟩| ⟨ne',z'⟩
   ·cases z'
   ·exact I.inj j k l1 l2 a' z z' g3 g4
theorem EOk.write (I:EOk K C ρ σ H){i:Nat}{l l':List D}{a:Addr}{vs':List V}(h:ρ[i]? =some (some<|.ow l))(hs:σ[i]? =some (some<|.ref a))(r:bG K (Av C ρ σ) H l' vs') :
  EOk K C (ρ.set i<|some<|.ow l') σ (upd H a<|.lst vs'):=by
 have hi:i<ρ.length:=(kK.mp h).1;have sub: ∀b,Av C (ρ.set i<|some<|.ow l') σ b->Av C ρ σ b:=by
  rintro b (z| ⟨j,l2,h1,h2⟩)
  ·exact .inl z
  ·rcases bB h1 with⟨rfl,h3,_⟩| ⟨ne,h3⟩
   ·exact .inr ⟨i,l,h,h2⟩
   ·exact .inr ⟨j,l2,h3,h2⟩
 have own:Av C ρ σ a:= .inr ⟨i,l,h,hs⟩;have P:lY (Av C ρ σ) H (Av C (ρ.set i<|some<|.ow l') σ) (upd H a<|.lst vs'):=λb o nb e=>⟨λz=>nb (sub b z),(lY.upd own b o nb e).2⟩
 obtain⟨a1,vs,h1,h2,h3,h4⟩:=I.ow i l h;rw[hs]at h1;cases h1;refine⟨by rw[dU];exact I.len,?_,?_,?_,?_,?_,I.a0⟩
 rotate_left 3
 ·intro j l2 g;rcases bB g with⟨rfl,g3,_⟩| ⟨ne,g3⟩
  ·cases g3
  ·obtain⟨a',vs',g4,g5,g6,g7⟩:=I.bo j l2 g3;exact⟨a',vs',g4,g5,g6,g7.mono P⟩
 rotate_left 1
 ·intro j d' g;rcases bB g with⟨rfl,g3,_⟩| ⟨ne,g3⟩
  ·cases g3
  ·obtain⟨v',g4,g5⟩:=I.pu j d' g3;exact⟨v',g4,g5.mono P⟩
 ·intro j l2 g;rcases bB g with⟨rfl,g3,_⟩| ⟨ne,g3⟩
  ·cases g3;exact⟨a,vs',hs,iB,h3,r.mono P⟩
  ·obtain⟨a',vs2,g4,g5,g6,g7⟩:=I.ow j l2 g3;refine⟨a',vs2,g4,?_,g6,g7.mono P⟩;rw[bL λz=> ?_]
   ·exact g5
   ·subst z;exact ne (I.inj i j l l2 a' h g3 hs g4)
 ·intro j k l1 l2 a' g1 g2 g3 g4;have old: ∀{j:Nat} {l1:List D},(ρ.set i<|some<|.ow l')[j]? =some (some<|.ow l1)-> ∃l3,ρ[j]? =some (some<|.ow l3):=λ{j l1} g=>by
   rcases bB g with⟨rfl,z,_⟩| ⟨ne,z⟩
   ·exact⟨l,h⟩
   ·exact⟨l1,z⟩
  obtain⟨_,q1⟩:=old g1;obtain⟨_,q2⟩:=old g2;exact I.inj j k _ _ a' q1 q2 g3 g4
 ·intro b o e;rw[bL λz=> ?_]
  ·exact I.ext b o e
  ·subst z;rw[h3]at e;cases e
noncomputable def C0.raise (C:C0)(ρ:Ev)(σ:L2.St)(H:Hp)(D:(a:Addr)->Decidable (Own ρ σ a)):C0:=⟨λb=> @ite _ (Own ρ σ b) (D b) none (H b),C.A0⟩
open Classical in
theorem EOk.raise (I:EOk K C ρ σ H):EOk K (C.raise ρ σ H λ_=>inferInstance) ρ σ H/\gP C.H0 (C.raise ρ σ H λ_=>inferInstance).H0:=by
 have e1: ∀b,Own ρ σ b->(C.raise ρ σ H λ_=>inferInstance).H0 b=none:=λb h=>a7 h
 have e2: ∀b,¬Own ρ σ b->(C.raise ρ σ H λ_=>inferInstance).H0 b=H b:=λb h=>a6 h
 have no: ∀b o,C.H0 b=some o-> ¬Own ρ σ b:=λb o e ⟨i,l,h1,h2⟩=>by
  obtain⟨a,vs,h3,h4,h5,_⟩:=I.ow i l h1;rw[h2]at h3;cases h3;rw[h5]at e;cases e
 have s1:gP C.H0 (C.raise ρ σ H λ_=>inferInstance).H0:=λb o e=>by rw[e2 b<|no b o e];exact I.ext b o e
 refine⟨⟨I.len,I.pu,λi l h=> ?_,I.inj,λi l h=> ?_,λb o e=> ?_,λa h z=> ?_⟩,s1⟩
 ·obtain⟨a,vs,h3,h4,h5,h6⟩:=I.ow i l h;exact⟨a,vs,h3,h4,e1 a ⟨i,l,h,h3⟩,h6⟩
 ·obtain⟨a,vs,h3,h4,h5,h6⟩:=I.bo i l h;exact⟨a,vs,h3,h4,s1 _ _ h5,h6⟩
 ·by_cases q:Own ρ σ b
  ·rw[e1 b q]at e;cases e
  ·rw[e2 b q]at e;exact e
 ·cases e:C.H0 a with
  | none=>exact I.a0 a h e
  | some o=>rw[s1 a o e]at z;cases z
theorem EOk.lower {C C':C0}(I:EOk K C' ρ σ H)(s:gP C.H0 C'.H0)(e:C'.A0=C.A0)(ha: ∀a,C.A0 a->C.H0 a≠none):EOk K C ρ σ H:=by
 obtain⟨H0',A0'⟩:=C';obtain⟨H0,A0⟩:=C;have e':A0'=A0:=e;subst e';refine⟨I.len,I.pu,λi l h=> ?_,I.inj,λi l h=> ?_,s.trans I.ext,ha⟩
 ·obtain⟨a,vs,h3,h4,h5,h6⟩:=I.ow i l h;exact⟨a,vs,h3,h4,s.free h5,h6⟩
 ·obtain⟨a,vs,h3,h4,h5,h6⟩:=I.bo i l h;refine⟨a,vs,h3,h4,?_,h6⟩;cases e:H0 a with
  | none=>exact absurd e (ha a h4)
  | some o=>
   have:=s a o e;have h5':H0' a=some (.lst vs):=h5;have this':H0' a=some o:=this;rw[h5']at this';cases this';exact e
end
end M
end
section
namespace M
open PySem PySem.Spec PyProof.Rows L2
def Frz (ρ ρ':Ev):Prop:=ρ'.length=ρ.length/\ ∀i:Nat,ρ'[i]? =ρ[i]? \/ ∃l:List D,ρ[i]? =some (some<|.ow l)/\ρ'[i]? =some (some<|.pu<|.lst l)
theorem Frz.refl (ρ:Ev):Frz ρ ρ:=⟨rfl,λ_=> .inl rfl⟩
theorem Frz.trans {a b c:Ev}(h:Frz a b)(g:Frz b c):Frz a c:=by
 refine⟨g.1.trans h.1,λi=> ?_⟩
 rcases g.2 i with e| ⟨l,e1,e2⟩
 ·rcases h.2 i with e'| ⟨l,e1,e2⟩
  ·exact .inl (e.trans e')
  ·exact .inr ⟨l,e1,e.trans e2⟩
 ·rcases h.2 i with e'| ⟨l',e3,e4⟩
  ·exact .inr ⟨l,e'▸e1,e2⟩
  ·rw[e4]at e1;cases e1
theorem Frz.own {ρ ρ':Ev}{σ:L2.St}(f:Frz ρ ρ'){a:Addr}(h:Own ρ' σ a):Own ρ σ a:=by
 obtain⟨i,l,h1,h2⟩:=h;rcases f.2 i with e| ⟨l',_,e2⟩
 ·exact⟨i,l,e▸h1,h2⟩
 ·rw[e2]at h1;cases h1
theorem Frz.set {ρ:Ev}{i:Nat}{l:List D}(h:ρ[i]? =some (some<|.ow l)):Frz ρ (ρ.set i<|some<|.pu<|.lst l):=by
 refine⟨dU,λj=> ?_⟩
 by_cases e:i=j
 ·subst e;exact .inr ⟨l,h,iX (kK.mp h).1⟩
 ·exact .inl (get_set_ne e)
section
variable {K:Frag}{C:C0}{ρ ρ':Ev}{σ:L2.St}{H H':Hp}
theorem Frz.av (f:Frz ρ ρ'){a:Addr}(h:Av C ρ' σ a):Av C ρ σ a:=h.imp id f.own
theorem EOk.frz (I:EOk K C ρ σ H)(f:Frz ρ ρ'):EOk K C ρ' σ H:=by
 have ow': ∀{j:Nat} {l:List D},ρ'[j]? =some (some<|.ow l)->ρ[j]? =some (some<|.ow l):=λ{j l} h=>by
  rcases f.2 j with e| ⟨l',_,e2⟩
  ·exact e▸h
  ·rw[e2]at h;cases h
 refine⟨by rw[f.1];exact I.len,λi d h=> ?_,λi l h=> ?_,λi j l l' a h1 h2=>I.inj i j l l' a (ow' h1) (ow' h2),λi l h=> ?_,I.ext,I.a0⟩
 ·rcases f.2 i with e| ⟨l,e1,e2⟩
  ·obtain⟨v,h1,h2⟩:=I.pu i d (e▸h);exact⟨v,h1,h2.mono<|.sub (.refl _) λa=>f.av⟩
  ·rw[e2]at h;cases h;obtain⟨a,vs,h1,h2,h3,h4⟩:=I.ow i l e1;refine⟨.ref a,h1,?_⟩;simp only[Rep];refine⟨a,vs,rfl,?_,h2,h4.mono<|.sub (.refl _) λa=>f.av⟩
   rintro(z| ⟨j,l',g1,g2⟩)
   ·exact I.a0 a z h3
   ·have:=I.inj i j l l' a e1 (ow' g1) h1 g2;subst this;rw[e2]at g1;cases g1
 ·obtain⟨a,vs,h1,h2,h3,h4⟩:=I.ow i l (ow' h);exact⟨a,vs,h1,h2,h3,h4.mono<|.sub (.refl _) λa=>f.av⟩
 ·have h':ρ[i]? =some (some<|.bo l):=by
   rcases f.2 i with e| ⟨l',_,e2⟩
   ·exact e▸h
   ·rw[e2]at h;cases h
  obtain⟨a,vs,h1,h2,h3,h4⟩:=I.bo i l h';exact⟨a,vs,h1,h2,h3,h4.mono<|.sub (.refl _) λa=>f.av⟩
end
abbrev UE:=Ev->(B->Ev->Prop)->Prop
abbrev UV:=Ev->(D->Ev->Prop)->Prop
abbrev UA:=Ev->(List D->Ev->Prop)->Prop
abbrev UT:=Ev->(Bool->Ev->Prop)->Prop
def lE (K:Frag)(t:UE):TE:=λσ H Q=> ∃C ρ Q0,EOk K C ρ σ H/\t ρ Q0/\
 ∀b ρ' v H',Q0 b ρ'->Frz ρ ρ'->gP H H'->tH K (Av C ρ' σ) H H' b v->Q v H'
def lA (K:Frag)(t:UA):TA:=λσ H Q=> ∃C ρ Q0,EOk K C ρ σ H/\t ρ Q0/\
 ∀ds ρ' vs H',Q0 ds ρ'->Frz ρ ρ'->gP H H'->bG K (Av C ρ' σ) H' ds vs->Q vs H'
def lT (K:Frag)(t:UT):TT:=λσ H Q=> ∃C ρ Q0,EOk K C ρ σ H/\t ρ Q0/\
 ∀b ρ' H',Q0 b ρ'->Frz ρ ρ'->gP H H'->Q b H'
def bZ3 (K:Frag)(A:AS)(H:Hp):D->V->Prop
 | .tup l,v=> ∃a vs,v= .ref a/\SqT K H a vs/\bG K A H l vs
 | .lst l,v=> ∃a vs,v= .ref a/\H a=some (.lst vs)/\bG K A H l vs
 | .rol l,v=> ∃a vs,v= .ref a/\SqL K H a vs/\bG K A H l vs
 | d,v=>Rep K A H d v
def lV (K:Frag)(t:UV):TE:=λσ H Q=> ∃C ρ Q0,EOk K C ρ σ H/\t ρ Q0/\
 ∀d ρ' v H',Q0 d ρ'->Frz ρ ρ'->gP H H'->bZ3 K (Av C ρ' σ) H' d v->Q v H'
def PU (X:Cx)(e:Expr)(t:UE):Prop:=PE X e (lE X.K t)
def PUV (X:Cx)(e:Expr)(t:UV):Prop:=PE X e (lV X.K t)
def PUA (X:Cx)(es:List Expr)(t:UA):Prop:=PA X es (lA X.K t)
def PUT (X:Cx)(e:Expr)(t:UT):Prop:=PT X e (lT X.K t)
def PUW (X:Cx)(e:Expr)(t:UT):Prop:=PW X e (lT X.K t)
section
variable {K:Frag}{A:AS}{H:Hp}
theorem Rep.one: ∀{d:D} {v:V},Rep K A H d v->bZ3 K A H d v
 | .non,_,h=>h
 | .bl _,_,h=>h
 | .int _,_,h=>h
 | .str _,_,h=>h
 | .ty _,_,h=>h
 | .tup l,v,h=>by
  simp only[Rep]at h;obtain⟨a,vs,e,c,r⟩:=h;exact⟨a,vs,e,c.imp bO id,r⟩
 | .lst l,v,h=>by
  simp only[Rep]at h;obtain⟨a,vs,e,n,c,r⟩:=h;exact⟨a,vs,e,c,r⟩
 | .rol l,v,h=>by
  simp only[Rep]at h;obtain⟨a,vs,e,c,r⟩:=h;exact⟨a,vs,e,c.imp bO id,r⟩
 | .obj _ _ _,_,h=>h
 | .adr _,_,h=>h
 | .xob _ _ _ _,_,h=>h
end
theorem iJ {X:Cx}{e:Expr}{t t':TE}(h:PE X e t)(i: ∀σ H Q,t' σ H Q->t σ H Q):PE X e t':=λpins s σ H Q I q=>h pins s σ H Q I (i σ H Q q)
theorem d89 {X:Cx}{es:List Expr}{t t':TA}(h:PA X es t)(i: ∀σ H Q,t' σ H Q->t σ H Q):PA X es t':=λpos pins s σ H Q I q=>h pos pins s σ H Q I (i σ H Q q)
theorem bB9 {X:Cx}{e:Expr}{t t':TT}(h:PT X e t)(i: ∀σ H Q,t' σ H Q->t σ H Q):PT X e t':=λpins s σ H Q I q=>h pins s σ H Q I (i σ H Q q)
theorem d90 {X:Cx}{e:Expr}{t t':TT}(h:PW X e t)(i: ∀σ H Q,t' σ H Q->t σ H Q):PW X e t':=λw pins s σ H Q I q=>h w pins s σ H Q I (i σ H Q q)
section
variable {X:Cx}{a b c e o:Expr}{es nR:List Expr}{pos:Pos}{ta tb tc:UE}
def uC (d:D):UE:=λρ Q=>Q (.pu d) ρ
theorem aF {i j pos}:PU X (.Constant (.int i) j pos) (uC<|.int i):=iJ pe_int λσ H Q ⟨C,ρ,Q0,I,h,k⟩=>k _ ρ _ H h (.refl _) (.refl _) (show Rep _ _ _ _ _ by simp only[Rep])
theorem wC {b j pos}:PU X (.Constant (.bool b) j pos) (uC<|.bl b):=iJ pe_bl λσ H Q ⟨C,ρ,Q0,I,h,k⟩=>k _ ρ _ H h (.refl _) (.refl _) (show Rep _ _ _ _ _ by simp only[Rep])
theorem aZ2 {j pos}:PU X (.Constant .none j pos) (uC .non):=iJ pe_non λσ H Q ⟨C,ρ,Q0,I,h,k⟩=>k _ ρ _ H h (.refl _) (.refl _) (show Rep _ _ _ _ _ by simp only[Rep])
theorem pu_str {x j pos}:PU X (.Constant (.str x) j pos) (uC<|.str x):=iJ pe_str λσ H Q ⟨C,ρ,Q0,I,h,k⟩=>k _ ρ _ H h (.refl _) (.refl _) (show Rep _ _ _ _ _ by simp only[Rep])
def aS4 (ρ:Ev)(i:Nat)(Q:B->Ev->Prop):Prop:=match ρ[i]? with
 | some (some<|.pu d)=>Q (.pu d) ρ
 | some (some<|.ow l)=>Q (.pu<|.lst l) (ρ.set i<|some<|.pu<|.lst l)
 | _=>False
def aC (i:Nat):UE:=λρ Q=>aS4 ρ i Q
theorem gE (i:Nat){x:Str}{pos:Pos}(h:PE X (.Name x pos) (a08 i)):PU X (.Name x pos) (aC i):=iJ h λσ H Q ⟨C,ρ,Q0,I,h,k⟩=>by
 unfold aC aS4 at h;split at h
 ·rename_i d e
  obtain⟨v,h1,h2⟩:=I.pu i d e;exact⟨v,h1,k _ ρ v H h (.refl _) (.refl _) h2⟩
 ·rename_i l e
  obtain⟨_,_,v,h1,h2⟩:=I.freeze e;exact⟨v,h1,k _ _ v H h (.set e) (.refl _) h2⟩
 ·exact h.elim
def aZ3 (ρ:Ev)(i:Nat)(Q:D->Ev->Prop):Prop:=match ρ[i]? with
 | some (some<|.pu d)=>Q d ρ
 | some (some<|.ow l)=>Q (.lst l) ρ
 | some (some<|.bo l)=>Q (.lst l) ρ
 | _=>False
def aO (i:Nat):UV:=λρ Q=>aZ3 ρ i Q
theorem yF (i:Nat){x:Str}{pos:Pos}(h:PE X (.Name x pos) (a08 i)):PUV X (.Name x pos) (aO i):=iJ h λσ H Q ⟨C,ρ,Q0,I,h,k⟩=>by
 unfold aO aZ3 at h;split at h
 ·rename_i d e
  obtain⟨v,h1,h2⟩:=I.pu i d e;exact⟨v,h1,k _ ρ v H h (.refl _) (.refl _) h2.one⟩
 ·rename_i l e
  obtain⟨a,vs,h1,h2,h3,h4⟩:=I.ow i l e;exact⟨_,h1,k _ ρ _ H h (.refl _) (.refl _) ⟨a,vs,rfl,h2,h4⟩⟩
 ·rename_i l e
  obtain⟨a,vs,h1,h2,h3,h4⟩:=I.bo i l e;exact⟨_,h1,k _ ρ _ H h (.refl _) (.refl _) ⟨a,vs,rfl,I.ext _ _ h3,h4⟩⟩
 ·exact h.elim
def uV (t:UE):UV:=λρ Q=>t ρ λb ρ1=>Q b.d ρ1
theorem EOk.avF {K:Frag}{C:C0}{ρ ρ':Ev}{σ:L2.St}{H:Hp}(I:EOk K C ρ σ H)(f:Frz ρ ρ'){a:Addr}(h:Av C ρ' σ a):H a≠none:=I.avSome (f.av h)
theorem uM (h:PU X e ta):PUV X e (uV ta):=iJ h λσ H Q ⟨C,ρ,Q0,I,h,k⟩=>
 ⟨C,ρ,_,I,h,λb ρ' v H' q f s r=>k b.d ρ' v H' q f s (r.rep λa z=>I.avF f z).one⟩
theorem bG3 {x:Str}{v:V}{d:D}{pos:Pos}(h:PE X (.Name x pos) (tC v))(r: ∀A H,Rep X.K A H d v):PU X (.Name x pos) (uC d):=iJ h λσ H Q ⟨C,ρ,Q0,I,h,k⟩=>k _ ρ _ H h (.refl _) (.refl _) (r _ _)
def OpU (X:Cx)(f:Value->Value->Sem Value)(g:D->D->(B->Prop)->Prop):Prop:=
 ∀(A:AS) (H:Hp) (d e:D) (v w:V) (Q0:B->Prop) (Q:VK),(∀a,A a->H a≠none)->Rep X.K A H d v->Rep X.K A H e w->g d e Q0->
  (∀b v' H',Q0 b->gP H H'->tH X.K A H H' b v'->Q v' H')-> ∃r,OpR X f r/\r v w H Q
def uOp (g:D->D->(B->Prop)->Prop)(ta tb:UE):UE:=λρ Q=>ta ρ λx ρ1=>tb ρ1 λy ρ2=>g x.d y.d λb=>Q b ρ2
theorem bO3 {f:Value->Value->Sem Value}:OpR X f (λx y H Q=> ∃r,OpR X f r/\r x y H Q):=λpins s σ H x y v u Q I rx ry ⟨r,hr,q⟩=>hr pins s σ H x y v u Q I rx ry q
theorem tH.from {K:Frag}{A:AS}{H0 H H':Hp}(s:gP H0 H): ∀{b:B} {v:V},tH K A H H' b v->tH K A H0 H' b v
 | .pu _,_,h=>h
 | .ow _,_,⟨a,vs,e,n,h1,r⟩=>⟨a,vs,e,s.free n,h1,r⟩
 | .bo _,_,h=>h.elim
theorem lOp {f:Value->Value->Sem Value}{g:D->D->(B->Prop)->Prop}(ho:OpU X f g)(σ:L2.St)(H:Hp)(Q:VK)(h:lE X.K (uOp g ta tb) σ H Q) :
  tOp (λx y H Q=> ∃r,OpR X f r/\r x y H Q) (lE X.K ta) (lE X.K tb) σ H Q:=by
 obtain⟨C,ρ,Q0,I,h,k⟩:=h;refine⟨C,ρ,_,I,h,λx ρ1 v H1 q1 f1 s1 r1=> ?_⟩
 have I1:=(I.frz f1).same s1;refine⟨C,ρ1,_,I1,q1,λy ρ2 w H2 q2 f2 s2 r2=> ?_⟩
 have I2:=(I1.frz f2).same s2;have hA: ∀a,Av C ρ2 σ a->H2 a≠none:=λa z=>I2.avSome z
 refine ho (Av C ρ2 σ) H2 x.d y.d v w _ Q hA ((r1.rep λa z=>I.avF f1 z).mono<|.sub s2 λa=>f2.av) (r2.rep λa z=>I1.avF f2 z) q2 λb v' H' q s r=> ?_
 exact k b ρ2 v' H' q (f1.trans f2) (s1.trans<|s2.trans s) (r.from<|s1.trans s2)
theorem aL {op:Operator}{g:D->D->(B->Prop)->Prop}(ho:OpU X (binaryOp op) g)(ha:PU X a ta)(hb:PU X b tb):PU X (.BinOp a op b pos) (uOp g ta tb):=
 iJ (pe_op bO3 ha hb) (lOp ho)
theorem pu_cmp {op:CmpOp}{g:D->D->(B->Prop)->Prop}(ho:OpU X (compareOp op) g)(ha:PU X a ta)(hb:PU X b tb)(hm:behindInMarks op b=false):PU X (.Compare a [op] [b] pos) (uOp g ta tb):=
 iJ (cY4 bO3 ha hb hm) (lOp ho)
def isB (Q:Bool->Ev->Prop):B->Ev->Prop:=λb ρ=>match b with
 | .pu (.bl k)=>Q k ρ
 | _=>False
def cQ (t:UE):UT:=λρ Q=>t ρ (isB Q)
theorem cZ6 {t:UE}(σ:L2.St)(H:Hp)(Q:Bool->Hp->Prop)(h:lT X.K (cQ t) σ H Q):lE X.K t σ H λx H'=> ∃k,x= .bl k/\Q k H':=by
 obtain⟨C,ρ,Q0,I,h,k⟩:=h;refine⟨C,ρ,_,I,h,λb ρ' v H' q f s r=> ?_⟩
 unfold isB at q;split at q
 ·rename_i k'
  refine⟨k',?_,k k' ρ' H' q f s⟩
  have r':Rep X.K (Av C ρ' σ) H' (.bl k') v:=r
  simpa only[Rep]using r'
 ·exact q.elim
theorem qI (h:PU X e ta)(he: ∀whole,isTrue e X.env whole=(do let v<-whole;standAt e.pos;holding [v] (truthy v)):=by intro _;rfl):PUT X e (cQ ta):=
 bB9 (pt_val h he) cZ6
theorem aW3 {op:CmpOp}{g:D->D->(B->Prop)->Prop}(ho:OpU X (compareOp op) g)(ha:PU X a ta)(hb:PU X b tb)(hm:behindInMarks op b=false):PUT X (.Compare a [op] [b] pos) (cQ<|uOp g ta tb):=
 bB9 (cY5 bO3 ha hb hm) λσ H Q h=>lOp ho σ H _ (cZ6 σ H Q h)
def b78 (t u:UT):UT:=λρ Q=>t ρ λc ρ1=>if c=true then u ρ1 Q else Q false ρ1
def uOr (t u:UT):UT:=λρ Q=>t ρ λc ρ1=>if c=true then Q true ρ1 else u ρ1 Q
def a96 (t:UT):UT:=λρ Q=>t ρ λc ρ1=>Q (!c) ρ1
variable {tA tB:UT}
theorem qJ (ha:PUT X a tA):PUW X (.BoolOp .And [a] pos) tA:=cX5 ha
theorem pY (ha:PUT X a tA):PUW X (.BoolOp .Or [a] pos) tA:=pw_or1 ha
theorem uN (ha:PUT X a tA)(hb:PUW X (.BoolOp .And (b::nR) pos) tB):PUW X (.BoolOp .And (a::b::nR) pos) (b78 tA tB):=
 d90 (pw_and ha hb) λσ H Q ⟨C,ρ,Q0,I,h,k⟩=>⟨C,ρ,_,I,h,λc ρ1 H1 q f s=>by
  cases c with
  | true=>
   rw[a7 rfl]at q⊢;exact⟨C,ρ1,Q0,(I.frz f).same s,q,λb ρ2 H2 q2 f2 s2=>k b ρ2 H2 q2 (f.trans f2) (s.trans s2)⟩
  | false=>
   rw[a6 bC]at q⊢;exact k _ _ _ q f s⟩
theorem k8 (ha:PUT X a tA)(hb:PUW X (.BoolOp .Or (b::nR) pos) tB):PUW X (.BoolOp .Or (a::b::nR) pos) (uOr tA tB):=
 d90 (pw_or ha hb) λσ H Q ⟨C,ρ,Q0,I,h,k⟩=>⟨C,ρ,_,I,h,λc ρ1 H1 q f s=>by
  cases c with
  | true=>
   rw[a7 rfl]at q⊢;exact k _ _ _ q f s
  | false=>
   rw[a6 bC]at q⊢;exact⟨C,ρ1,Q0,(I.frz f).same s,q,λb ρ2 H2 q2 f2 s2=>k b ρ2 H2 q2 (f.trans f2) (s.trans s2)⟩⟩
theorem PUW.pt (h:PUW X e tA):PUT X e tA:=PW.pt h
theorem kE (ha:PUT X a tA):PUT X (.UnaryOp .Not a pos) (a96 tA):=
 bB9 (pt_not ha) λσ H Q ⟨C,ρ,Q0,I,h,k⟩=>⟨C,ρ,_,I,h,λc ρ1 H1 q f s=>k _ ρ1 H1 q f s⟩
def c64 (t u:UE):UE:=λρ Q=>t ρ λx ρ1=>isB (λc ρ1=>if c=true then u ρ1 Q else Q (.pu<|.bl false) ρ1) x ρ1
def uOrV (t u:UE):UE:=λρ Q=>t ρ λx ρ1=>isB (λc ρ1=>if c=true then Q (.pu<|.bl true) ρ1 else u ρ1 Q) x ρ1
def cK6 (t:UE):UE:=λρ Q=>t ρ λx ρ1=>isB (λc ρ1=>Q (.pu<|.bl<|!c) ρ1) x ρ1
theorem aW4 {Q:Bool->Ev->Prop}{b:B}{ρ:Ev}{K:Frag}{A:AS}{H H':Hp}{v:V}(h:isB Q b ρ)(r:tH K A H H' b v): ∃k,v= .bl k/\Q k ρ:=by
 unfold isB at h;split at h
 ·rename_i k'
  have r':Rep K A H' (.bl k') v:=r;exact⟨k',by simpa only[Rep]using r',h⟩
 ·exact h.elim
theorem jT {K:Frag}{A:AS}{H H':Hp}{k:Bool}:tH K A H H' (.pu<|.bl k) (.bl k):=by
 show Rep K A H' (.bl k) (.bl k)
 simp only[Rep]
theorem bZ4 {op}(h:PU X a ta):PU X (.BoolOp op [a] pos) ta:=pe_one h
theorem cK7 (ha:PU X a ta)(hb:PU X (.BoolOp .And (b::nR) pos) tb):PU X (.BoolOp .And (a::b::nR) pos) (c64 ta tb):=
 iJ (pe_and ha hb) λσ H Q ⟨C,ρ,Q0,I,h,k⟩=>⟨C,ρ,_,I,h,λx ρ1 v H1 q f s r=>by
  obtain⟨c,rfl,q⟩:=aW4 q r;refine⟨c,rfl,?_⟩;cases c with
  | true=>
   rw[a7 rfl]at q⊢;exact⟨C,ρ1,Q0,(I.frz f).same s,q,λb ρ2 v H2 q2 f2 s2 r2=>k b ρ2 v H2 q2 (f.trans f2) (s.trans s2) (r2.from s)⟩
  | false=>
   rw[a6 bC]at q⊢;exact k _ _ _ _ q f s jT⟩
theorem pu_or (ha:PU X a ta)(hb:PU X (.BoolOp .Or (b::nR) pos) tb):PU X (.BoolOp .Or (a::b::nR) pos) (uOrV ta tb):=
 iJ (pe_or ha hb) λσ H Q ⟨C,ρ,Q0,I,h,k⟩=>⟨C,ρ,_,I,h,λx ρ1 v H1 q f s r=>by
  obtain⟨c,rfl,q⟩:=aW4 q r;refine⟨c,rfl,?_⟩;cases c with
  | true=>
   rw[a7 rfl]at q⊢;exact k _ _ _ _ q f s jT
  | false=>
   rw[a6 bC]at q⊢;exact⟨C,ρ1,Q0,(I.frz f).same s,q,λb ρ2 v H2 q2 f2 s2 r2=>k b ρ2 v H2 q2 (f.trans f2) (s.trans s2) (r2.from s)⟩⟩
theorem pu_not (ha:PU X a ta):PU X (.UnaryOp .Not a pos) (cK6 ta):=
 iJ (pe_not ha) λσ H Q ⟨C,ρ,Q0,I,h,k⟩=>⟨C,ρ,_,I,h,λx ρ1 v H1 q f s r=>by
  obtain⟨c,rfl,q⟩:=aW4 q r;exact⟨c,rfl,k _ _ _ _ q f s jT⟩⟩
def uIf (t:UT)(ta tb:UE):UE:=λρ Q=>t ρ λc ρ1=>if c=true then ta ρ1 Q else tb ρ1 Q
theorem cK8 (hc:PUT X c tA)(ha:PU X a ta)(hb:PU X b tb):PU X (.IfExp c a b pos) (uIf tA ta tb):=
 iJ (cI0 hc ha hb) λσ H Q ⟨C,ρ,Q0,I,h,k⟩=>⟨C,ρ,_,I,h,λc ρ1 H1 q f s=>by
  have I1:=(I.frz f).same s;cases c with
  | true=>
   dsimp only at q⊢;rw[a7 rfl]at q⊢;exact⟨C,ρ1,Q0,I1,q,λb ρ2 v H2 q2 f2 s2 r2=>k b ρ2 v H2 q2 (f.trans f2) (s.trans s2) (r2.from s)⟩
  | false=>
   dsimp only at q⊢;rw[a6 bC]at q⊢;exact⟨C,ρ1,Q0,I1,q,λb ρ2 v H2 q2 f2 s2 r2=>k b ρ2 v H2 q2 (f.trans f2) (s.trans s2) (r2.from s)⟩⟩
def aK:UA:=λρ Q=>Q [] ρ
def a9 (t:UE)(u:UA):UA:=λρ Q=>t ρ λx ρ1=>u ρ1 λxs ρ2=>Q (x.d::xs) ρ2
theorem aA:PUA X [] aK:=d89 aY8 λσ H Q ⟨C,ρ,Q0,I,h,k⟩=>k [] ρ [] H h (.refl _) (.refl _) .nil
theorem aE {t:UA}(ha:PU X e ta)(hr:PUA X es t)(hs:starEach (e::es) X.env=(false,eval e X.env)::starEach es X.env:=by rfl):PUA X (e::es) (a9 ta t):=
 d89 (aJ3 ha hr hs) λσ H Q ⟨C,ρ,Q0,I,h,k⟩=>⟨C,ρ,_,I,h,λx ρ1 v H1 q1 f1 s1 r1=>by
  have I1:=(I.frz f1).same s1;refine⟨C,ρ1,_,I1,q1,λxs ρ2 vs H2 q2 f2 s2 r2=> ?_⟩
  exact k _ ρ2 _ H2 q2 (f1.trans f2) (s1.trans s2) (.cons ((r1.rep λa z=>I.avF f1 z).mono<|.sub s2 λa=>f2.av) r2)⟩
def gF (t:UA):UE:=λρ Q=>t ρ λl ρ1=>l.length<=sizeLine/\Q (.pu<|.tup l) ρ1
def lD (t:UA):UE:=λρ Q=>t ρ λl ρ1=>l.length<=sizeLine/\Q (.ow l) ρ1
theorem eW {H:Hp}{p:Addr}(h:H p=none)(o:HO):gP H (upd H p o):=λb u q=>by rw[bL<|cP q h];exact q
theorem iK {K:Frag}{A:AS}{H:Hp}{p:Addr}{l:List D}{vs:List V}(hA: ∀a,A a->H a≠none)(n:H p=none)(r:bG K A H l vs):Rep K A (upd H p<|.tup vs) (.tup l) (.ref p):=by
 simp only[Rep];exact⟨p,vs,rfl,.inl ⟨λz=>hA p z n,.inl iB⟩,r.mono<|.same<|eW n _⟩
theorem gX {K:Frag}{A:AS}{H H0:Hp}{p:Addr}{l:List D}{vs:List V}(s:gP H0 H)(n:H p=none)(r:bG K A H l vs):tH K A H0 (upd H p<|.lst vs) (.ow l) (.ref p):=
 ⟨p,vs,rfl,s.free n,iB,r.mono<|.fresh (eW n _) n⟩
theorem d7 {t:UA}{x1}(h:PUA X es t):PU X (.Tuple es x1 pos) (gF t):=
 iJ (pe_tup h) λσ H Q ⟨C,ρ,Q0,I,h,k⟩=>⟨C,ρ,_,I,h,λl ρ1 vs H1 q f s r=>by
  obtain⟨hz,q⟩:=q;refine⟨by rw[<-r.length];exact hz,λp n=> ?_⟩
  have I1:=(I.frz f).same s;exact k _ ρ1 _ _ q f (s.trans<|eW n _) (iK (λa z=>I1.avSome z) n r)⟩
theorem fN {t:UA}(h:PUA X es t):PU X (.List es pos) (lD t):=
 iJ (pe_lst h) λσ H Q ⟨C,ρ,Q0,I,h,k⟩=>⟨C,ρ,_,I,h,λl ρ1 vs H1 q f s r=>by
  obtain⟨hz,q⟩:=q;refine⟨by rw[<-r.length];exact hz,λp n=> ?_⟩
  exact k _ ρ1 _ _ q f (s.trans<|eW n _) (gX s n r)⟩
abbrev Φ:=List D->(B->Prop)->Prop
def spP (K:Frag)(φ:Φ):Sp:=λvs H Q _=> ∃A ds Q0,(∀a,A a->H a≠none)/\bG K A H ds vs/\φ ds Q0/\ ∀b v H',Q0 b->gP H H'->tH K A H H' b v->Q v H'
def aP (φ:Φ)(t:UA):UE:=λρ Q=>t ρ λds ρ1=>φ ds λb=>Q b ρ1
theorem lCall {φ:Φ}{t:UA}{E:XK}(σ:L2.St)(H:Hp)(Q:VK)(h:lE X.K (aP φ t) σ H Q):cJ3 (spP X.K φ) [] E (lA X.K t) σ H Q:=by
 obtain⟨C,ρ,Q0,I,h,k⟩:=h;refine⟨C,ρ,_,I,h,λds ρ1 vs H1 q f s r=> ?_⟩
 have I1:=(I.frz f).same s;show spP X.K φ (vs++[]) H1 Q E;rw[i7];exact⟨Av C ρ1 σ,ds,_,λa z=>I1.avSome z,r,q,λb v H' q' s' r'=>k b ρ1 v H' q' f (s.trans s') (r'.from s)⟩
theorem cZ7 {CX:CXT}{k:Nat}{f:Addr}{fd:FuncData}{ps:List Str}{φ:Φ}{E:XK}{x:Str}{p:Pos}{t:UA}(F:qU X.prog X.w X.K X.mg X.base CX k f fd ps (spP X.K φ))(hr:gM k X.A)(hg:Gl X x)(hm:X.mg x=some (.ref f))
  (hk:keepIn X.K (.ref f)=true) (hb:Binds X.K fd ps []) (hx:v6 CX X E) (ha:PUA X (e::es) t) (hdb:(x==("__debug__":Str))=false:=by decide) (he:starEach (e::es) X.env=(false,eval e X.env)::starEach es X.env:=by rfl)
  (hpl:(backTo pos<|starEach es X.env).any (·.1)=false:=by rfl):PU X (.Call (.Name x p) (e::es) [] pos) (aP φ t):=
 iJ (c60 F hr hg hm hk hb .nil hx ha hdb he hpl) lCall
theorem cK9 {CX:CXT}{k:Nat}{f:Addr}{fd:FuncData}{ps:List Str}{φ:Φ}{E:XK}{x:Str}{p:Pos}(F:qU X.prog X.w X.K X.mg X.base CX k f fd ps (spP X.K φ))(hr:gM k X.A)(hg:Gl X x)(hm:X.mg x=some (.ref f))
  (hk:keepIn X.K (.ref f)=true) (hb:Binds X.K fd ps []) (hx:v6 CX X E) (hdb:(x==("__debug__":Str))=false:=by decide):PU X (.Call (.Name x p) [] [] pos) (aP φ aK):=
 iJ (cJ5 F hr hg hm hk hb .nil hx hdb) λσ H Q ⟨C,ρ,Q0,I,h,k⟩=>⟨Av C ρ σ,[],_,λa z=>I.avSome z,.nil,h,λb v H' q' s' r'=>k b ρ v H' q' (.refl _) s' r'⟩
def wD (X:Cx)(f:Value)(g:List D->(B->Prop)->Prop):Prop:=
 ∀(A:AS) (H:Hp) (ds:List D) (vs:List V) (Q0:B->Prop) (Q:VK),(∀a,A a->H a≠none)->bG X.K A H ds vs->g ds Q0->
  (∀b v' H',Q0 b->gP H H'->tH X.K A H H' b v'->Q v' H')-> ∃r,qH X f r/\r vs H Q
theorem callAny {f:Value}:qH X f (λxs H Q=> ∃r,qH X f r/\r xs H Q):=λpins s σ H xs us Q I rx ⟨r,hr,q⟩=>hr pins s σ H xs us Q I rx q
theorem lCB {f:Value}{g:List D->(B->Prop)->Prop}{t:UA}(hc:wD X f g)(σ:L2.St)(H:Hp)(Q:VK)(h:lE X.K (aP g t) σ H Q):tCB (λxs H Q=> ∃r,qH X f r/\r xs H Q) (lA X.K t) σ H Q:=by
 obtain⟨C,ρ,Q0,I,h,k⟩:=h;refine⟨C,ρ,_,I,h,λds ρ1 vs H1 q f s r=> ?_⟩
 have I1:=(I.frz f).same s;exact hc (Av C ρ1 σ) H1 ds vs _ Q (λa z=>I1.avSome z) r q λb v H' q' s' r'=>k b ρ1 v H' q' f (s.trans s') (r'.from s)
theorem dD {id:String}{g:List D->(B->Prop)->Prop}{x:Str}{p:Pos}{t:UA}(hc:wD X (.builtin id) g)(hg:Gl X x)(hm:X.mg x=none)(hv:bootBuiltins x=some (.builtin id))(ha:PUA X (e::es) t)(hn:x≠"__name__":=by decide)(hdb:(x==("__debug__":Str))=false:=by decide)
  (he:starEach (e::es) X.env=(false,eval e X.env)::starEach es X.env:=by rfl) (hpl:(backTo pos<|starEach es X.env).any (·.1)=false:=by rfl):PU X (.Call (.Name x p) (e::es) [] pos) (aP g t):=
 iJ (bN9 callAny hg hm hv ha hn hdb he hpl) (lCB hc)
theorem fM {T:String}{g:List D->(B->Prop)->Prop}{x:Str}{p:Pos}{t:UA}(hc:wD X (.type T) g)(hg:Gl X x)(hm:X.mg x=none)(hv:bootBuiltins x=some (.type T))(ha:PUA X (e::es) t)(hn:x≠"__name__":=by decide)(hdb:(x==("__debug__":Str))=false:=by decide)
  (he:starEach (e::es) X.env=(false,eval e X.env)::starEach es X.env:=by rfl) (hpl:(backTo pos<|starEach es X.env).any (·.1)=false:=by rfl):PU X (.Call (.Name x p) (e::es) [] pos) (aP g t):=
 iJ (cC6 callAny hg hm hv ha hn hdb he hpl) (lCB hc)
end
structure UD where
 nx:Ev->Prop
 rt:B->Prop
 bk:Ev->Prop:=λ_=>False
 ct:Ev->Prop:=λ_=>False
abbrev US:=UD->Ev->Prop
structure DOk (K:Frag)(C:C0)(D0:UD)(D:b76):Prop where
 nx: ∀ρ σ H,D0.nx ρ->EOk K C ρ σ H->D.nx σ H
 rt: ∀b v H,D0.rt b->gP C.H0 H->tH K C.A0 C.H0 H b v->D.rt v H
 bk: ∀ρ σ H,D0.bk ρ->EOk K C ρ σ H->D.bk σ H
 ct: ∀ρ σ H,D0.ct ρ->EOk K C ρ σ H->D.ct σ H
def lS (K:Frag)(t:US):TS:=λD σ H=> ∃C ρ D0,EOk K C ρ σ H/\t D0 ρ/\DOk K C D0 D
def PUS (X:Cx)(st:Stmt)(t:US):Prop:=PS X st (lS X.K t)
def qW (X:Cx)(sts:List Stmt)(t:US):Prop:=PSs X sts (lS X.K t)
theorem nS {X:Cx}{st:Stmt}{t t':TS}(h:PS X st t)(i: ∀D σ H,t' D σ H->t D σ H):PS X st t':=λpins s σ H D I q=>h pins s σ H D I (i D σ H q)
theorem aG2 {X:Cx}{st:List Stmt}{t t':TS}(h:PSs X st t)(i: ∀D σ H,t' D σ H->t D σ H):PSs X st t':=λpins s σ H D I q=>h pins s σ H D I (i D σ H q)
section
variable {X:Cx}{st:Stmt}{sts:List Stmt}{e:Expr}{pos:Pos}{t u:US}{te:UE}{tc:UT}{K:Frag}
def dZ:US:=λD ρ=>D.nx ρ
def aV (t u:US):US:=λD ρ=>t {D with nx:=u D} ρ
theorem bZ5:qW X [] dZ:=aG2 cX6 λD σ H ⟨C,ρ,D0,I,h,k⟩=>k.nx ρ σ H h I
theorem bT (h1:PUS X st t)(h2:qW X sts u):qW X (st::sts) (aV t u):=
 aG2 (qG h1 h2) λD σ H ⟨C,ρ,D0,I,h,k⟩=>⟨C,ρ,{D0 with nx:=u D0},I,h,⟨λρ' σ' H' q I'=>⟨C,ρ',D0,I',q,k⟩,k.rt,k.bk,k.ct⟩⟩
theorem bK (h1:PUS X st t):qW X [st] t:=a80 h1
def dE (t:UE):US:=λD ρ=>t ρ λb _=>D.rt b
theorem tH.back {A A':AS}{H0 H H':Hp}(s:gP H0 H)(h: ∀a,A' a->A a): ∀{b:B} {v:V},tH K A H H' b v->tH K A' H0 H' b v
 | .pu _,_,r=>Rep.mono (.sub (.refl _) h) r
 | .ow _,_,⟨a,vs,e,n,h1,r⟩=>⟨a,vs,e,s.free n,h1,r.mono λb o nb q=>⟨λz=>nb (z.imp (h b) id),q⟩⟩
 | .bo _,_,r=>r.elim
theorem bZ6 (he:PU X e te):PUS X (.Return (some e) pos) (dE te):=
 nS (cI1 he) λD σ H ⟨C,ρ,D0,I,h,k⟩=>⟨C,ρ,_,I,h,λb ρ' v H' q f s r=>k.rt b v H' q (I.ext.trans s) (r.back I.ext λa z=> .inl z)⟩
def uRetN:US:=λD _=>D.rt (.pu .non)
def tI (i:Nat):US:=λD ρ=>match ρ[i]? with
 | some (some<|.pu d)=>D.rt (.pu d)
 | some (some<|.ow l)=>D.rt (.ow l)
 | _=>False
theorem nT (i:Nat){x:Str}{p:Pos}(h:PE X (.Name x p) (a08 i)):PUS X (.Return (some<|.Name x p) pos) (tI i):=
 nS (cI1 h) λD σ H ⟨C,ρ,D0,I,h,k⟩=>by
  unfold tI at h;split at h
  ·rename_i d e
   obtain⟨v,h1,h2⟩:=I.pu i d e;exact⟨v,h1,k.rt _ v H h I.ext<|Rep.mono (.sub (.refl _) λa z=> .inl z) h2⟩
  ·rename_i l e
   obtain⟨a,vs,h1,h2,h3,h4⟩:=I.ow i l e;refine⟨_,h1,k.rt _ _ H h I.ext ⟨a,vs,rfl,h3,h2,h4.mono λb o nb q=>⟨λz=>nb (z.elim .inl λz=> .inr ?_),q⟩⟩⟩
   subst z;exact⟨i,l,e,h1⟩
  ·exact h.elim
def gH (c:UT)(t u:US):US:=λD ρ=>c ρ λb ρ1=>if b=true then t D ρ1 else u D ρ1
theorem c65 {c:Expr}{a b:List Stmt}(hc:PUT X c tc)(ha:qW X a t)(hb:qW X b u):PUS X (.If c a b pos) (gH tc t u):=
 nS (d88 hc ha hb) λD σ H ⟨C,ρ,D0,I,h,k⟩=>⟨C,ρ,_,I,h,λc ρ1 H1 q f s=>by
  have I1:=(I.frz f).same s;cases c with
  | true=>
   dsimp only at q⊢;rw[a7 rfl]at q⊢;exact⟨C,ρ1,D0,I1,q,k⟩
  | false=>
   dsimp only at q⊢;rw[a6 bC]at q⊢;exact⟨C,ρ1,D0,I1,q,k⟩⟩
theorem bO4:PUS X st (λ_ _=>False):=nS cI2 λD σ H ⟨C,ρ,D0,I,h,k⟩=>h
abbrev UG:=B->Ev->(Ev->Prop)->Prop
def lG (K:Frag)(T:List Nat)(g:UG):TG:=λv σ H Q=> ∃C ρ b H00 Q0,EOk K C ρ σ H00/\gP H00 H/\tH K (Av C ρ σ) H00 H b v/\g b ρ Q0/\ ∀ρ' σ' H',Q0 ρ'->EOk K C ρ' σ' H'->(∀j:Nat,j ∉ T->σ'[j]? =σ[j]?)->Q σ' H'
def PUG (X:Cx)(e:Expr)(T:List Nat)(g:UG):Prop:=PG X e (lG X.K T g)
theorem d91 {t t':TG}(h:PG X e t)(i: ∀v σ H Q,t' v σ H Q->t v σ H Q):PG X e t':=λpins s σ H v u Q I r q=>h pins s σ H v u Q I r (i v σ H Q q)
def cR (i:Nat):UG:=λb ρ Q=>i<ρ.length/\Q (ρ.set i<|some b)
theorem aJ5 (i:Nat)(h:PG X e (a14 i)):PUG X e [i] (cR i):=d91 h λv σ H Q z=>by
 obtain⟨C,ρ,b,H00,Q0,I,s,r,⟨hi,q⟩,k⟩:=z;exact k _ _ _ q (I.store s r (by rw[<-I.len];exact hi)) λj hj=>get_set_ne λz=>hj (by simp[z])
abbrev UGs:=List D->Ev->(Ev->Prop)->Prop
def lGs (K:Frag)(T:List Nat)(g:UGs):TGs:=λvs σ H Q=> ∃C ρ ds Q0,EOk K C ρ σ H/\bG K (Av C ρ σ) H ds vs/\g ds ρ Q0/\ ∀ρ' σ' H',Q0 ρ'->EOk K C ρ' σ' H'->(∀j:Nat,j ∉ T->σ'[j]? =σ[j]?)->Q σ' H'
def cZ8 (X:Cx)(es:List Expr)(T:List Nat)(g:UGs):Prop:=PGs X es (lGs X.K T g)
def rK:UGs:=λds ρ Q=>ds=[]/\Q ρ
theorem Av.store_pu {C:C0}{ρ:Ev}{σ:L2.St}{i:Nat}{d:D}{v:V}{a:Addr}(h:Av C (ρ.set i<|some<|.pu d) (σ.set i<|some v) a):Av C ρ σ a:=by
 rcases h with z| ⟨j,l,h1,h2⟩
 ·exact .inl z
 ·rcases bB h1 with⟨rfl,h3,_⟩| ⟨ne,h3⟩
  ·cases h3
  ·rw[get_set_ne ne]at h2;exact .inr ⟨j,l,h3,h2⟩
theorem cL0 {es:List Expr}{t t':TGs}(h:PGs X es t)(i: ∀v σ H Q,t' v σ H Q->t v σ H Q):PGs X es t':=λpins s σ H v u Q I r q=>h pins s σ H v u Q I r (i v σ H Q q)
theorem pZ:cZ8 X [] [] rK:=cL0 cX7 λvs σ H Q z=>by
 obtain⟨C,ρ,ds,Q0,I,r,⟨e,q⟩,k⟩:=z;subst e;exact⟨r.unnil,k ρ σ H q I λ_ _=>rfl⟩
def fB (i:Nat)(u:UGs):UGs:=λds ρ Q=>match ds with
 | d::r=>i<ρ.length/\u r (ρ.set i<|some<|.pu d) Q
 | []=>False
theorem eK {es:List Expr}{u:UGs}{T:List Nat}(i:Nat)(h1:PG X e (a14 i))(h2:cZ8 X es T u)
  (hs:(assignEach (e::es) X.env).map (·.2)=assign e X.env::(assignEach es X.env).map (·.2):=by rfl):cZ8 X (e::es) (i::T) (fB i u):=
 cL0 (cI4 h1 h2 hs) λvs σ H Q z=>by
  obtain⟨C,ρ,ds,Q0,I,r,g,k⟩:=z;cases ds with
  | nil=>exact(show False from g).elim
  | cons d dr=>
   obtain⟨hi,g⟩:i<ρ.length/\u dr (ρ.set i<|some<|.pu d) Q0:=g;obtain⟨v,vr,rfl,rv,rr⟩:=r.uncons;have I1:EOk X.K C (ρ.set i<|some<|.pu d) (σ.set i<|some v) H:=I.store (b:= .pu d) (.refl _) rv (by rw[<-I.len];exact hi)
   exact⟨v,vr,rfl,C,_,dr,Q0,I1,rr.mono<|.sub (.refl _) λa z=>Av.store_pu z,g,λρ' σ' H' q I' hT=>k ρ' σ' H' q I' λj hj=>(hT j λz=>hj (b6 _ z)).trans (get_set_ne λz=>hj (by simp[z]))⟩
def rL (u:UGs):UG:=λb ρ Q=>match b.d with
 | .tup ds=>u ds ρ Q
 | _=>False
theorem v8 {es:List Expr}{u:UGs}{T:List Nat}{n k:Nat}(hc:X.calm=true)(h:cZ8 X es T u)(hu: ∀ds ρ Q,u ds ρ Q->ds.length=n)
  (hn:(assignEach es X.env).length=n:=by rfl) (hst:(assignEach es X.env).findIdx? (·.1)=none:=by rfl):PUG X (.Tuple es k pos) T (rL u):=
 d91 (pg_tup hc h hn hst) λv σ H Q z=>by
  obtain⟨C,ρ,b,H00,Q0,I,s,r,g,k⟩:=z;have R:=r.rep λa z=>I.avSome z
  unfold rL at g;split at g
  ·rename_i ds e
   rw[e]at R;simp only[Rep]at R;obtain⟨a,vs,rfl,c,rs⟩:=R;exact⟨a,vs,rfl,c.imp bO id,by rw[<-rs.length];exact hu _ _ _ g,C,ρ,ds,Q0,I.same s,rs,g,k⟩
  ·exact g.elim
def cC9 (t:UE)(g:UG):US:=λD ρ=>t ρ λb ρ1=>g b ρ1 D.nx
theorem bG4 {tg:Expr}{g:UG}{T:List Nat}(he:PU X e te)(hg:PUG X tg T g)(hs:swapsWithSole [tg] e pos.line X.env=pure false:=by rfl)(hw:swappedStores [tg] e X.env=pure none:=by rfl)
  (h1:(assignEach [tg] X.env).map (·.2)=[assign tg X.env]:=by rfl):PUS X (.Assign [tg] e pos) (cC9 te g):=
 nS (cI5 he hg hs hw h1) λD σ H ⟨C,ρ,D0,I,h,k⟩=>⟨C,ρ,_,I,h,λb ρ1 v H1 q f s r=>⟨C,ρ1,b,H,D0.nx,I.frz f,s,r,q,λρ' σ' H' q I' _=>k.nx ρ' σ' H' q I'⟩⟩
def cE (i:Nat)(t:UE):US:=λD ρ=>t ρ λb ρ1=>D.nx (ρ1.set i<|some b)
theorem a16 {x:Str}{pos':Pos}(i:Nat)(hN:X.N.Nodup)(hi:X.N[i]? =some x)(hx:Loc X.env.scope x)(he:PU X e te)(hs:swapsWith e (some<|.Name x pos') pos.line X.env=pure false:=by rfl)(hf:X.fn x=true\/X.env.scope.names.lookup x=some .local:=by walk_at "z")
  (hl: ∀pins σ H s,Inv X pins σ H s->i<σ.length:=by intro pins σ H s I;rw[I.len];decide):PUS X (.Assign [.Name x pos'] e pos) (cE i te):=by
 intro pins s σ H D I q;refine ps_set hN hi hx he hs hf pins s σ H D I ?_;obtain⟨C,ρ,D0,J,h,k⟩:=q;exact⟨C,ρ,_,J,h,λb ρ1 v H1 q f s1 r=>k.nx _ _ _ q ((J.frz f).store s1 r<|hl pins σ H s I)⟩
def uPar (i j:Nat)(ta:UA):US:=λD ρ=>ta ρ λds ρ1=>match ds with
 | [d,d']=>D.nx ((ρ1.set i<|some<|.pu d).set j<|some<|.pu d')
 | _=>False
def IpU (X:Cx)(op:Operator)(g:D->D->(B->Prop)->Prop):Prop:=
 ∀(A:AS) (H:Hp) (d e:D) (v w:V) (Q0:B->Prop) (Q:VK),(∀a,A a->H a≠none)->Rep X.K A H d v->Rep X.K A H e w->g d e Q0->
  (∀b v' H',Q0 b->gP H H'->tH X.K A H H' b v'->Q v' H')-> ∃r,PIp X op r/\r v w H Q
theorem ipAny {op:Operator}:PIp X op (λx y H Q=> ∃r,PIp X op r/\r x y H Q):=λpins s σ H x y v u Q I rx ry ⟨r,hr,q⟩=>hr pins s σ H x y v u Q I rx ry q
def bO5 (i:Nat)(g:D->D->(B->Prop)->Prop)(te:UE):US:=λD ρ=>aS4 ρ i λx ρ0=>te ρ0 λy ρ1=>g x.d y.d λb=>D.nx (ρ1.set i<|some b)
theorem cL1 {x:Str}{pos':Pos}{op:Operator}{g:D->D->(B->Prop)->Prop}(i:Nat)(hN:X.N.Nodup)(hi:X.N[i]? =some x)(hx:Loc X.env.scope x)(he:PU X e te)(ho:IpU X op g)(hf:X.fn x=true\/X.env.scope.names.lookup x=some .local:=by walk_at "z")
  (hl: ∀pins σ H s,Inv X pins σ H s->i<σ.length:=by intro pins σ H s I;rw[I.len];decide):PUS X (.AugAssign (.Name x pos') op e pos) (bO5 i g te):=by
 intro pins s σ H D I q;refine ps_aug hN hi hx he ipAny hf pins s σ H D I ?_;obtain⟨C,ρ,D0,J,h,k⟩:=q;have go: ∀(d:M.D) (ρ0:Ev) (v:V),Frz ρ ρ0->σ[i]? =some (some v)->Rep X.K (Av C ρ0 σ) H d v->(te ρ0 λy ρ1=>g d y.d λb=>D0.nx (ρ1.set i<|some b))->
   tAug i (lE X.K te) (λx y H Q=> ∃r,PIp X op r/\r x y H Q) D σ H:=λd ρ0 v f0 h1 r0 h=>by
  have J0:=J.frz f0;refine⟨v,h1,C,ρ0,_,J0,h,λy ρ1 w H1 q1 f1 s1 r1=> ?_⟩
  have J1:=(J0.frz f1).same s1;refine ho (Av C ρ1 σ) H1 d y.d v w _ _ (λa z=>J1.avSome z) (r0.mono<|.sub s1 λa=>f1.av) (r1.rep λa z=>J0.avF f1 z) q1 λb v' H' q s r=> ?_
  exact k.nx _ _ _ q (J1.store s r<|hl pins σ _ _ I)
 unfold bO5 aS4 at h;split at h
 ·rename_i d e
  obtain⟨v,h1,h2⟩:=J.pu i d e;exact go d ρ v (.refl _) h1 h2 h
 ·rename_i l e
  obtain⟨_,_,v,h1,h2⟩:=J.freeze e;exact go (.lst l) _ v (.set e) h1 h2 h
 ·exact h.elim
def aZ4 (c:UT)(tb:US):US:=λD ρ=> ∃W:Nat->Ev->Prop,(∃m,W m ρ)/\ ∀m ρ,W m ρ->
 c ρ λb ρ1=>if b=true then tb {D with nx:=λρ'=> ∃m',m'<m/\W m' ρ',ct:=λρ'=> ∃m',m'<m/\W m' ρ',bk:=D.nx} ρ1 else D.nx ρ1
theorem aJ6 {c:Expr}{body:List Stmt}{tb:US}(hp:PassesOwn (model X.prog X.w) X.A X.env X.xe)(hc:PUT X c tc)(hb:qW X body tb):PUS X (.While c body [] pos) (aZ4 tc tb):=
 nS (cI7 hp hc hb) λD σ H ⟨C,ρ,D0,I,⟨W,⟨m0,w0⟩,turn⟩,k⟩=>by
  refine⟨λm σ H=> ∃ρ,EOk X.K C ρ σ H/\W m ρ,⟨m0,ρ,I,w0⟩,?_⟩
  rintro m σ H ⟨ρ,I,w⟩;refine⟨C,ρ,_,I,turn m ρ w,λb ρ1 H1 q f s=> ?_⟩
  have I1:=(I.frz f).same s;cases b with
  | true=>
   dsimp only at q⊢;rw[a7 rfl]at q⊢;refine⟨λσ' H'=> ∃m',m'<m/\ ∃ρ',EOk X.K C ρ' σ' H'/\W m' ρ',λσ' H' z=>z,C,ρ1,_,I1,q,⟨?_,k.rt,k.nx,?_⟩⟩
   ·rintro ρ' σ' H' ⟨m',hm,w'⟩ I';exact⟨m',hm,ρ',I',w'⟩
   ·rintro ρ' σ' H' ⟨m',hm,w'⟩ I';exact⟨m',hm,ρ',I',w'⟩
  | false=>
   dsimp only at q⊢;rw[a6 bC]at q⊢;exact k.nx _ _ _ q I1
end
abbrev UI:=Ev->(Nat->(Nat->D)->Ev->Prop)->Prop
structure bO6 (K:Frag)(A:AS)(H:Hp)(J:It)(n:Nat)(it:Nat->D):Prop where
 go: ∀A' H' i,lY A H A' H'->i<n->J.go i H'
 yld: ∀A' H' i x H'',lY A H A' H'->(∀a,A' a->H' a≠none)->i<n->J.yld i H' x H''->gP H' H''/\Rep K A' H'' (it i) x
 stop: ∀A' H',lY A H A' H'->J.stop n H'
def lI (K:Frag)(t:UI):TI:=λσ H R=> ∃C ρ Q0,EOk K C ρ σ H/\t ρ Q0/\
 ∀n it ρ' J H',Q0 n it ρ'->Frz ρ ρ'->gP H H'->bO6 K (Av C ρ' σ) H' J n it->R J H'
def PUI (X:Cx)(tg iter:Expr)(t:UI):Prop:=PI X tg iter (lI X.K t)
def kI (ui:UI)(g:UG)(tb:US):US:=λD ρ=>ui ρ λn it ρ1=> ∃Pv:Nat->Ev->Prop,Pv 0 ρ1/\
 (∀i ρ,i<n->Pv i ρ->g (.pu<|it i) ρ λρ2=>tb {D with nx:=Pv (i+1),ct:=Pv (i+1),bk:=D.nx} ρ2)/\ ∀ρ,Pv n ρ->D.nx ρ
noncomputable def C0.rz (C:C0) (ρ:Ev) (σ:L2.St) (H:Hp):C0:=C.raise ρ σ H λ_=>Classical.propDecidable _
section
variable {X:Cx}{e:Expr}{pos:Pos}{te:UE}{K:Frag}{C:C0}{ρ ρ':Ev}{σ σ':L2.St}{H H':Hp}
theorem EOk.rz (I:EOk K C ρ σ H):EOk K (C.rz ρ σ H) ρ σ H/\gP C.H0 (C.rz ρ σ H).H0:=I.raise
theorem cZ9 (I':EOk K (C.rz ρ σ H) ρ' σ' H'):lY (Av C ρ σ) H (Av (C.rz ρ σ H) ρ' σ') H':=λb o nb e=>by
 have e0:(C.rz ρ σ H).H0 b=some o:=by
  show @ite _ (Own ρ σ b) (Classical.propDecidable _) none (H b)=some o
  rw[a6 λz=>nb (.inr z)]
  exact e
 refine⟨?_,I'.ext b o e0⟩
 rintro(z| ⟨i,l,h1,h2⟩)
 ·exact nb (.inl z)
 ·obtain⟨a,vs,h3,h4,h5,_⟩:=I'.ow i l h1;rw[h2]at h3;cases h3;rw[e0]at h5;cases h5
theorem aZ5 {tg iter:Expr}{body:List Stmt}{ui:UI}{g:UG}{T:List Nat}{tb:US}(hp:PassesOwn (model X.prog X.w) X.A X.env X.xe)(hc:X.calm=true)(hi:PUI X tg iter ui)(hg:PUG X tg T g)(hb:qW X body tb)
  (hs: ∀x,foldedSetIterable iter X.env x=pure x:=by intro _;rfl):PUS X (.For tg iter body [] pos) (kI ui g tb):=
 nS (bY1 hp hc hi hg hb hs) λD σ H ⟨C,ρ,D0,I,h,k⟩=>⟨C,ρ,_,I,h,λn it ρ1 J H1 q f s ok=>by
  obtain⟨Pv,p0,turn,fin⟩:=q;have I1:=(I.frz f).same s;obtain⟨Ir,sub⟩:=I1.rz;refine⟨λi m σ' H'=>m=n-i/\i<=n/\ ∃ρ',EOk X.K (C.rz ρ1 σ H1) ρ' σ' H'/\Pv i ρ',⟨n,rfl,d6 _,ρ1,Ir,p0⟩,?_⟩
  rintro i m σ' H' ⟨rfl,hi,ρ',I',p'⟩;have P:=cZ9 I';have lo: ∀ρ2 σ2 H2,EOk X.K (C.rz ρ1 σ H1) ρ2 σ2 H2->EOk X.K C ρ2 σ2 H2:=λρ2 σ2 H2 J2=>J2.lower sub rfl I.a0
  by_cases hlt:i<n
  ·refine .inr ⟨ok.go _ _ i P hlt,λσ2 H2=> ∃ρ2,EOk X.K (C.rz ρ1 σ H1) ρ2 σ2 H2/\Pv (i+1) ρ2,λσ2 H2 z=>⟨n-(i+1),aa,rfl,hlt,z⟩,λx H2 y=> ?_⟩
   obtain⟨s2,r2⟩:=ok.yld _ _ i x H2 P (λa z=>I'.avSome z) hlt y
   refine⟨C.rz ρ1 σ H1,ρ',.pu<|it i,H',_,I',s2,r2,turn i ρ' hlt p',λρ2 σ2 H3 q I3 _=>⟨C.rz ρ1 σ H1,ρ2,_,I3,q,⟨?_,?_,?_,?_⟩⟩⟩
   ·exact λρ3 σ3 H4 q I4=>⟨ρ3,I4,q⟩
   ·exact λb v H4 q s4 r4=>k.rt b v H4 q (sub.trans s4) (r4.from sub)
   ·exact λρ3 σ3 H4 q I4=>k.nx ρ3 σ3 H4 q (lo _ _ _ I4)
   ·exact λρ3 σ3 H4 q I4=>⟨ρ3,I4,q⟩
  ·have e:i=n:=aa
   subst e;exact .inl ⟨ok.stop _ _ P,k.nx _ _ _ (fin ρ' p')<|lo _ _ _ I'⟩⟩
noncomputable def mC:D->Option (List D)
 | .tup l=>some l
 | .lst l=>some l
 | .rol l=>some l
 | _=>none
def iL (t:UE):UI:=λρ Q=>t ρ λb ρ1=>match mC b.d with
 | some l=>Q l.length (λi=>l.getD i .non) ρ1
 | none=>False
theorem pi_any {l:Expr}{tl:TE}{tg:Expr}(hl:PE X l tl):PI X tg l (λσ H R=>tl σ H λx H1=> ∃a,x= .ref a/\((∃xs,SqL X.K H1 a xs/\R (Itl X.K a) H1)\/ ∃xs,SqT X.K H1 a xs/\R (Itt X.K a) H1)):=by
 intro pins s σ H R I h;refine thn (hl pins s σ H _ I h) λv s1 ⟨x,H1,I1,r1,q1⟩=> ?_
 obtain⟨a,e,q⟩:=q1;subst e;cases r1;rcases q with⟨xs,hq,q⟩| ⟨xs,hq,q⟩
 ·obtain⟨its,rv,p,hz⟩:=I1.list hq;refine sO p.isList ?_;refine⟨s1.heap.objs.size,[s1.heap.objs.size],_,_,H1,rfl,I1.kept (t':=s1.toks) λb o e=>aM _ e,bB1 a _,⟨_,bN _ rfl,rfl,rfl⟩,λb hb=> ?_,q⟩
  have e:b=s1.heap.objs.size:=by simpa using hb
  subst e;exact I1.fpOk (aB _) (I1.hok.fresh<|aB _)
 ·obtain⟨its,rv,p,hz⟩:=I1.tuple hq;refine wpAny_pyIter_tuple (show s1.heap.IsTuple a its.toArray from p) ?_
  refine⟨s1.heap.objs.size,[s1.heap.objs.size],_,_,H1,rfl,I1.kept (t':=s1.toks) λb o e=>aM _ e,bX9 a _,⟨_,bN _ rfl,rfl,rfl⟩,λb hb=> ?_,q⟩
  have e:b=s1.heap.objs.size:=by simpa using hb
  subst e;exact I1.fpOk (aB _) (I1.hok.fresh<|aB _)
theorem aS5 {tg iter:Expr}{t t':TI}(h:PI X tg iter t)(i: ∀σ H R,t' σ H R->t σ H R):PI X tg iter t':=λpins s σ H R I q=>h pins s σ H R I (i σ H R q)
theorem bC0 {A:AS}{a:Addr}{vs:List V}{l:List D}(c:(¬A a/\Rd H a (.lst vs))\/KL K a vs)(r:bG K A H l vs):bO6 K A H (Itl K a) l.length (λi=>l.getD i .non):=by
 have sq: ∀A' H',lY A H A' H'->SqL K H' a vs:=λA' H' P=>by
  rcases c with⟨n,c⟩|c
  ·exact .inl (Rd.pres P n c).2
  ·exact .inr c
 have get: ∀i,i<l.length-> ∃x,vs[i]? =some x/\Rep K A H (l.getD i .non) x:=λi hi=>r.get (by rw[aI,aJ hi];rfl)
 refine⟨λA' H' i P hi=> ?_,λA' H' i x H'' P hA hi y=> ?_,λA' H' P=>⟨vs,sq _ _ P,by rw[r.length];exact aB _⟩⟩
 ·obtain⟨x,e,_⟩:=get i hi;exact⟨vs,x,sq _ _ P,e⟩
 ·obtain⟨x',e,r'⟩:=get i hi;obtain⟨rfl,y⟩:=y;have:=y vs (sq _ _ P);rw[e]at this;cases this;exact⟨.refl _,r'.mono P⟩
theorem cL2 {A:AS}{a:Addr}{vs:List V}{l:List D}(c:(¬A a/\Rd H a (.tup vs))\/KT K a vs)(r:bG K A H l vs):bO6 K A H (Itt K a) l.length (λi=>l.getD i .non):=by
 have sq: ∀A' H',lY A H A' H'->SqT K H' a vs:=λA' H' P=>by
  rcases c with⟨n,c⟩|c
  ·exact .inl (Rd.pres P n c).2
  ·exact .inr c
 have get: ∀i,i<l.length-> ∃x,vs[i]? =some x/\Rep K A H (l.getD i .non) x:=λi hi=>r.get (by rw[aI,aJ hi];rfl)
 refine⟨λA' H' i P hi=> ?_,λA' H' i x H'' P hA hi y=> ?_,λA' H' P=>⟨vs,sq _ _ P,by rw[r.length];exact aB _⟩⟩
 ·obtain⟨x,e,_⟩:=get i hi;exact⟨vs,x,sq _ _ P,e⟩
 ·obtain⟨x',e,r'⟩:=get i hi;obtain⟨rfl,y⟩:=y;have:=y vs (sq _ _ P);rw[e]at this;cases this;exact⟨.refl _,r'.mono P⟩
theorem j1 {tg:Expr}(h:PU X e te):PUI X tg e (iL te):=aS5 (pi_any h) λσ H R ⟨C,ρ,Q0,I,h,k⟩=>⟨C,ρ,_,I,h,λb ρ1 v H1 q f s r=>by
 have rr:=r.rep λa z=>I.avF f z
 generalize b.d=d at q rr;cases d with
 | tup l=>
  simp only[Rep]at rr;obtain⟨a,vs,rfl,c,rs⟩:=rr;exact⟨a,rfl,.inr ⟨vs,c.imp bO id,k _ _ ρ1 _ H1 q f s<|cL2 c rs⟩⟩
 | lst l=>
  simp only[Rep]at rr;obtain⟨a,vs,rfl,n,c,rs⟩:=rr;exact⟨a,rfl,.inl ⟨vs,.inl<|.inl c,k _ _ ρ1 _ H1 q f s<|bC0 (.inl ⟨n,.inl c⟩) rs⟩⟩
 | rol l=>
  simp only[Rep]at rr;obtain⟨a,vs,rfl,c,rs⟩:=rr;exact⟨a,rfl,.inl ⟨vs,c.imp bO id,k _ _ ρ1 _ H1 q f s<|bC0 c rs⟩⟩
 | _=>exact(show False from q).elim⟩
theorem aZ6 {A:AS}{lo:Int}{n:Nat}:bO6 K A H (Itr lo n) n (λi=> .int (lo+i)):=
 ⟨λ_ _ _ _ h=>h,λ_ _ i x H'' _ _ _ ⟨e,y⟩=>by subst e;subst y;exact⟨.refl _,by simp only[Rep]⟩,λ_ _ _=>aB n⟩
def kG (ta:UA):UI:=λρ Q=>ta ρ λds ρ1=>match ds with
 | [.int j]=>(-(2^62)<=j/\j<2^62)/\Q j.toNat (λi=> .int (0+i)) ρ1
 | _=>False
def aJ7 (ta:UA):UI:=λρ Q=>ta ρ λds ρ1=>match ds with
 | [.int i,.int j]=>(-(2^62)<=i/\i<2^62/\ -(2^62)<=j/\j<2^62)/\Q (j-i).toNat (λk=> .int (i+k)) ρ1
 | _=>False
theorem bF {A:AS}{i:Int}{v:V}(h:Rep K A H (.int i) v):v= .int i:=by simpa only[Rep]using h
theorem fY {tg a:Expr}{ta:UA}{p:Pos}(hg:Gl X "range")(hm:X.mg "range"=none)(ha:PUA X [a] ta)(hs:starEach [a] X.env=[(false,eval a X.env)]:=by rfl):PUI X tg (.Call (.Name "range" p) [a] [] pos) (kG ta):=
 aS5 (bB2 hg hm ha hs) λσ H R ⟨C,ρ,Q0,I,h,k⟩=>⟨C,ρ,_,I,h,λds ρ1 vs H1 q f s r=>by
  split at q
  ·rename_i j
   obtain⟨v,vr,rfl,rv,rr⟩:=r.uncons;have:=rr.unnil;subst this;have:=bF rv;subst this;obtain⟨⟨h1,h2⟩,q⟩:=q;exact⟨j,rfl,h1,h2,k _ _ ρ1 _ H1 q f s aZ6⟩
  ·exact q.elim⟩
theorem wE {tg a b:Expr}{ta:UA}{p:Pos}(hg:Gl X "range")(hm:X.mg "range"=none)(ha:PUA X [a,b] ta)(hs:starEach [a,b] X.env=[(false,eval a X.env),(false,eval b X.env)]:=by rfl)(hs2:starEach [b] X.env=[(false,eval b X.env)]:=by rfl) :
  PUI X tg (.Call (.Name "range" p) [a,b] [] pos) (aJ7 ta):=
 aS5 (cB9 hg hm ha hs hs2) λσ H R ⟨C,ρ,Q0,I,h,k⟩=>⟨C,ρ,_,I,h,λds ρ1 vs H1 q f s r=>by
  split at q
  ·rename_i i j
   obtain⟨v,vr,rfl,rv,rr⟩:=r.uncons;obtain⟨w,wr,rfl,rw',rr'⟩:=rr.uncons;have:=rr'.unnil;subst this;have:=bF rv;subst this;have:=bF rw';subst this;obtain⟨hb,q⟩:=q;exact⟨i,j,rfl,hb,k _ _ ρ1 _ H1 q f s aZ6⟩
  ·exact q.elim⟩
end
section
variable {X:Cx}{a b e o:Expr}{es:List Expr}{pos:Pos}{ta tb te ti:UE}{K:Frag}{C:C0}{ρ ρ':Ev}{σ σ':L2.St}{H H':Hp}{A:AS}
theorem Frz.ow {i:Nat}{l:List D}(f:Frz ρ ρ')(h:ρ'[i]? =some (some<|.ow l)):ρ[i]? =some (some<|.ow l):=by
 rcases f.2 i with q| ⟨l',_,q⟩
 ·exact q▸h
 ·rw[q]at h;cases h
def qK (ρ:Ev)(i:Nat)(Q:List D->Prop):Prop:=match ρ[i]? with
 | some (some<|.ow l)=>Q l
 | _=>False
theorem jY {i:Nat}{Q:List D->Prop}(h:qK ρ i Q): ∃l,ρ[i]? =some (some<|.ow l)/\Q l:=by
 unfold qK at h;split at h
 ·rename_i l e
  exact⟨l,e,h⟩
 ·exact h.elim
def aZ7 (i:Nat)(t:UE):US:=λD ρ=>qK ρ i λ_=>t ρ λb ρ1=>qK ρ1 i λl=>l.length<sizeLine/\D.nx (ρ1.set i<|some<|.ow<|l++[b.d])
theorem pJ {x:Str}{p apos cpos:Pos}(i:Nat)(hx:PE X (.Name x p) (a08 i))(he:PU X e te)
  (hbase:attributeBase (.Name x p) "append" X.env (eval (.Name x p) X.env)=eval (.Name x p) X.env:=by rfl)
  (hfew:((backTo cpos<|starEach [e] X.env).all (λx=> !x.1)&&(backToKw cpos<|keywordEach [] X.env).all (λx=>x.1.isSome)
   &&decide ([e].length+([]:List Keyword).length+(if([]:List Keyword).isEmpty then 0 else 1)<30))=true:=by rfl)
  (hline:(apos.endLine==cpos.line)=true:=by rfl) (hs:starEach [e] X.env=(false,eval e X.env)::starEach [] X.env:=by rfl) (hplain:(backTo cpos<|starEach [] X.env).any (·.1)=false:=by rfl)
  (hw:swapsWith (.Call (.Attribute (.Name x p) "append" apos) [e] [] cpos) none pos.line X.env=pure false:=by rfl) :
  PUS X (.Expr (.Call (.Attribute (.Name x p) "append" apos) [e] [] cpos) pos) (aZ7 i te):=
 nS (a81 (cK3 x8 aC3 aC4 a82 hx (aJ3 he aY8 hs) hbase hfew hline hs hplain) hw) λD σ H ⟨C,ρ,D0,I,h,k⟩=>by
  obtain⟨l,hl,h⟩:=jY h;obtain⟨a,vs,h1,h2,h3,h4⟩:=I.ow i l hl;refine⟨.ref a,h1,.inl ⟨rfl,vs,SqL.of h2⟩,C,ρ,_,I,h,λb ρ1 v H1 q f s r=> ?_⟩
  obtain⟨l',hl',hz,q⟩:=jY q;have e:=f.ow hl';rw[hl]at e;cases e;have I1:=(I.frz f).same s;obtain⟨a',vs',g1,g2,g3,g4⟩:=I1.ow i l hl';rw[h1]at g1;cases g1;refine⟨a,vs',v,rfl,rfl,g2,by rw[<-g4.length];exact hz,k.nx _ _ _ q ?_⟩
  exact I1.write hl' h1 (g4.append<|.cons (r.rep λa z=>I.avF f z) .nil)
def bC1 (i:Nat)(t ti:UE):US:=λD ρ=>t ρ λb ρ1=>qK ρ1 i λ_=>ti ρ1 λj ρ2=>qK ρ2 i λl=>match j.d with
 | .int k=>(match ixN l.length k with
  | some n=>D.nx (ρ2.set i<|some<|.ow<|l.set n b.d)
  | none=>False)
 | _=>False
theorem yG {x:Str}{p tpos:Pos}{ix:Expr}(i:Nat)(hx:PE X (.Name x p) (a08 i))(he:PU X e te)(hi:PU X ix ti)
  (ha: ∀v,assign (.Subscript (.Name x p) ix tpos) X.env v=(do
   let ov<-holding [v] (eval (.Name x p) X.env)
   let iv<-holding [v,ov] (eval ix X.env)
   standAt tpos
   holding [v,ov,iv] (setItem ov iv v)
   release [v,ov,iv] []):=by intro _;rfl)
  (hs:swapsWithSole [.Subscript (.Name x p) ix tpos] e pos.line X.env=pure false:=by rfl) (hw:swappedStores [.Subscript (.Name x p) ix tpos] e X.env=pure none:=by rfl)
  (h1:(assignEach [.Subscript (.Name x p) ix tpos] X.env).map (·.2)=[assign (.Subscript (.Name x p) ix tpos) X.env]:=by rfl):PUS X (.Assign [.Subscript (.Name x p) ix tpos] e pos) (bC1 i te ti):=
 nS (cI5 he (pg_sub hx hi bO2 ha) hs hw h1) λD σ H ⟨C,ρ,D0,I,h,k⟩=>⟨C,ρ,_,I,h,λb ρ1 v H1 q f s r=>by
  obtain⟨l,hl,q⟩:=jY q;have I1:=(I.frz f).same s;obtain⟨a,vs,h1,h2,h3,h4⟩:=I1.ow i l hl;refine⟨.ref a,h1,C,ρ1,_,I1,q,λj ρ2 w H2 q2 f2 s2 r2=> ?_⟩
  obtain⟨l',hl',q2⟩:=jY q2;have e:=f2.ow hl';rw[hl]at e;cases e;have I2:=(I1.frz f2).same s2;obtain⟨a',vs',g1,g2,g3,g4⟩:=I2.ow i l hl';rw[h1]at g1;cases g1;have rj:=r2.rep λa z=>I1.avF f2 z
  generalize j.d=dj at q2 rj;split at q2
  ·rename_i kk
   have:=bF rj;subst this;split at q2
   ·rename_i n hn
    refine⟨a,vs',kk,n,rfl,rfl,g2,by rw[<-g4.length];exact hn,k.nx _ _ _ q2 ?_⟩
    exact I2.write hl' h1 (g4.set n<|(r.rep λa z=>I.avF f z).mono<|.sub s2 λa=>f2.av)
   ·exact q2.elim
  ·exact q2.elim⟩
def gIx (d i:D)(Q:D->Prop):Prop:=match mC d,i with
 | some l,.int k=>(match atI l k with
  | some x=>Q x
  | none=>False)
 | _,_=>False
def uIx (t:UV)(ti:UE):UE:=λρ Q=>t ρ λd ρ1=>ti ρ1 λi ρ2=>gIx d i.d λx=>Q (.pu x) ρ2
theorem bG.atI {l:List D}{vs:List V}{k:Int}{x:D}(r:bG K A H l vs)(h:atI l k=some x): ∃v,L2.atI vs k=some v/\Rep K A H x v:=by
 unfold L2.atI at h⊢;cases e:ixN l.length k with
 | none=>rw[e]at h;cases h
 | some j=>
  rw[e]at h;rw[<-r.length,e];exact r.get h
theorem bZ3.mono {A':AS}(s:gP H H')(h: ∀a,A' a->A a): ∀{d:D} {v:V},bZ3 K A H d v->bZ3 K A' H' d v
 | .non,_,r=>Rep.mono (.sub s h) r
 | .bl _,_,r=>Rep.mono (.sub s h) r
 | .int _,_,r=>Rep.mono (.sub s h) r
 | .str _,_,r=>Rep.mono (.sub s h) r
 | .ty _,_,r=>Rep.mono (.sub s h) r
 | .tup _,_,⟨a,vs,e,c,r⟩=>⟨a,vs,e,c.imp (λc=>c.imp (s _ _) λ⟨o,z⟩=>⟨o,s _ _ z⟩) id,r.mono<|.sub s h⟩
 | .lst _,_,⟨a,vs,e,c,r⟩=>⟨a,vs,e,s _ _ c,r.mono<|.sub s h⟩
 | .rol _,_,⟨a,vs,e,c,r⟩=>⟨a,vs,e,s.seq c,r.mono<|.sub s h⟩
 | .obj _ _ _,_,r=>Rep.mono (.sub s h) r
 | .adr _,_,r=>Rep.mono (.sub s h) r
 | .xob _ _ _ _,_,r=>Rep.mono (.sub s h) r
theorem bZ3.seq {d:D}{v:V}{l:List D}(r:bZ3 K A H d v)(h:mC d=some l): ∃a vs,v= .ref a/\(SqL K H a vs\/SqT K H a vs)/\bG K A H l vs:=by
 cases d with
 | tup l'=>cases h;obtain⟨a,vs,e,c,r⟩:=r;exact⟨a,vs,e,.inr c,r⟩
 | lst l'=>cases h;obtain⟨a,vs,e,c,r⟩:=r;exact⟨a,vs,e,.inl<|SqL.of c,r⟩
 | rol l'=>cases h;obtain⟨a,vs,e,c,r⟩:=r;exact⟨a,vs,e,.inl c,r⟩
 | _=>cases h
theorem d00 {d i:D}{Q:D->Prop}(h:gIx d i Q): ∃l k x,mC d=some l/\i= .int k/\atI l k=some x/\Q x:=by
 unfold gIx at h;split at h
 ·rename_i l k e
  split at h
  ·rename_i x ex
   exact⟨l,k,x,e,rfl,ex,h⟩
  ·exact h.elim
 ·exact h.elim
theorem aZ8 {t:UV}(ha:PUV X a t)(hb:PU X b ti)(hs:bF6 b):PU X (.Subscript a b pos) (uIx t ti):=
 iJ (pe_ix ix_seq ha hb hs) λσ H Q ⟨C,ρ,Q0,I,h,k⟩=>⟨C,ρ,_,I,h,λd ρ1 v H1 q f s r=>by
  have I1:=(I.frz f).same s;refine⟨C,ρ1,_,I1,q,λi ρ2 w H2 q2 f2 s2 r2=> ?_⟩
  obtain⟨l,kk,x,e1,e2,e3,q2⟩:=d00 q2;have ri:=r2.rep λa z=>I1.avF f2 z
  rw[e2]at ri;have:=bF ri;subst this;obtain⟨a,vs,rfl,c,rs⟩:=(r.mono (A':=Av C ρ2 σ) s2 λa=>f2.av).seq e1
  obtain⟨u,e4,r4⟩:=rs.atI e3;have fin:=k (.pu x) ρ2 u H2 q2 (f.trans f2) (s.trans s2) r4;rcases c with c|c
  ·exact .inl ⟨a,vs,kk,u,rfl,rfl,c,e4,fin⟩
  ·exact .inr (.inl ⟨a,vs,kk,u,rfl,rfl,c,e4,fin⟩)⟩
abbrev UO:=Ev->(Option Int->Ev->Prop)->Prop
def lO (K:Frag)(t:UO):TO:=λσ H Q=> ∃C ρ Q0,EOk K C ρ σ H/\t ρ Q0/\ ∀i ρ' H',Q0 i ρ'->Frz ρ ρ'->gP H H'->Q i H'
def PUO (X:Cx)(e:Option Expr)(t:UO):Prop:=PO X e (lO X.K t)
theorem d92 {e:Option Expr}{t t':TO}(h:PO X e t)(i: ∀σ H Q,t' σ H Q->t σ H Q):PO X e t':=λpins s σ H Q I q=>h pins s σ H Q I (i σ H Q q)
def yH:UO:=λρ Q=>Q none ρ
def wF (t:UE):UO:=λρ Q=>t ρ λb ρ1=>match b.d with
 | .int i=>Q (some i) ρ1
 | _=>False
theorem a17:PUO X none yH:=d92 cZ1 λσ H Q ⟨C,ρ,Q0,I,h,k⟩=>k _ _ _ h (.refl _) (.refl _)
theorem nU (h:PU X e te):PUO X (some e) (wF te):=d92 (cZ2 h) λσ H Q ⟨C,ρ,Q0,I,h,k⟩=>⟨C,ρ,_,I,h,λb ρ1 v H1 q f s r=>by
 have r':=r.rep λa z=>I.avF f z
 generalize b.d=d at q r';split at q
 ·exact⟨_,bF r',k _ _ _ q f s⟩
 ·exact q.elim⟩
noncomputable def cutD (l:List D)(lo hi:Option Int):List D:=(l.drop<|HT.sIx l.length 0 lo).take (HT.sIx l.length l.length hi-HT.sIx l.length 0 lo)
theorem bG.cut {l:List D}{vs:List V}(r:bG K A H l vs)(lo hi:Option Int):bG K A H (cutD l lo hi) (bO1 vs lo hi):=by
 unfold cutD bO1;rw[r.length];exact(r.drop _).take _
def gSl (d:D)(lo hi:Option Int)(Q:B->Prop):Prop:=match d with
 | .tup l=> ¬(HT.sIx l.length 0 lo=0/\HT.sIx l.length l.length hi=l.length)/\Q (.pu<|.tup<|cutD l lo hi)
 | .lst l=>Q (.ow<|cutD l lo hi)
 | .rol l=>Q (.ow<|cutD l lo hi)
 | _=>False
def uSl (t:UV)(tl th:UO):UE:=λρ Q=>t ρ λd ρ1=>tl ρ1 λlo ρ2=>th ρ2 λhi ρ3=>gSl d lo hi λb=>Q b ρ3
theorem wG {t:UV}{tl th:UO}{lo hi:Option Expr}{p2:Pos}(he:PUV X e t)(hl:PUO X lo tl)(hu:PUO X hi th):PU X (.Subscript e (.Slice lo hi none p2) pos) (uSl t tl th):=
 iJ (bO0 (c63.or cJ9) he hl hu) λσ H Q ⟨C,ρ,Q0,I,h,k⟩=>⟨C,ρ,_,I,h,λd ρ1 v H1 q f s r=>by
  have I1:=(I.frz f).same s;refine⟨C,ρ1,_,I1,q,λl2 ρ2 H2 q2 f2 s2=> ?_⟩
  have I2:=(I1.frz f2).same s2;refine⟨C,ρ2,_,I2,q2,λh3 ρ3 H3 q3 f3 s3=> ?_⟩
  have I3:=(I2.frz f3).same s3;have s13:=s2.trans s3;have sAll:=s.trans s13;have fAll:=f.trans (f2.trans f3);have r':=r.mono (A':=Av C ρ3 σ) s13 λa z=>f2.av (f3.av z)
  cases d with
  | tup l=>
   obtain⟨hw,q3⟩:=q3;obtain⟨a,vs,rfl,c,rs⟩:=r';exact .inr ⟨a,vs,rfl,c,by rw[<-rs.length];exact hw,λp n=>k _ ρ3 _ _ q3 fAll (sAll.trans<|eW n _) (iK (λa z=>I3.avSome z) n<|rs.cut l2 h3)⟩
  | lst l=>
   obtain⟨a,vs,rfl,c,rs⟩:=r';exact .inl ⟨a,vs,rfl,SqL.of c,λp n=>k _ ρ3 _ _ q3 fAll (sAll.trans<|eW n _) (gX sAll n<|rs.cut l2 h3)⟩
  | rol l=>
   obtain⟨a,vs,rfl,c,rs⟩:=r';exact .inl ⟨a,vs,rfl,c,λp n=>k _ ρ3 _ _ q3 fAll (sAll.trans<|eW n _) (gX sAll n<|rs.cut l2 h3)⟩
  | _=>exact(show False from q3).elim⟩
def Sm (i:Int):Prop:=i.natAbs<2^9000
theorem Sm.log {i:Int}(h:Sm i):i.natAbs.log2<9000:=by
 by_cases z:i.natAbs=0
 ·rw[z];decide
 ·exact(Nat.log2_lt z).mpr h
def jU (d e:D)(Q:B->Prop):Prop:=match d,e with
 | .int i,.int j=>Q (.pu<|.int<|i+j)
 | .lst l,.lst m=>l.length+m.length<=sizeLine/\Q (.ow<|l++m)
 | .tup l,.tup m=>l.length+m.length<=sizeLine/\Q (.pu<|.tup<|l++m)
 | _,_=>False
theorem cL3:OpR X (binaryOp .Add) (λx y H Q=> ∃a b ys,x= .ref a/\y= .ref b/\SqT X.K H a []/\SqT X.K H b ys/\Q (.ref b) H):=by
 intro pins s σ H x y v u Q I rx ry h;obtain⟨a,b,ys,rfl,rfl,ha,hb,q⟩:=h;cases rx;cases ry;obtain⟨its,r1,p1,_⟩:=I.tuple ha;obtain⟨its2,r2,p2,_⟩:=I.tuple hb;have e:its=[]:=by
  have:=r1.length;exact sH.mp this.symm
 subst e;obtain⟨⟨cls,dd,data,sl⟩,ho,hc,n,hd⟩:=id p1;obtain⟨⟨cls2,dd2,data2,sl2⟩,ho2,hc2,n2,hd2⟩:=id p2;simp only at hc hd hc2 hd2;subst hc hd hc2 hd2;exact concat_meets ⟨_,ho,rfl⟩ ⟨_,ho2,rfl⟩ aF6 seq_tuple_add aD4 aC8 (aC2 _ _) (tuple_addW0 a b _ its2.toArray n n2 dd dd2 sl sl2 rfl) ⟨ho,ho2,⟨.ref b,H,I,rfl,q⟩⟩
theorem aJ8 {i:Int}:tH K A H H' (.pu<|.int i) (.int i):=by
 show Rep K A H' (.int i) (.int i)
 simp only[Rep]
theorem eC:OpU X (binaryOp .Add) jU:=by
 intro A H d e v w Q0 Q hA r1 r2 g k;unfold jU at g;split at g
 ·rename_i i j
  exact⟨_,op_add,i,j,bF r1,bF r2,k _ _ H g (.refl _) aJ8⟩
 ·rename_i l m
  simp only[Rep]at r1 r2;obtain⟨a,vs,rfl,n1,c1,rs1⟩:=r1;obtain⟨b,ws,rfl,n2,c2,rs2⟩:=r2;exact⟨_,op_cat,a,b,vs,ws,rfl,rfl,c1,c2,by rw[<-rs1.length,<-rs2.length];exact g.1,λp n=>k _ _ _ g.2 (eW n _) (gX (.refl _) n<|rs1.append rs2)⟩
 ·rename_i l m
  simp only[Rep]at r1 r2;obtain⟨a,vs,rfl,c1,rs1⟩:=r1;obtain⟨b,ws,rfl,c2,rs2⟩:=r2;obtain⟨hz,g⟩:=g
  by_cases hn:l=[]
  ·subst hn;have e1:vs=[]:=rs1.unnil;subst e1;refine⟨_,cL3,a,b,ws,rfl,rfl,c1.imp bO id,c2.imp bO id,k _ _ H g (.refl _) ?_⟩;show Rep X.K A H (.tup m) (.ref b);simp only[Rep];exact⟨b,ws,rfl,c2,rs2⟩
  refine⟨_,cZ3,a,b,vs,ws,rfl,rfl,c1.imp bO id,c2.imp bO id,λz=>hn ?_,by rw[<-rs1.length,<-rs2.length];exact hz,λz=> ?_,λz p n=> ?_⟩
  ·have:=rs1.length;rw[z]at this;exact sH.mp this
  ·have e2:=rs2.length;rw[z]at e2;have e3:m=[]:=sH.mp e2;subst e3;rw[i7]at g;refine k _ _ H g (.refl _) ?_;show Rep X.K A H (.tup l) (.ref a);simp only[Rep];exact⟨a,vs,rfl,c1,rs1⟩
  ·exact k _ _ _ g (eW n _) (iK hA n<|rs1.append rs2)
 ·exact g.elim
def gI2 (f:Int->Int->(B->Prop)->Prop)(d e:D)(Q:B->Prop):Prop:=match d,e with
 | .int i,.int j=>f i j Q
 | _,_=>False
theorem rR {f:Int->Int->(B->Prop)->Prop}{d e:D}{Q:B->Prop}(h:gI2 f d e Q): ∃i j,d= .int i/\e= .int j/\f i j Q:=by
 unfold gI2 at h;split at h
 ·exact⟨_,_,rfl,rfl,h⟩
 ·exact h.elim
def gSub:D->D->(B->Prop)->Prop:=gI2 λi j Q=>Q (.pu<|.int<|i-j)
theorem cC:OpU X (binaryOp .Sub) gSub:=by
 intro A H d e v w Q0 Q hA r1 r2 g k;obtain⟨i,j,rfl,rfl,g⟩:=rR g;exact⟨_,op_sub,i,j,bF r1,bF r2,k _ _ H g (.refl _) aJ8⟩
theorem c66 {i:Int}(h:Sm i):Builtin.Int.intBits i<=2^20:=aT (PyProof.Rows.intBits_le h) ac
def j9 (d e:D)(Q:B->Prop):Prop:=match d,e with
 | .int i,.int j=>(bY2 i j\/(Sm i/\Sm j))/\Q (.pu<|.int<|i*j)
 | .lst l,.int k=>(-(2^63)<=k/\k<2^63/\l.length*k.toNat<=sizeLine)/\Q (.ow (replicate k.toNat l).flatten)
 | _,_=>False
theorem d01:OpR X (binaryOp .Mult) (rI (λi j=>bY2 i j\/(Sm i/\Sm j)) λi j=> .int (i*j)):=opI λ_ _ _ _ _ _ _ hc q=>mul_int q (hc.elim bY2.ok λh=> .of_bits (c66 h.1) (c66 h.2))
theorem dR:OpU X (binaryOp .Mult) j9:=by
 intro A H d e v w Q0 Q hA r1 r2 g k;unfold j9 at g;split at g
 ·rename_i i j
  exact⟨_,d01,i,j,bF r1,bF r2,g.1,k _ _ H g.2 (.refl _) aJ8⟩
 ·rename_i l kk
  have:=bF r2;subst this;simp only[Rep]at r1;obtain⟨a,vs,rfl,n1,c1,rs1⟩:=r1;obtain⟨⟨h1,h2,h3⟩,g⟩:=g;exact⟨_,op_rep,a,kk,vs,rfl,rfl,c1,h1,h2,by rw[<-rs1.length];exact h3,λp n=>k _ _ _ g (eW n _) (gX (.refl _) n<|rs1.rep _)⟩
 ·exact g.elim
def b79:D->D->(B->Prop)->Prop:=gI2 λi j Q=>(j≠0/\Sm j)/\Q (.pu<|.int<|i.fdiv j)
def oE:D->D->(B->Prop)->Prop:=gI2 λi j Q=>j≠0/\Q (.pu<|.int<|i.fmod j)
theorem d02:OpR X (binaryOp .FloorDiv) (rI (λ_ j=>j≠0/\Sm j) λi j=> .int (i.fdiv j)):=opI λ_ _ _ _ _ _ _ hc q=>floordiv_int hc.1 q (.inl<|PyProof.noPylong_of_log2 hc.2.log)
theorem aG3:OpU X (binaryOp .FloorDiv) b79:=by
 intro A H d e v w Q0 Q hA r1 r2 g k;obtain⟨i,j,rfl,rfl,g⟩:=rR g;exact⟨_,d02,i,j,bF r1,bF r2,g.1,k _ _ H g.2 (.refl _) aJ8⟩
theorem iC:OpU X (binaryOp .Mod) oE:=by
 intro A H d e v w Q0 Q hA r1 r2 g k;obtain⟨i,j,rfl,rfl,g⟩:=rR g;exact⟨_,cY3,i,j,bF r1,bF r2,g.1,k _ _ H g.2 (.refl _) aJ8⟩
def d03:D->D->(B->Prop)->Prop:=gI2 λi j Q=>cY2 i j/\Q (.pu<|.int<|i^j.toNat)
theorem cL4:OpU X (binaryOp .Pow) d03:=by
 intro A H d e v w Q0 Q hA r1 r2 g k;obtain⟨i,j,rfl,rfl,g⟩:=rR g;exact⟨_,op_pow,i,j,bF r1,bF r2,g.1,k _ _ H g.2 (.refl _) aJ8⟩
def nB (p:Int->Int->Bool):D->D->(B->Prop)->Prop:=gI2 λi j Q=>Q (.pu<|.bl<|p i j)
theorem bG5 {op:CmpOp}{p:Int->Int->Bool}(ho:OpR X (compareOp op) (rI0 λi j=> .bl (p i j))):OpU X (compareOp op) (nB p):=by
 intro A H d e v w Q0 Q hA r1 r2 g k;obtain⟨i,j,rfl,rfl,g⟩:=rR g;exact⟨_,ho,i,j,bF r1,bF r2,k _ _ H g (.refl _) jT⟩
theorem aZ9:OpU X (compareOp .Lt) (nB λi j=>decide (i<j)):=bG5 op_lt
theorem cL5:OpU X (compareOp .LtE) (nB λi j=>decide (i<=j)):=bG5 op_le
theorem zX:OpU X (compareOp .Gt) (nB λi j=>decide (j<i)):=bG5 op_gt
theorem d93:OpU X (compareOp .GtE) (nB λi j=>decide (j<=i)):=bG5 op_ge
def j2 (neg:Bool)(d e:D)(Q:B->Prop):Prop:=match d,e with
 | .int i,.int j=>Q (.pu<|.bl<|neg ^^ decide (i=j))
 | .bl i,.bl j=>Q (.pu<|.bl<|neg ^^ decide (i=j))
 | .str i,.str j=>Q (.pu<|.bl<|neg ^^ decide (i=j))
 | _,_=>False
theorem yI {b:Bool}{v:V}(h:Rep K A H (.bl b) v):v= .bl b:=by simpa only[Rep]using h
theorem aJ9 {b:Str}{v:V}(h:Rep K A H (.str b) v):v= .str b:=by simpa only[Rep]using h
theorem j3:OpU X (compareOp .Eq) (j2 false):=by
 intro A H d e v w Q0 Q hA r1 r2 g k;unfold j2 at g;split at g
 ·rw[bF r1,bF r2];exact⟨_,cI8,rfl,k _ _ H g (.refl _) (by rw[aW0,mY,oP];exact jT)⟩
 ·rw[yI r1,yI r2];exact⟨_,cI8,rfl,k _ _ H g (.refl _) (by rw[bF4,mY,oP];exact jT)⟩
 ·rw[aJ9 r1,aJ9 r2];exact⟨_,cI8,rfl,k _ _ H g (.refl _) (by rw[aW1,mY,oP];exact jT)⟩
 ·exact g.elim
theorem aS6:OpU X (compareOp .NotEq) (j2 true):=by
 intro A H d e v w Q0 Q hA r1 r2 g k;unfold j2 at g;split at g
 ·rw[bF r1,bF r2];exact⟨_,cI9,rfl,k _ _ H g (.refl _) (by rw[aW0,kS,oP];exact jT)⟩
 ·rw[yI r1,yI r2];exact⟨_,cI9,rfl,k _ _ H g (.refl _) (by rw[bF4,kS,oP];exact jT)⟩
 ·rw[aJ9 r1,aJ9 r2];exact⟨_,cI9,rfl,k _ _ H g (.refl _) (by rw[aW1,kS,oP];exact jT)⟩
 ·exact g.elim
end
section
variable {X:Cx}{a b e o:Expr}{es:List Expr}{pos:Pos}{ta tb te ti:UE}{K:Frag}{C:C0}{ρ ρ':Ev}{σ σ':L2.St}{H H':Hp}{A:AS}
def jA (t:UE):UE:=λρ Q=>t ρ λb ρ1=>match b.d with
 | .int i=>Q (.pu<|.int<|-i) ρ1
 | _=>False
theorem iG (h:PU X a ta):PU X (.UnaryOp .USub a pos) (jA ta):=
 iJ (pe_un un_neg h) λσ H Q ⟨C,ρ,Q0,I,h,k⟩=>⟨C,ρ,_,I,h,λb ρ1 v H1 q f s r=>by
  have r':=r.rep λa z=>I.avF f z
  generalize b.d=d at q r';split at q
  ·exact⟨_,bF r',k _ _ _ _ q f s aJ8⟩
  ·exact q.elim⟩
theorem bZ7:IpU X .Add (gI2 λi j Q=>Q (.pu<|.int<|i+j)):=by
 intro A H d e v w Q0 Q hA r1 r2 g k;obtain⟨i,j,rfl,rfl,g⟩:=rR g;exact⟨_,ip_add,i,j,bF r1,bF r2,k _ _ H g (.refl _) aJ8⟩
theorem iu_sub:IpU X .Sub (gI2 λi j Q=>Q (.pu<|.int<|i-j)):=by
 intro A H d e v w Q0 Q hA r1 r2 g k;obtain⟨i,j,rfl,rfl,g⟩:=rR g;exact⟨_,cI6,i,j,bF r1,bF r2,k _ _ H g (.refl _) aJ8⟩
def g1 (f:D->(B->Prop)->Prop)(ds:List D)(Q:B->Prop):Prop:=match ds with
 | [d]=>f d Q
 | _=>False
def g2 (f:D->D->(B->Prop)->Prop)(ds:List D)(Q:B->Prop):Prop:=match ds with
 | [d,e]=>f d e Q
 | _=>False
theorem aG4 {f:D->(B->Prop)->Prop}{ds:List D}{Q:B->Prop}{vs:List V}(h:g1 f ds Q)(r:bG K A H ds vs): ∃d v,ds=[d]/\vs=[v]/\Rep K A H d v/\f d Q:=by
 unfold g1 at h;split at h
 ·obtain⟨v,vr,rfl,rv,rr⟩:=r.uncons;have:=rr.unnil;subst this;exact⟨_,v,rfl,rfl,rv,h⟩
 ·exact h.elim
theorem bZ8 {f:D->D->(B->Prop)->Prop}{ds:List D}{Q:B->Prop}{vs:List V}(h:g2 f ds Q)(r:bG K A H ds vs): ∃d e v w,ds=[d,e]/\vs=[v,w]/\Rep K A H d v/\Rep K A H e w/\f d e Q:=by
 unfold g2 at h;split at h
 ·obtain⟨v,vr,rfl,rv,rr⟩:=r.uncons;obtain⟨w,wr,rfl,rw',rr'⟩:=rr.uncons;have:=rr'.unnil;subst this;exact⟨_,_,v,w,rfl,rfl,rv,rw',h⟩
 ·exact h.elim
def d04 (f:Int->(B->Prop)->Prop)(d:D)(Q:B->Prop):Prop:=match d with
 | .int i=>f i Q
 | _=>False
theorem cL6 {f:Int->(B->Prop)->Prop}{d:D}{Q:B->Prop}(h:d04 f d Q): ∃i,d= .int i/\f i Q:=by
 unfold d04 at h;split at h
 ·exact⟨_,rfl,h⟩
 ·exact h.elim
def cL7:List D->(B->Prop)->Prop:=g1 (d04 λi Q=>Q (.pu<|.int<|if i<0 then -i else i))
theorem bZ9:wD X (.builtin "abs") cL7:=by
 intro A H ds vs Q0 Q hA r g k;obtain⟨d,v,rfl,rfl,rv,g⟩:=aG4 g r;obtain⟨i,rfl,g⟩:=cL6 g;exact⟨_,cJ1,i,by rw[bF rv],k _ _ H g (.refl _) aJ8⟩
def gMax:List D->(B->Prop)->Prop:=g2 (gI2 λi j Q=>Q (.pu<|.int<|if j>i then j else i))
theorem cu_max (hc:X.calm=true):wD X (.builtin "max") gMax:=by
 intro A H ds vs Q0 Q hA r g k;obtain⟨d,e,v,w,rfl,rfl,rv,rw',g⟩:=bZ8 g r;obtain⟨i,j,rfl,rfl,g⟩:=rR g;exact⟨_,cC1 hc,i,j,by rw[bF rv,bF rw'],k _ _ H g (.refl _) aJ8⟩
def gMin:List D->(B->Prop)->Prop:=g2 (gI2 λi j Q=>Q (.pu<|.int<|if j<i then j else i))
theorem cu_min (hc:X.calm=true):wD X (.builtin "min") gMin:=by
 intro A H ds vs Q0 Q hA r g k;obtain⟨d,e,v,w,rfl,rfl,rv,rw',g⟩:=bZ8 g r;obtain⟨i,j,rfl,rfl,g⟩:=rR g;exact⟨_,cC2 hc,i,j,by rw[bF rv,bF rw'],k _ _ H g (.refl _) aJ8⟩
def gToInt:List D->(B->Prop)->Prop:=g1 λd Q=>match d with
 | .int i=>Q (.pu<|.int i)
 | .bl k=>Q (.pu<|.int<|if k then 1 else 0)
 | _=>False
noncomputable def fO:List D->(B->Prop)->Prop:=g1 λd Q=>match mC d with
 | some l=>Q (.pu<|.tup l)
 | none=>False
theorem jW:wD X (.type "tuple") fO:=by
 intro A H ds vs Q0 Q hA r g k;obtain⟨d,v,rfl,rfl,rv,g⟩:=aG4 g r;cases d with
 | tup l=>
  have rv':=rv;simp only[Rep]at rv;obtain⟨a,vs,rfl,c,rs⟩:=rv;exact⟨_,v7,a,vs,rfl,.inr ⟨c.imp bO id,k _ _ H g (.refl _) rv'⟩⟩
 | lst l=>
  simp only[Rep]at rv;obtain⟨a,vs,rfl,n,c,rs⟩:=rv;exact⟨_,v7,a,vs,rfl,.inl ⟨SqL.of c,λp n=>k _ _ _ g (eW n _) (iK hA n rs)⟩⟩
 | rol l=>
  simp only[Rep]at rv;obtain⟨a,vs,rfl,c,rs⟩:=rv;exact⟨_,v7,a,vs,rfl,.inl ⟨c.imp bO id,λp n=>k _ _ _ g (eW n _) (iK hA n rs)⟩⟩
 | _=>exact(show False from g).elim
noncomputable def a83:List D->(B->Prop)->Prop:=g1 λd Q=>match mC d with
 | some l=>Q (.ow l)
 | none=>False
theorem aW5:wD X (.type "list") a83:=by
 intro A H ds vs Q0 Q hA r g k;obtain⟨d,v,rfl,rfl,rv,g⟩:=aG4 g r;cases e:mC d with
 | none=>simp only[e]at g
 | some l=>
  simp only[e]at g;obtain⟨a,vs,rfl,c,rs⟩:=rv.one.seq e;exact⟨_,bG1,a,vs,rfl,c,λp n=>k _ _ _ g (eW n _) (gX (.refl _) n rs)⟩
def gN (t:UV):UE:=λρ Q=>t ρ λd ρ1=>match mC d with
 | some l=>Q (.pu<|.int l.length) ρ1
 | none=>False
theorem bY {t:UV}{p:Pos}(ha:PUV X e t)(hg:Gl X "len")(hm:X.mg "len"=none)(hs:starEach [e] X.env=(false,eval e X.env)::starEach [] X.env:=by rfl)
  (hpl:(backTo pos<|starEach [] X.env).any (·.1)=false:=by rfl):PU X (.Call (.Name "len" p) [e] [] pos) (gN t):=
 iJ (bN9 bG0 hg hm PySem.boot_len (aJ3 ha aY8 hs) ac ac hs hpl) λσ H Q ⟨C,ρ,Q0,I,h,k⟩=>⟨C,ρ,_,I,h,λd ρ1 v H1 q f s r=>by
  cases e:mC d with
  | none=>simp only[e]at q
  | some l=>
   simp only[e]at q;obtain⟨a,vs,rfl,c,rs⟩:=r.seq e;exact⟨a,vs,rfl,c,k _ _ _ _ q f s (by rw[rs.length];exact aJ8)⟩⟩
theorem aG5 {x:Value}{T:String}{prog:Program}{w:World}{A:Around}{E:Value->Shared->Prop}{s:Shared}{Q:Value->Shared->Prop}
  {P:(Result->Shared->Prop)->Shared->Prop} (hm:Meets (Builtin.«isinstance» ⟨[x,.type T],[]⟩) (λ_ R s=>P R s)) (h:P (λr s'=>match r with| .ok (.ret v)=>Q v s'| .ok _=>False| .error e=>E e s') s) :
  wpAny (model prog w) A (call (.builtin "isinstance") [x,.type T]) Q E s:=
 call_function_any kind_isinstance plain_isinstance entry_isinstance (args_isinstance _ _) (hm _ _ _ _ _ h)
theorem rep_ty {T:String}{v:V}(h:Rep K A H (.ty T) v):v= .ty T:=by simpa only[Rep]using h
def rIsi (K:Frag):List V->Hp->VK->Prop:=λxs H Q=> ∃x T k,xs=[x,.ty T]/\Q (.bl k) H/\
 ((∃i,x= .int i/\((T="int"/\k=true)\/((T="bool"\/T="tuple"\/T="list")/\k=false)))\/(∃c,x= .bl c/\(T="int"\/T="bool")/\k=true)\/
  (∃a ys,x= .ref a/\SqT K H a ys/\((T="tuple"/\k=true)\/((T="int"\/T="list")/\k=false)))\/(∃a ys,x= .ref a/\SqL K H a ys/\((T="list"/\k=true)\/((T="int"\/T="tuple")/\k=false))))
theorem tyT (T:String)(h:T="int"\/T="bool"\/T="tuple"\/T="list"):typeOf (.type T)=pure (.type "type"):=by
 rcases h with rfl|rfl|rfl|rfl<;>first|rfl|decide
theorem tJ:qH X (.builtin "isinstance") (rIsi X.K):=by
 intro pins s σ H xs us Q I r h;obtain⟨x,T,k,rfl,q,h⟩:=h;obtain⟨u,w',rfl,rx,ry⟩:=vals2 r;have e:w'=Value.type T:=ry;subst e;rcases h with⟨i,rfl,h⟩| ⟨c,rfl,h,rfl⟩| ⟨a,ys,rfl,hs,h⟩| ⟨a,ys,rfl,hs,h⟩
 ·obtain⟨t,rfl⟩:=rx;rcases h with⟨rfl,rfl⟩| ⟨h,rfl⟩
  ·exact sL (pI s i t) (tyT _ ae) PyProof.Rows.sub_int_int ⟨.bl true,H,I,rfl,q⟩
  ·rcases h with rfl|rfl|rfl
   ·exact aG5 (aE0 ac (tyT _ ae) PyProof.Rows.sub_int_bool) ⟨.bl false,H,I.tok _,rfl,q⟩
   ·exact aG5 (aE0 ac (tyT _ ae) PyProof.Rows.sub_int_tuple) ⟨.bl false,H,I.tok _,rfl,q⟩
   ·exact aG5 (aE0 ac (tyT _ ae) PyProof.Rows.sub_int_list) ⟨.bl false,H,I.tok _,rfl,q⟩
 ·cases rx;rcases h with rfl|rfl
  ·exact sL (PySem.typeIs_bool s c) (tyT _ ae) PyProof.Rows.sub_bool_int ⟨.bl true,H,I,rfl,q⟩
  ·exact sL (PySem.typeIs_bool s c) (tyT _ ae) PyProof.Rows.sub_bool_bool ⟨.bl true,H,I,rfl,q⟩
 ·cases rx;obtain⟨its,rv,p,hz⟩:=I.tuple hs;obtain⟨o,ho,hc,_⟩:=id p;rcases h with⟨rfl,rfl⟩| ⟨h,rfl⟩
  ·exact sL p.typeIs (tyT _ ae) PyProof.Rows.sub_tuple_tuple ⟨.bl true,H,I,rfl,q⟩
  ·rcases h with rfl|rfl
   ·exact aG5 (isinstance_false_tuple ac (tyT _ ae) PyProof.Rows.sub_tuple_int) ⟨⟨o,ho,hc⟩,.bl false,H,I.tok _,rfl,q⟩
   ·exact aG5 (isinstance_false_tuple ac (tyT _ ae) PyProof.Rows.sub_tuple_list) ⟨⟨o,ho,hc⟩,.bl false,H,I.tok _,rfl,q⟩
 ·cases rx;obtain⟨its,rv,p,hz⟩:=I.list hs;obtain⟨o,n,ho,hc,_⟩:=id p;rcases h with⟨rfl,rfl⟩| ⟨h,rfl⟩
  ·exact sL p.isList.typeIs (tyT _ ae) PyProof.Rows.sub_list_list ⟨.bl true,H,I,rfl,q⟩
  ·rcases h with rfl|rfl
   ·exact aG5 (isinstance_false_list ac (tyT _ ae) PyProof.Rows.sub_list_int) ⟨⟨o,ho,hc⟩,.bl false,H,I.tok _,rfl,q⟩
   ·exact aG5 (isinstance_false_list ac (tyT _ ae) PyProof.Rows.sub_list_tuple) ⟨⟨o,ho,hc⟩,.bl false,H,I.tok _,rfl,q⟩
def b80:List D->(B->Prop)->Prop:=g2 λd e Q=>match e with
 | .ty T=>(match d with
  | .int _=>if T="int" then Q (.pu<|.bl true)else if T="bool"\/T="tuple"\/T="list" then Q (.pu<|.bl false)else False
  | .bl _=>if T="int"\/T="bool" then Q (.pu<|.bl true)else False
  | .tup _=>if T="tuple" then Q (.pu<|.bl true)else if T="int"\/T="list" then Q (.pu<|.bl false)else False
  | .lst _=>if T="list" then Q (.pu<|.bl true)else if T="int"\/T="tuple" then Q (.pu<|.bl false)else False
  | _=>False)
 | _=>False
theorem a18:wD X (.builtin "isinstance") b80:=by
 intro A H ds vs Q0 Q hA r g k;obtain⟨d,e,v,w,rfl,rfl,rv,rw',g⟩:=bZ8 g r;have no: ∀{c:Bool},Q0 (.pu<|.bl c)->Q (.bl c) H:=λz=>k _ _ H z (.refl _) jT
 cases e with
 | ty T=>
  rw[rep_ty rw'];cases d with
  | int i=>
   rw[bF rv]
   by_cases h1:T="int"
   ·simp only[h1,cF]at g;exact⟨_,tJ,_,T,true,rfl,no g,.inl ⟨i,rfl,.inl ⟨h1,rfl⟩⟩⟩
   ·by_cases h2:T="bool"\/T="tuple"\/T="list"
    ·simp only[h1,h2,cF,dQ]at g;exact⟨_,tJ,_,T,false,rfl,no g,.inl ⟨i,rfl,.inr ⟨h2,rfl⟩⟩⟩
    ·simp only[h1,h2,dQ]at g
  | bl c=>
   rw[yI rv]
   by_cases h1:T="int"\/T="bool"
   ·simp only[h1,cF]at g;exact⟨_,tJ,_,T,true,rfl,no g,.inr<|.inl ⟨c,rfl,h1,rfl⟩⟩
   ·simp only[h1,dQ]at g
  | tup l=>
   obtain⟨a,vs,rfl,c,rs⟩:=rv.one
   by_cases h1:T="tuple"
   ·simp only[h1,cF]at g;exact⟨_,tJ,_,T,true,rfl,no g,.inr<|.inr<|.inl ⟨a,vs,rfl,c,.inl ⟨h1,rfl⟩⟩⟩
   ·by_cases h2:T="int"\/T="list"
    ·simp only[h1,h2,cF,dQ]at g;exact⟨_,tJ,_,T,false,rfl,no g,.inr<|.inr<|.inl ⟨a,vs,rfl,c,.inr ⟨h2,rfl⟩⟩⟩
    ·simp only[h1,h2,dQ]at g
  | lst l=>
   obtain⟨a,vs,rfl,c,rs⟩:=rv.one
   by_cases h1:T="list"
   ·simp only[h1,cF]at g;exact⟨_,tJ,_,T,true,rfl,no g,.inr<|.inr<|.inr ⟨a,vs,rfl,SqL.of c,.inl ⟨h1,rfl⟩⟩⟩
   ·by_cases h2:T="int"\/T="tuple"
    ·simp only[h1,h2,cF,dQ]at g;exact⟨_,tJ,_,T,false,rfl,no g,.inr<|.inr<|.inr ⟨a,vs,rfl,SqL.of c,.inr ⟨h2,rfl⟩⟩⟩
    ·simp only[h1,h2,dQ]at g
  | _=>exact(show False from g).elim
 | _=>exact(show False from g).elim
theorem aS7 {x:Str}{T:String}{p:Pos}(hg:Gl X x)(hm:X.mg x=none)(hv:bootBuiltins x=some (.type T))(hn:x≠"__name__":=by decide)(hd:(x==("__debug__":Str))=false:=by decide):PU X (.Name x p) (uC<|.ty T):=
 bG3 (cX3 (v:= .ty T) hg hm hv rfl hn hd) λA H=>by simp only[Rep]
noncomputable def init (N:List Str)(ds:List D):Ev:=ds.map (λd=>some (.pu d))++replicate (N.length-ds.length) none
theorem tK {N:List Str}{ds:List D}{i:Nat}{z:B}(h:(init N ds)[i]? =some (some z)): ∃d,z= .pu d/\ds[i]? =some d:=by
 unfold init at h
 by_cases hi:i<ds.length
 ·rw[wY<|by simpa using hi,bI]at h
  cases e:ds[i]? with
  | none=>rw[e]at h;cases h
  | some d=>rw[e]at h;cases h;exact⟨d,rfl,rfl⟩
 ·rw[sG<|by simpa using hi,List.getElem?_replicate]at h
  split at h<;>cases h
theorem aW6 {N:List Str}{ds:List D}{vs:List V}(hA: ∀a,A a->H a≠none)(r:bG K A H ds vs):EOk K ⟨H,A⟩ (init N ds) (L2.start N vs) H:=by
 have own: ∀a,¬Own (init N ds) (L2.start N vs) a:=λa ⟨i,l,h1,_⟩=>by
  obtain⟨d,e,_⟩:=tK h1;cases e
 refine⟨?_,λi d h=> ?_,λi l h=> ?_,λi j l l' a h=> ?_,λi l h=> ?_,.refl _,hA⟩
 ·unfold init L2.start;simp[r.length]
 ·obtain⟨d',e,e2⟩:=tK h;cases e;obtain⟨v,h1,h2⟩:=r.get e2;refine⟨v,?_,h2.mono<|.sub (.refl _) λa z=>z.elim id λz=>absurd z (own a)⟩
  unfold L2.start;have hv:i<vs.length:=(kK.mp h1).1;rw[wY<|by simpa using hv,bI,h1]
  rfl
 ·obtain⟨d',e,_⟩:=tK h;cases e
 ·obtain⟨d',e,_⟩:=tK h;cases e
 ·obtain⟨d',e,_⟩:=tK h;cases e
theorem c67 {P:Program}{w:World}{K:Frag}{mg:Str->Option Value}{base:Heap}{x qual:Str}{st:Stmt}{f:Addr}{fd:FuncData}{N ps:List Str}{k:Nat}{φ:Φ}(F:Fun K x qual st f fd)(S:aZ N ps (aD st))
  (len: ∀ds Q,φ ds Q->ds.length=ps.length)
  (body: ∀(cdv:Value) (A:Around) (outer:List Env) (s:Shared) (H:Hp) (E:XK),gM k (A.deeper<|envOfC qual (aD st) s.heap.objs.size f cdv)->
   ∃t,qW (qV CX0 P w K mg base N qual (aD st) f cdv A outer s H E).nox (dJ st) t/\ ∀ds Q,φ ds Q->t {nx:=λ_=>Q (.pu .non),rt:=Q} (init N ds)) :
  qU P w K mg base CX0 (k+1) f fd ps (spP K φ):=by
 refine F.ok S (λvs H Q E h=> ?_) (λcdv A outer s H vs Q E hr h=> ?_)
 ·obtain⟨A,ds,Q0,_,r,h,_⟩:=h;rw[<-r.length];exact len ds Q0 h
 ·obtain⟨A',ds,Q0,hA,r,h,q⟩:=h;obtain⟨t,ht,hq⟩:=body cdv A outer s H E hr;refine⟨_,ht,⟨H,A'⟩,init N ds,_,aW6 hA r,hq ds Q0 h,⟨λρ σ H' z I=> ?_,λb v H' z s r=>q b v H' z s r,λ_ _ _ z=>z.elim,λ_ _ _ z=>z.elim⟩⟩
  exact q _ _ H' z I.ext (show Rep _ _ _ _ _ by simp only[Rep])
end
structure Fn (P:Program)(w:World)(K:Frag)(mg:Str->Option Value)(base:Heap)(x:Str)(ps:List Str)(k:Nat)(φ:Φ):Prop where
 ex: ∃f fd,qU P w K mg base CX0 k f fd ps (spP K φ)/\Binds K fd ps []/\keepIn K (.ref f)=true/\mg x=some (.ref f)
section
variable {X:Cx}{e:Expr}{es:List Expr}{pos:Pos}
theorem aK0 {k k':Nat}{ps:List Str}{φ:Φ}{x:Str}{p:Pos}{t:UA}(F:Fn X.prog X.w X.K X.mg X.base x ps k φ)(hr:gM k' X.A)(hk:k<=k')(hg:Gl X x)(ha:PUA X (e::es) t)(hdb:(x==("__debug__":Str))=false:=by decide)
  (he:starEach (e::es) X.env=(false,eval e X.env)::starEach es X.env:=by rfl) (hpl:(backTo pos<|starEach es X.env).any (·.1)=false:=by rfl):PU X (.Call (.Name x p) (e::es) [] pos) (aP φ t):=by
 obtain⟨f,fd,G,b,kp,m⟩:=F.ex;exact cZ7 (E:=E0) G (hr.mono hk) hg m kp b (λ_ _ _ _ _ _ _ h=>h.elim) ha hdb he hpl
theorem cL8 {k k':Nat}{ps:List Str}{φ:Φ}{x:Str}{p:Pos}(F:Fn X.prog X.w X.K X.mg X.base x ps k φ)(hr:gM k' X.A)(hk:k<=k')(hg:Gl X x)(hdb:(x==("__debug__":Str))=false:=by decide):PU X (.Call (.Name x p) [] [] pos) (aP φ aK):=by
 obtain⟨f,fd,G,b,kp,m⟩:=F.ex;exact cK9 (E:=E0) G (hr.mono hk) hg m kp b (λ_ _ _ _ _ _ _ h=>h.elim) hdb
theorem il {n i:Nat}(hn:X.N.length=n)(h:i<n): ∀pins σ H s,Inv X pins σ H s->i<σ.length:=λ_ _ _ _ I=>by rw[I.len,hn];exact h
end
theorem Fn.mk' {P:Program}{w:World}{K:Frag}{mg:Str->Option Value}{base:Heap}{x qual:Str}{st:Stmt}{f:Addr}{fd:FuncData}{N ps:List Str}{k:Nat}{φ:Φ}(F:Fun K x qual st f fd)(m:mg x=some (.ref f))(b:Binds K fd ps [])(S:aZ N ps (aD st))
  (len: ∀ds Q,φ ds Q->ds.length=ps.length) {t:US}
  (der: ∀(cdv:Value) (A:Around) (outer:List Env) (s:Shared) (H:Hp) (E:XK),gM k (A.deeper<|envOfC qual (aD st) s.heap.objs.size f cdv)->qW (qV CX0 P w K mg base N qual (aD st) f cdv A outer s H E).nox (dJ st) t)
  (rd: ∀ds Q,φ ds Q->t {nx:=λ_=>Q (.pu .non),rt:=Q} (init N ds)):Fn P w K mg base x ps (k+1) φ:=
 ⟨f,fd,c67 F S len λcdv A outer s H E hr=>⟨t,der cdv A outer s H E hr,rd⟩,b,F.kp,m⟩
def d94:Φ:=λds Q=> ∃ns:List Int,ds=[.rol<|ns.map .int]/\ns.length<=63/\Q (.pu<|.bl true)
theorem bC2 {K:Frag}{A:AS}{H:Hp}: ∀ns:List Int,bG K A H (ns.map .int) (ns.map V.int)
 | []=> .nil
 | n::ns=> .cons (by simp only[Rep]) (bC2 ns)
end M
end
section
namespace L2
open PySem PySem.Spec PyProof.Rows
noncomputable def bU (X:Cx)(N:List Str)(scope:Scope)(cl:List (Str×Addr))(C:Addr)(s:Shared)(H:Hp)(fp:List Addr)(pins:List (Addr×Obj)):Cx where
 prog:=X.prog
 w:=X.w
 K:=X.K
 mg:=X.mg
 base:=X.base
 A:=X.A
 N:=N
 s₀:=s
 H₀:=H
 env:=compEnvC scope cl C X.env
 outer:=X.stack
 stack:=X.stack
 ex:=fp
 fn:=λx=>scope.names.lookup x==some .cell
 calm:=X.calm
 pn:=X.pn++pins
 xe:=λ_ _=>False
theorem yJ {env:Env}: ∀(names:List (Str×NameKind)),(∀y∈names,y.2= .free-> ∃c,env.cells.lookup y.1=some c)-> ∀cs:List (Str×Addr),(∀x c,cs.lookup x=some c->env.cells.lookup x=some c)->
  ∃cl,(forIn names cs fun(x:Str×NameKind) r=>(do if(x.2==NameKind.free)=true then do let c<-cellOf env x.1;pure (ForInStep.yield ((x.1,c)::r))else pure (ForInStep.yield r)):Sem (List<|Str×Addr))=pure cl/\
   (∀x c,cl.lookup x=some c->env.cells.lookup x=some c)/\(∀x c,cs.lookup x=some c-> ∃c',cl.lookup x=some c')/\ ∀y∈names,y.2= .free-> ∃c,cl.lookup y.1=some c
 | [],_,cs,hcs=>⟨cs,rfl,hcs,λx c h=>⟨c,h⟩,λy hy=>by simp at hy⟩
 | (n,k)::r,h,cs,hcs=>by
  have hr: ∀y∈r,y.2= .free-> ∃c,env.cells.lookup y.1=some c:=λy hy=>h y (b6 _ hy)
  by_cases hk:k= .free
  ·subst hk;obtain⟨c,hc⟩:=h (n,.free) aW rfl;have e1:cellOf env n=pure c:=by unfold cellOf;rw[hc]
   have hcs': ∀x c',List.lookup x ((n,c)::cs)=some c'->env.cells.lookup x=some c':=λx c' q=>by
    rw[cJ]at q;split at q
    ·rename_i e
     have:x=n:=by simpa using e
     subst this;cases q;exact hc
    ·exact hcs x c' q
   obtain⟨cl,h1,h2,h3,h4⟩:=yJ r hr ((n,c)::cs) hcs';have hn: ∃c',cl.lookup n=some c':=h3 n c (by rw[cJ];simp)
   refine⟨cl,?_,h2,λx c' q=> ?_,λy hy hf=> ?_⟩
   ·rw[xS];show(do let c<-cellOf env n;pure (ForInStep.yield ((n,c)::cs))) >>= _=_;rw[e1];exact h1
   ·by_cases z:x=n
    ·subst z;exact hn
    ·refine h3 x c' ?_
     rw[cJ];have:(x==n)=false:=by simpa using z
     rw[this];exact q
   ·rcases aS.mp hy with rfl|hy
    ·exact hn
    ·exact h4 y hy hf
  ·obtain⟨cl,h1,h2,h3,h4⟩:=yJ r hr cs hcs;refine⟨cl,?_,h2,h3,λy hy hf=> ?_⟩
   ·rw[xS];have:(k==NameKind.free)=false:=by simpa using hk
    show(if(k==NameKind.free)=true then _ else _) >>= _=_
    rw[this];exact h1
   ·rcases aS.mp hy with rfl|hy
    ·exact absurd hf hk
    ·exact h4 y hy hf
structure fZ (env:Env)(XN N:List Str)(cap:List (Option Nat))(scope:Scope):Prop where
 kind:scope.kind= .function
 owns: ∀y∈scope.names,y.2= .cell->scope.names.lookup y.1=some .cell
 freeK: ∀y∈scope.names,y.2= .free->scope.names.lookup y.1=some .free
 names: ∀y∈scope.names,y.2= .local->scope.names.lookup y.1=some .local
 frees: ∀y∈scope.names,y.2= .free->env.kindOf y.1=some .cell\/env.kindOf y.1=some .free
 caps: ∀(i j:Nat) (x:Str),N[i]? =some x->cap[i]? =some (some j)->XN[j]? =some x/\(x,NameKind.free)∈scope.names/\scope.names.lookup x=some .free
 len:cap.length=N.length
noncomputable def uO (σ:L2.St)(cap:List (Option Nat))(last:Nat)(D:Addr):L2.St:=(cap.map λc=>c.bind λj=>(σ[j]?).join).set last (some<|.ref D)
theorem a19 {env:Env}{x:Str}{k:NameKind}: ∀{names:List (Str×NameKind)},names.lookup x=some k->
  (names.map fun(n,k)=>if(k==NameKind.free&&env.scope.kind== .function&&env.kindOf n==some .cell)then(n,NameKind.cell)else(n,k)).lookup x=
   some (if(k==NameKind.free&&env.scope.kind== .function&&env.kindOf x==some .cell)then NameKind.cell else k)
 | [],h=>by simp at h
 | (n,k')::r,h=>by
  rw[bW];rw[cJ]at h;dsimp only
  by_cases e:(x==n)=true
  ·have e':x=n:=by simpa using e
   subst e';rw[e]at h;cases h;split<;>simp
  ·have e2:(x==n)=false:=by simpa using e
   rw[e2]at h;have ih:=a19 (env:=env) h;split
   ·rw[cJ,e2];exact ih
   ·rw[cJ,e2];exact ih
theorem nV {env:Env}{x:Str}{k:NameKind}: ∀{names:List (Str×NameKind)},(names.map fun(n,k)=>if(k==NameKind.free&&env.scope.kind== .function&&env.kindOf n==some .cell)then(n,NameKind.cell)else(n,k)).lookup x=some k->
  ∃k',names.lookup x=some k'/\(x,k')∈names/\(k=k'\/k'= .free)
 | [],h=>by simp at h
 | (n,k')::r,h=>by
  rw[bW]at h;dsimp only at h
  by_cases e:(x==n)=true
  ·have e':x=n:=by simpa using e
   subst e';refine⟨k',by rw[cJ,e],aW,?_⟩
   split at h
   ·rename_i c
    right
    simp only[dN,fW]at c;exact c.1.1
   ·rw[cJ,e]at h;cases h;exact .inl rfl
  ·have e2:(x==n)=false:=by simpa using e
   have h':(r.map fun(n,k)=>if(k==NameKind.free&&env.scope.kind== .function&&env.kindOf n==some .cell)then(n,NameKind.cell)else(n,k)).lookup x=some k:=by
    split at h
    ·rw[cJ,e2]at h;exact h
    ·rw[cJ,e2]at h;exact h
   obtain⟨k2,h1,h2,h3⟩:=nV h';exact⟨k2,by rw[cJ,e2];exact h1,b6 _ h2,h3⟩
theorem aO5 {x:Str}{c:Addr}: ∀(names:List (Str×NameKind)) (h:Heap) (acc:List (Str×Addr)),(cellsFrom h.objs.size names acc).lookup x=some c->
  acc.lookup x=some c\/(h.objs.size<=c/\(x,NameKind.cell)∈names/\(pushCells h names).IsCell c none)
 | [],_,_,e=> .inl e
 | (y,k)::r,h,acc,e=>by
  unfold cellsFrom at e;unfold pushCells
  by_cases hk:(k==NameKind.cell)=true
  ·rw[a7 hk]at e⊢;have hk':k= .cell:=by simpa using hk
   have sz:(h.push {cls:= .type "cell",data:= .cell none}).objs.size=h.objs.size+1:=iT ..;rw[<-sz]at e;rcases aO5 r _ _ e with q| ⟨q1,q2,q3⟩
   ·rw[cJ]at q;split at q
    ·rename_i e1
     have:x=y:=by simpa using e1
     subst this;cases q;exact .inr ⟨aB _,by rw[hk'];exact aW,⟨_,aF9 _ _ _ _<|bN _ rfl,rfl⟩⟩
    ·exact .inl q
   ·exact .inr ⟨ad,b6 _ q2,q3⟩
  ·rw[a6 hk]at e⊢;rcases aO5 r h acc e with q| ⟨q1,q2,q3⟩
   ·exact .inl q
   ·exact .inr ⟨q1,b6 _ q2,q3⟩
theorem aO6: ∀(names:List (Str×NameKind)) (n:Nat) (acc:List (Str×Addr)),(∀x c,acc.lookup x=some c->c<n)->(∀x y c,acc.lookup x=some c->acc.lookup y=some c->x=y)->
  ∀x y c,(cellsFrom n names acc).lookup x=some c->(cellsFrom n names acc).lookup y=some c->x=y
 | [],_,_,_,hi=>hi
 | (z,k)::r,n,acc,hl,hi=>by
  unfold cellsFrom
  by_cases hk:(k==NameKind.cell)=true
  ·rw[a7 hk];refine aO6 r (n+1) _ (λx c e=> ?_) (λx y c e1 e2=> ?_)
   ·rw[cJ]at e;split at e
    ·cases e;exact pC n
    ·exact kO (hl x c e)
   ·rw[cJ]at e1 e2;split at e1
    ·rename_i q1
     cases e1;split at e2
     ·rename_i q2
      exact(by simpa using q1:x=z).trans (by simpa using q2:y=z).symm
     ·exact absurd (hl y _ e2) (cZ _)
    ·split at e2
     ·cases e2;exact absurd (hl x _ e1) (cZ _)
     ·exact hi x y c e1 e2
  ·rw[a6 hk];exact aO6 r n acc hl hi
theorem sD {x:Str}{c:Addr}: ∀(names:List (Str×NameKind)) (n:Nat) (acc:List (Str×Addr)),((x,NameKind.cell)∈names\/ ∀c,acc.lookup x=some c->n<=c)->(cellsFrom n names acc).lookup x=some c->n<=c
 | [],_,_,h,e=>by
  rcases h with h|h
  ·simp at h
  ·exact h c e
 | (z,k)::r,n,acc,h,e=>by
  unfold cellsFrom at e
  by_cases hk:(k==NameKind.cell)=true
  ·rw[a7 hk]at e;have hk':k= .cell:=by simpa using hk
   rcases h with h|h
   ·rcases aS.mp h with h|h
    ·cases h;have:n<=c:=by
      by_cases q: ∃c',(cellsFrom (n+1) r ((x,n)::acc)).lookup x=some c'/\(x,NameKind.cell)∈r
      ·obtain⟨c',e',m⟩:=q;have:=sD (c:=c) r (n+1) _ (.inl m) e
       lia
      ·have nm:(x,NameKind.cell) ∉ r:=λm=>q ⟨c,e,m⟩
       have:=cells_keep r (n+1) ((x,n)::acc) nm;rw[this,cJ]at e;simp at e;exact le_of_eq e
     exact this
    ·have:=sD (c:=c) r (n+1) _ (.inl h) e
     lia
   ·by_cases q:(x,NameKind.cell)∈r
    ·have:=sD (c:=c) r (n+1) _ (.inl q) e
     lia
    ·have:=cells_keep r (n+1) ((z,n)::acc) q;rw[this,cJ]at e;split at e
     ·cases e;exact aB _
     ·exact h c e
  ·rw[a6 hk]at e;refine sD (c:=c) r n acc (h.imp (λm=> ?_) id) e
   rcases aS.mp m with m|m
   ·cases m;exact absurd ac hk
   ·exact m
where
 cells_keep {x:Str}: ∀(names:List (Str×NameKind)) (n:Nat) (acc:List (Str×Addr)),(x,NameKind.cell) ∉ names->(cellsFrom n names acc).lookup x=acc.lookup x
 | [],_,_,_=>rfl
 | (z,k)::r,n,acc,h=>by
  unfold cellsFrom
  by_cases hk:(k==NameKind.cell)=true
  ·rw[a7 hk];have hk':k= .cell:=by simpa using hk
   rw[cells_keep r (n+1) _ λm=>h (b6 _ m),cJ]
   split
   ·rename_i e
    have:x=z:=by simpa using e
    subst this;exact absurd (by rw[hk'];exact aW) h
   ·rfl
  ·rw[a6 hk];exact cells_keep r n acc λm=>h (b6 _ m)
theorem cells_keep {x:Str}(names:List (Str×NameKind))(n:Nat)(acc:List (Str×Addr))(h:(x,NameKind.cell) ∉ names):(cellsFrom n names acc).lookup x=acc.lookup x:=sD.cells_keep names n acc h
theorem bG6 {M:Model}{A:Around}{E:Value->Shared->Prop}{s:Shared}{scope:Scope}{globals:Addr}{cl:List (Str×Addr)}{qual:Str}{env0:Env}{Q:Env->Shared->Prop}
  (hQ:Q {scope:=scope,locals:=s.heap.objs.size,globals:=globals,cells:=cellsFrom (s.heap.objs.size+1) scope.names cl,qual:=qual,func:=none,code:=env0.code,frame:=env0.frame,builtins:=env0.builtins} {s with heap:=pushCells (s.heap.push {cls:= .type "dict",data:= .dict #[]}) scope.names}) :
  wpAny M A (newFunctionEnv scope globals cl [] qual none .none<|some env0) Q E s:=by
 simp only[newFunctionEnv,Option.isSome_some,cF];refine a8 (wpAny_alloc ?_);refine a8 (wpAny_layCells _ (λname kind cells=>by cases hkc:kind==NameKind.cell<;>simp[hkc]) _ _ _ _ ?_)
 rw[show({s with heap:=s.heap.push {cls:= .type "dict",data:= .dict #[]}}:Shared).heap.objs.size=s.heap.objs.size+1 from iT ..]
 rw[forIn_nil];exact a8 (aG<|aG hQ)
section
variable {X:Cx}{pins:List (Addr×Obj)}{σ:L2.St}{H:Hp}{s:Shared}{N:List Str}{cap:List (Option Nat)}{scope:Scope}
theorem bO7 {fp:List Addr}{last:Nat}{D:Addr}{cl0 cl:List (Str×Addr)}{h1:Heap}{m0:Str->Option Value}{tk:Nat}(S:fZ X.env X.N N cap scope)(I:Inv X pins σ H s)(hf: ∀b∈fp,aO2 X pins H b)(hfs: ∀b∈fp,b<s.heap.objs.size)
  (hcl: ∀x c,cl0.lookup x=some c->X.env.cells.lookup x=some c) (hcl2: ∀y∈scope.names,y.2= .free-> ∃c,cl0.lookup y.1=some c) (hN: ∀x,N[last]? =some x->scope.names.lookup x=none)
  (hns:h1.Ns s.heap.objs.size m0) (hk: ∀b o,s.heap.get? b=some o->h1.get? b=some o)
  (c1: ∀x c,cl.lookup x=some c->cl0.lookup x=some c\/(s.heap.objs.size<c/\h1.IsCell c none)) (c2: ∀x y c,cl.lookup x=some c->cl.lookup y=some c->x=y)
  (c3: ∀x,(x,NameKind.free)∈scope.names->cl.lookup x=cl0.lookup x) (c4: ∀x,scope.names.lookup x=some .cell-> ∃c,cl.lookup x=some c) (c5: ∀x c,scope.names.lookup x=some .cell->cl.lookup x=some c->s.heap.objs.size<=c) :
  Inv (bU X N scope cl s.heap.objs.size s H fp pins) [] (uO σ cap last D) H {s with heap:=h1,toks:=tk}:=by
 have sz:X.base.objs.size<=s.heap.objs.size:=aT I.ok.bsz I.sz;have kindF: ∀x,(bU X N scope cl s.heap.objs.size s H fp pins).env.kindOf x=some .cell\/(bU X N scope cl s.heap.objs.size s H fp pins).env.kindOf x=some .free->(x,NameKind.free)∈scope.names\/scope.names.lookup x=some .cell:=λx h=>by
  have: ∃k,(k= .cell\/k= .free)/\(relabel scope X.env).names.lookup x=some k:=by
   rcases h with h|h
   ·exact⟨_,.inl rfl,h⟩
   ·exact⟨_,.inr rfl,h⟩
  obtain⟨k,hk,h⟩:=this;obtain⟨k',h1,h2,h3⟩:=nV h;rcases h3 with rfl|rfl
  ·rcases hk with rfl|rfl
   ·exact .inr (S.owns _ h2 rfl)
   ·exact .inl h2
  ·exact .inl h2
 have cne: ∀x c,cl.lookup x=some c-> ∀b∈fp,c≠b:=λx c h b hb=>by
  rcases c1 x c h with q| ⟨q,_⟩
  ·exact(hf b hb).2.2.2.2.1 x c (hcl x c q)
  ·exact λz=>by subst z;exact absurd (Nat.lt_trans q<|hfs c hb) (cZ _)
 refine⟨⟨I.ok.mod,S.kind,I.ok.glob,I.ok.blt,aB _,c2,λx h=> ?_,λx c h e=> ?_,I.ok.hd,I.ok.frames,.inl rfl,λb hb=> ?_,I.bs,sz,λb o e hb=> ?_,λb hb=> ?_,I.stack,I.stkFree⟩,
  rfl,I.bare,Un.kept hk,⟨m0,hns,λi x v e1 e2 e3=> ?_⟩,λx c h=> ?_,I.hok.fresh<|aB _,λx c h=> ?_,λp hp=> ?_,I.hok.kept hk,?_⟩
 ·rcases kindF x h with q|q
  ·obtain⟨c,e⟩:=hcl2 _ q rfl;exact⟨c,(c3 x q).trans e⟩
  ·exact c4 x q
 ·exact c5 x c (by simpa using(show(scope.names.lookup x==some NameKind.cell)=true from h)) e
 ·exact⟨bE<|hfs b hb,λx c h=>cne x c h b hb⟩
 ·rcases(hf b hb).2.2.2.1 with z|z
  ·exact I.ok.noex b o e z
  ·have:=aN e;exact absurd (b9 this<|aT I.ok.bsz z) (cZ _)
 ·intro z;rcases aS.mp (I.stkSub b z)with z|z
  ·exact(hf b hb).2.1 z
  ·exact(hf b hb).2.2.1 z
 ·have e1':N[i]? =some x:=e1;unfold uO at e2
  by_cases hl:last=i
  ·subst hl;have z:=hN x e1';rcases e3 with e3|e3|e3
   ·obtain⟨k',h1,_⟩:=nV (show(relabel scope X.env).names.lookup x=_ from e3)
    rw[z]at h1;cases h1
   ·obtain⟨k',h1,_⟩:=nV (show(relabel scope X.env).names.lookup x=_ from e3)
    rw[z]at h1;cases h1
   ·obtain⟨k',h1,_⟩:=nV (show(relabel scope X.env).names.lookup x=_ from e3)
    rw[z]at h1;cases h1
  ·rw[M.get_set_ne hl,bI]at e2;cases e4:cap[i]? with
   | none=>rw[e4]at e2;cases e2
   | some c=>
    rw[e4]at e2;cases c with
    | none=>cases e2
    | some j=>
     have e2':(σ[j]?).join=some v:=by simpa using e2
     have e5:σ[j]? =some (some v):=by
      cases q:σ[j]? with
      | none=>rw[q]at e2';cases e2'
      | some w=>rw[q]at e2';cases w with
       | none=>cases e2'
       | some w'=>cases e2';rfl
     obtain⟨a1,a2,a3⟩:=S.caps i j x e1' e4;have kx:=S.frees _ a2 rfl;obtain⟨m,hn,hl'⟩:=I.loc;have vis:Vis X.env.scope x:=by
      rcases kx with kx|kx
      ·exact .inr (.inl kx)
      ·exact .inr (.inr kx)
     obtain⟨u,r,l⟩:=hl' j x v a1 e5 vis;refine⟨u,r,.inr ⟨?_,?_⟩⟩
     ·have q:=a19 (env:=X.env) a3;show(relabel scope X.env).names.lookup x=_\/(relabel scope X.env).names.lookup x=_;unfold relabel;dsimp only;rw[q];split
      ·exact .inl rfl
      ·exact .inr rfl
     ·rcases l with⟨l,_⟩| ⟨_,c,hc,hcell⟩
      ·rcases kx with kx|kx<;>·rw[kx]at l;cases l
      ·obtain⟨c',hc'⟩:=hcl2 _ a2 rfl;have:=hcl x c' hc';rw[hc]at this;cases this;obtain⟨o,ho,hd⟩:=hcell;exact⟨c,(c3 x a2).trans hc',o,hk _ _ ho,hd⟩
 ·rcases c1 x c h with q| ⟨_,q⟩
  ·obtain⟨v,o,ho,hd⟩:=I.cell x c (hcl x c q);exact⟨v,o,hk _ _ ho,hd⟩
  ·exact⟨_,q⟩
 ·rcases c1 x c h with q| ⟨q,_⟩
  ·exact I.freeC x c (hcl x c q)
  ·exact I.hok.fresh (pG q)
 ·have hp':p∈X.pn++pins:=by
   have:p∈(X.pn++pins)++[]:=hp
   simpa using this
  obtain⟨a1,a2,a3,a4,a5⟩:=I.pin p hp';refine⟨hk _ _ a1,a2,bE<|aN a1,λz=> ?_,a5⟩
  rcases aS.mp (I.stkSub p.1 z)with z|z
  ·exact a3 z
  ·exact a4 z
 ·unfold uO;rw[dU,aH];exact S.len
theorem bC3 {fp:List Addr}{cl:List (Str×Addr)}{C:Addr}{σ':L2.St}{H':Hp}{s':Shared}{h2:Heap}{pins':List (Addr×Obj)}(I:Inv X pins σ H s)(hf: ∀b∈fp,aO2 X pins H b)(hC:s.heap.objs.size<=C)
  (I':Inv (bU X N scope cl C s H fp pins) pins' σ' H' s') (hs:SameBut C s'.heap h2):Inv X pins σ H' {s' with heap:=h2}:=by
 have nC: ∀b o,s.heap.get? b=some o->b≠C:=λb o e z=>by
  subst z;exact absurd (b9 (aN e) hC) (cZ _)
 have get: ∀b,b≠C->h2.get? b=s'.heap.get? b:=λb hb=>hs.2 b hb
 have U:=I'.base;have u:Un (frs X.stack) fp H H' s.heap h2:=by
  refine⟨λb o e n h1 hx=> ?_,λb o e n h1 hx=> ?_,U.free,λb o e hx=> ?_,U.tups,U.frzs,U.tbls⟩
  ·rw[get b<|nC b o e];exact U.keep b o e n h1 hx
  ·rw[get b<|nC b o e];exact U.slot b o e n h1 hx
  ·rw[get b<|nC b o e];exact U.there b o e hx
 have fC:H' C=none:=I'.free;have hok:HOk X.prog X.w H' h2:=λa o e=>by
  have na:a≠C:=λz=>by subst z;rw[fC]at e;cases e
  refine(I'.hok a o e).stay (λb u hb q=> ?_) (λ_ q=>q) λ_ _ q=>q
  have nb:b≠C:=by
   rcases hb with rfl|hb
   ·exact na
   ·exact λz=>by subst z;rw[fC]at hb;cases hb
  rw[get b nb];exact q
 obtain⟨hh,gg,dd,tt,oo⟩:=s';have eo:oo=s.os:=I'.os;subst eo;have fin:=I.call (h':=h2) (g':=gg) (d':=dd) (t':=tt) (ch:=fp) u hok I'.bare λb hb=>⟨(hf b hb).2.2.2.1,(hf b hb).2.1,(hf b hb).2.2.2.2.1,(hf b hb).2.2.2.2.2⟩
 exact fin
end
theorem a20 {prog:Program}{w:World}{A:Around}{R:Result->Shared->Prop}{s:Shared}{elt target iter:Expr}{ifs:List Expr}{scope:Scope}{pos:Pos}{it acc:Value}{env:Env}(I:Nat->Shared->Prop)
  (turn: ∀n s,I n s->wpAny (model prog w) A (pyNext it) (λr s₁=>match r with
   | none=>R (.ok .next) s₁
   | some v=>wpAny (model prog w) A (letOwnedTupleGo target it v) (λ_ s₂=>wpAny (model prog w) A (assign target env v) (λ_ s₂=>
     wpAny (model prog w) A (forIn ifs true λc r=>if r=true then do let ok<-isTrue c env (eval c env);pure (ForInStep.yield ok)else pure (ForInStep.yield r)) (λok s₃=>
      if ok=true then wpAny (model prog w) A (eval elt env) (λx s₄=>
       wpAny (model prog w) A (call (.builtin "list.append") [acc,x]) (λ_ s₅=> ∃m,m<n/\I m s₅) (notedBy (model prog w) A env λe s'=>R (.error e) s') s₄) (notedBy (model prog w) A env λe s'=>R (.error e) s') s₃
      else ∃m,m<n/\I m s₃) (notedBy (model prog w) A env λe s'=>R (.error e) s') s₂) (notedBy (model prog w) A env λe s'=>R (.error e) s') s₂) (notedBy (model prog w) A env λe s'=>R (.error e) s') s₁) (notedBy (model prog w) A env λe s'=>R (.error e) s') s)
  (n:Nat) (h:I n s):codeAny (model prog w) A (.compLoop (.ListComp elt [⟨target,iter,ifs,0⟩] scope pos) 0 it acc env) R s:=by
 refine codeAny_loop rfl I (λn s hI=> ?_) n h
 show wpAny _ A ((compTurn (.ListComp elt [⟨target,iter,ifs,0⟩] scope pos) 0 it acc env).onRaise (λx=>do noteFrame x env;theTreesLotGoes x)) _ _ s
 refine wpAny_noted ?_
 rw[compTurn_list];refine a8 (pF<|a8<|bD (turn n s hI) (λr s₁ h₁=> ?_) λ_ _ h'=>h')
 cases r with
 | none=>exact aG h₁
 | some v=>
  refine a8 (bD h₁ (λ_ s₂ h₂=>a8 (bD h₂ (λ_ s₂ h₂=>a8 (bD h₂ (λok s₃ h₃=> ?_) λ_ _ h'=>h')) λ_ _ h'=>h')) λ_ _ h'=>h')
  cases ok with
  | false=>exact aG ⟨rfl,h₃⟩
  | true=>
   exact a8 (a8<|bD h₃ (λx s₄ h₄=>a8 (bD h₄ (λ_ s₅ h₅=>aG (aG ⟨rfl,h₅⟩)) λ_ _ h'=>h')) λ_ _ h'=>h')
def PTs (X:Cx)(ifs:List Expr)(t:TT):Prop:=
 ∀(pins:List (Addr×Obj)) (s:Shared) (σ:L2.St) (H:Hp) (Q:Bool->Hp->Prop),Inv X pins σ H s->t σ H Q->
  wpAny (model X.prog X.w) X.A (forIn ifs true λc r=>if r=true then do let ok<-isTrue c X.env (eval c X.env);pure (ForInStep.yield ok)else pure (ForInStep.yield r)) (TP X pins σ Q) X.xe s
theorem d05 {X:Cx}:PTs X [] (λ_ H Q=>Q true H):=λpins s σ H Q I h=>wpAny_tests_nil ⟨H,I,h⟩
theorem d06 {X:Cx}{c:Expr}{t:TT}(h:PT X c t):PTs X [c] t:=λpins s σ H Q I q=>wpAny_tests_one (h pins s σ H Q I q)
def c68 (cap:List (Option Nat))(last:Nat)(wi:TI)(g:TG)(tt:TT)(te:TE):TE:=λσ H Q=>wi σ H λJ H1=> ∀D,H1 D=none-> ∃W:Nat->Nat->L2.St->Hp->Prop,(∃m,W 0 m (uO σ cap last D)<|upd H1 D<|.lst [])/\ ∀i m σ' H',W i m σ' H'->
 (J.stop i H'/\Q (.ref D) H')\/(J.go i H'/\ ∃Nx:L2.St->Hp->Prop,(∀σ2 H2,Nx σ2 H2-> ∃m',m'<m/\W (i+1) m' σ2 H2)/\ ∀x H2,J.yld i H' x H2->g x σ' H2 λσ3 H3=>tt σ3 H3 λc H4=>
  if c=true then te σ3 H4 λy H5=> ∃ys,H5 D=some (.lst ys)/\ys.length<sizeLine/\Nx σ3 (upd H5 D<|.lst<|ys++[y])else Nx σ3 H4)
theorem bC4 {X:Cx}{RR:Value->Addr->Result->Shared->Prop}{elt iter tg:Expr}{ifs:List Expr}{scope:Scope}{pos:Pos}{N:List Str}{cap:List (Option Nat)}{last:Nat}{wi:TI}{g:TG}{tt:TT}{te:TE}(hc:X.calm=true)(hi:PI X tg iter wi)(S:fZ X.env X.N N cap scope)
  (hN: ∀x,N[last]? =some x->scope.names.lookup x=none)
  (hg: ∀cl C s H fp pins,PG (bU X N scope cl C s H fp pins) tg g) (ht: ∀cl C s H fp pins,PTs (bU X N scope cl C s H fp pins) ifs tt) (he: ∀cl C s H fp pins,PE (bU X N scope cl C s H fp pins) elt te)
  {pins:List (Addr×Obj)} {s:Shared} {σ:L2.St} {H:Hp} {Q:VK} {cl:List (Str×Addr)} (I:Inv X pins σ H s) (h:c68 cap last wi g tt te σ H Q) (hcl: ∀x c,cl.lookup x=some c->X.env.cells.lookup x=some c) (hcl2: ∀y∈scope.names,y.2= .free-> ∃c,cl.lookup y.1=some c)
  (fin: ∀(D:Addr) (fp:List Addr) (H3:Hp) (s3:Shared) (σ':L2.St) (H':Hp) (s':Shared),Inv X pins σ H3 s3->(∀b∈fp,aO2 X pins H3 b)->Inv (bU X N scope (cellsFrom (s3.heap.objs.size+1) scope.names cl) s3.heap.objs.size s3 H3 fp pins) [] σ' H' s'->Q (.ref D) H'->RR (.ref D) s3.heap.objs.size (.ok .next) s') :
  wpAny (model X.prog X.w) X.A (eval iter X.env) (λx s₁=>wpAny (model X.prog X.w) X.A (pyIter x) (λit s₂=>wpAny (model X.prog X.w) X.A (newList []) (λacc s₃=>
   wpAny (model X.prog X.w) X.A (newFunctionEnv scope X.env.globals cl [] X.env.qual none .none<|some X.env) (λcenv s₄=>
    codeAny (model X.prog X.w) X.A (.compStart (.ListComp elt [⟨tg,iter,ifs,0⟩] scope pos) 0 it acc {cenv with scope:=relabel scope X.env}) (RR acc cenv.locals) s₄) X.xe s₃) X.xe s₂) X.xe s₁) X.xe s:=by
 refine thn (hi pins s σ H _ I h) λxv s1 h1=>thn h1 λit s2 h2=> ?_
 obtain⟨ita,fp,tn,J,H2,rfl,I2,T,st2,f2,q⟩:=h2;refine jL ?_ (by show 0<=sizeLine;decide)
 have fD:H2 s2.heap.objs.size=none:=I2.hok.fresh (aB _);obtain⟨W,⟨m0,w0⟩,turn⟩:=q s2.heap.objs.size fD;have I3:Inv X pins σ (upd H2 s2.heap.objs.size<|.lst []) {s2 with heap:=s2.heap.push {cls:= .type "list",data:= .seq ([]:List Value).toArray}}:=I2.lnew (t':=s2.toks) .nil (d6 _);have fpne: ∀b∈fp,b≠s2.heap.objs.size:=λb hb=>by
  obtain⟨o,ho,_⟩:=T.obj 0 _ st2 b hb;exact bE (aN ho)
 have f3: ∀b∈fp,aO2 X pins (upd H2 s2.heap.objs.size<|.lst []) b:=λb hb=>⟨by rw[bL<|fpne b hb];exact(f2 b hb).1,(f2 b hb).2⟩
 have k23: ∀b o,s2.heap.get? b=some o->(s2.heap.push {cls:= .type "list",data:= .seq ([]:List Value).toArray}).get? b=some o:=λb o e=>aM _ e
 have st3:tn 0 (s2.heap.push {cls:= .type "list",data:= .seq ([]:List Value).toArray}):=T.keep 0 _ _ st2 λb hb o e=>k23 b o e
 have fps: ∀b∈fp,b< (s2.heap.push {cls:= .type "list",data:= .seq ([]:List Value).toArray}).objs.size:=λb hb=>by
  obtain⟨o,ho,_⟩:=T.obj 0 _ st3 b hb;exact aN ho
 generalize hS3:({s2 with heap:=s2.heap.push {cls:= .type "list",data:= .seq ([]:List Value).toArray}}:Shared)=s3 at I3;have hh3:s3.heap=s2.heap.push {cls:= .type "list",data:= .seq ([]:List Value).toArray}:=by rw[<-hS3]
 rw[<-hh3]at st3 fps;refine bG6 ?_;have sz3:(s3.heap.push {cls:= .type "dict",data:= .dict #[]}).objs.size=s3.heap.objs.size+1:=iT ..;have hns₁:(pushCells (s3.heap.push {cls:= .type "dict",data:= .dict #[]}) scope.names).Ns s3.heap.objs.size (λ_=>none):=(Heap.Ns.new s3.heap<|.type "dict").keeps (aF9 _ _)
 have k34: ∀b o,s3.heap.get? b=some o->(pushCells (s3.heap.push {cls:= .type "dict",data:= .dict #[]}) scope.names).get? b=some o:=λb o e=>aF9 _ _ _ _ (aM _ e)
 have I4:=bO7 (tk:=s3.toks) (last:=last) (D:=s2.heap.objs.size) (cl:=cellsFrom (s3.heap.objs.size+1) scope.names cl) S I3 f3 fps hcl hcl2 hN hns₁ k34
  (λx c e=>by
   rw[<-sz3]at e;rcases aO5 _ _ _ e with q| ⟨q1,_,q3⟩
   ·exact .inl q
   ·exact .inr ⟨ad,q3⟩)
  (aO6 _ _ _ (λx c e=>by
   obtain⟨v,q⟩:=I3.cell x c (hcl x c e);exact kO q.lt) λx y c e1 e2=>I3.ok.inj x y c (hcl x c e1) (hcl y c e2))
  (λx m=>cells_keep _ _ _ λm'=>by
   have h1:=S.owns _ m' rfl;have h2:=S.freeK _ m rfl;rw[h1]at h2;cases h2)
  (λx e=>Option.isSome_iff_exists.mp (aD3 _ _ _<|.inl e))
  (λx c e1 e2=>by
   have:=sD scope.names (s3.heap.objs.size+1) cl (.inl<|oV e1) e2
   lia)
 have st4:tn 0 (pushCells (s3.heap.push {cls:= .type "dict",data:= .dict #[]}) scope.names):=T.keep 0 _ _ st3 λb hb o e=>k34 b o e
 generalize hcl':cellsFrom (s3.heap.objs.size+1) scope.names cl=cl' at I4;have loop:codeAny (model X.prog X.w) X.A (.compLoop (.ListComp elt [⟨tg,iter,ifs,0⟩] scope pos) 0 (.ref ita) (.ref s2.heap.objs.size)<|compEnvC scope cl' s3.heap.objs.size X.env)
   (RR (.ref s2.heap.objs.size) s3.heap.objs.size) {s3 with heap:=pushCells (s3.heap.push {cls:= .type "dict",data:= .dict #[]}) scope.names,toks:=s3.toks}:=by
  have stat: ∀{H':Hp},(∀b∈fp,H' b=none)-> ∀b∈fp,aO2 (bU X N scope cl' s3.heap.objs.size s3 (upd H2 s2.heap.objs.size<|.lst []) fp pins) [] H' b:=λ{H'} hn b hb=>by
   refine⟨hn b hb,bE<|fps b hb,λz=> ?_,.inl hb,λx c e=>(I4.ok.exf b hb).2 x c e,λp hp=> ?_⟩
   ·rcases aS.mp (I3.stkSub b z)with z|z
    ·exact(f3 b hb).2.1 z
    ·exact(f3 b hb).2.2.1 z
   ·have:p∈(X.pn++pins)++[]:=hp;exact(f3 b hb).2.2.2.2.2 p (by simpa using this)
  have hcb:(bU X N scope cl' s3.heap.objs.size s3 (upd H2 s2.heap.objs.size<|.lst []) fp pins).calm=true:=hc;refine a20 (λn s'=> ∃i σ' H',Inv (bU X N scope cl' s3.heap.objs.size s3 (upd H2 s2.heap.objs.size<|.lst []) fp pins) [] σ' H' s'/\tn i s'.heap/\(∀b∈fp,H' b=none)/\W i n σ' H') ?_ m0 ⟨0,_,_,I4,st4,λb hb=>(f3 b hb).1,w0⟩
  rintro n s5 ⟨i,σ5,H5,I5,st5,fr5,w5⟩;rcases turn i n σ5 H5 w5 with⟨stop,qn⟩| ⟨go,Nx,hNx,step⟩
  ·refine bD (T.done (bU X N scope cl' s3.heap.objs.size s3 (upd H2 s2.heap.objs.size<|.lst []) fp pins) rfl rfl rfl hcb i [] s5 σ5 H5 (λ_ _=>False) I5 (stat fr5) st5 stop) (λr s6 hr=> ?_) (λ_ _ z=>z.elim)
   obtain⟨rfl,I6⟩:=hr;exact fin _ fp _ s3 σ5 H5 s6 I3 f3 (hcl'▸I6) qn
  ·refine bD (T.item (bU X N scope cl' s3.heap.objs.size s3 (upd H2 s2.heap.objs.size<|.lst []) fp pins) rfl rfl rfl hcb i [] s5 σ5 H5 (λ_ _=>False) I5 (stat fr5) st5 go) (λr s6 hr=> ?_) (λ_ _ z=>z.elim)
   obtain⟨u,rfl,h6⟩:=hr;refine bD h6 (λ_ s7 h7=> ?_) (λ_ _ z=>z.elim)
   obtain⟨x,H7,I7,r7,y7,st7,fr7⟩:=h7;have I7':=I7.pinned (stat fr7) (T.obj _ _ st7);refine bD (hg _ _ _ _ _ _ _ s7 σ5 H7 x u _ I7' r7<|step x H7 y7) (λ_ s8 h8=> ?_) (λ_ _ z=>False.elim z)
   obtain⟨σ8,H8,I8,q8⟩:=h8;have again: ∀{σ9:L2.St} {H9:Hp} {s9:Shared},Inv (bU X N scope cl' s3.heap.objs.size s3 (upd H2 s2.heap.objs.size<|.lst []) fp pins) ([]++aY7 fp s7.heap) σ9 H9 s9->Nx σ9 H9-> ∃m,m<n/\ ∃i σ' H',Inv (bU X N scope cl' s3.heap.objs.size s3 (upd H2 s2.heap.objs.size<|.lst []) fp pins) [] σ' H' s9/\tn i s9.heap/\(∀b∈fp,H' b=none)/\W i m σ' H':=λ{σ9 H9 s9} I9 n9=>by
    obtain⟨m',hm,w9⟩:=hNx σ9 H9 n9;refine⟨m',hm,i+1,σ9,H9,I9.unpinned,T.keep _ _ _ st7 λb hb o e=>(I9.pin (b,o)<|dM _<|dM _<|yE hb e).1,λb hb=> ?_,w9⟩
    obtain⟨o,e,d⟩:=T.obj _ _ st7 b hb;exact(I9.pin (b,o)<|dM _<|dM _<|yE hb e).2.1
   refine bD (ht _ _ _ _ _ _ _ s8 σ8 H8 _ I8 q8) (λc s9 h9=> ?_) (λ_ _ z=>False.elim z)
   obtain⟨H9,I9,q9⟩:=h9;cases c with
   | false=>exact again I9 q9
   | true=>
    rw[a7 rfl]at q9⊢;refine bD (he _ _ _ _ _ _ _ s9 σ8 H9 _ I9 q9) (λv s10 h10=> ?_) (λ_ _ z=>False.elim z)
    obtain⟨y,H10,I10,r10,ys,e10,z10,q10⟩:=h10;refine bD (a82 (X:=(bU X N scope cl' s3.heap.objs.size s3 (upd H2 s2.heap.objs.size<|.lst []) fp pins)) _ s10 σ8 H10 (.ref s2.heap.objs.size) [y] (.ref s2.heap.objs.size) [v] (λv H=>v= .non/\Nx σ8 H) I10 rfl (.cons r10 .nil) ⟨_,ys,y,rfl,rfl,e10,z10,rfl,q10⟩) (λ_ s11 h11=> ?_) (λ_ _ z=>False.elim z)
    obtain⟨_,H11,I11,_,_,q11⟩:=h11;exact again I11 q11
 exact codeAny_compStart_list loop (T.self _ 0 _ _ _ st4 loop)
theorem aA4 {X:Cx}{N:List Str}{cap:List (Option Nat)}{scope:Scope}{pins:List (Addr×Obj)}{s:Shared}{σ:L2.St}{H:Hp}(S:fZ X.env X.N N cap scope)(I:Inv X pins σ H s) :
  ∃cl,closureFor scope X.env=pure cl/\(∀x c,cl.lookup x=some c->X.env.cells.lookup x=some c)/\ ∀y∈scope.names,y.2= .free-> ∃c,cl.lookup y.1=some c:=by
 obtain⟨cl,h1,h2,_,h4⟩:=yJ (env:=X.env) scope.names (λy hy hf=>I.ok.has y.1 (S.frees y hy hf)) [] (λx c q=>by simp at q)
 refine⟨cl,?_,h2,h4⟩
 have e:closureFor scope X.env=(forIn scope.names [] fun(x:Str×NameKind) r=>(do if(x.2==NameKind.free)=true then do let c<-cellOf X.env x.1;pure (ForInStep.yield ((x.1,c)::r))else pure (ForInStep.yield r)):Sem (List<|Str×Addr)) >>= λr=>pure r:=by
  rfl
 rw[e,h1];rfl
theorem d07 {X:Cx}{elt iter tg:Expr}{ifs:List Expr}{scope:Scope}{pos:Pos}{N:List Str}{cap:List (Option Nat)}{last:Nat}{wi:TI}{g:TG}{tt:TT}{te:TE}(hc:X.calm=true)(hi:PI X tg iter wi)(S:fZ X.env X.N N cap scope)
  (hN: ∀x,N[last]? =some x->scope.names.lookup x=none)
  (hg: ∀cl C s H fp pins,PG (bU X N scope cl C s H fp pins) tg g) (ht: ∀cl C s H fp pins,PTs (bU X N scope cl C s H fp pins) ifs tt) (he: ∀cl C s H fp pins,PE (bU X N scope cl C s H fp pins) elt te)
  (hs: ∀x,foldedSetIterable iter X.env x=pure x:=by intro _;rfl):PE X (.ListComp elt [⟨tg,iter,ifs,0⟩] scope pos) (c68 cap last wi g tt te):=by
 intro pins s σ H Q I h;rw[eval_ListComp];obtain⟨cl,hcl0,hcl,hcl2⟩:=aA4 S I;refine wpAny_comprehension_free (use:=none) rfl hs hcl0 S.kind S.names ?_;refine bC4 (RR:=λacc C=>compPost (model X.prog X.w) X.A X.xe none (EP X pins σ Q) acc C) hc hi S hN hg ht he I h hcl hcl2 λD fp H3 s3 σ' H' s' I3 f3 I' q=> ?_
 obtain⟨m6,hn6,_⟩:=I'.loc;exact⟨m6,hn6,λh' hs'=>⟨.ref D,H',bC3 I3 f3 (aB _) I' hs',rfl,q⟩⟩
theorem c00 {X:Cx}{elt iter tg:Expr}{ifs:List Expr}{scope:Scope}{pos spos py:Pos}{y:Str}{i:Nat}{N:List Str}{cap:List (Option Nat)}{last:Nat}{wi:TI}{g:TG}{tt:TT}{te:TE}(hc:X.calm=true)(hi:PI X tg iter wi)(S:fZ X.env X.N N cap scope)
  (hN: ∀x,N[last]? =some x->scope.names.lookup x=none)
  (hg: ∀cl C s H fp pins,PG (bU X N scope cl C s H fp pins) tg g) (ht: ∀cl C s H fp pins,PTs (bU X N scope cl C s H fp pins) ifs tt) (he: ∀cl C s H fp pins,PE (bU X N scope cl C s H fp pins) elt te)
  (hy:PG X (.Name y py) (a14 i)) (hsw:swapsWith (.ListComp elt [⟨tg,iter,ifs,0⟩] scope pos) (some<|.Name y py) spos.line X.env=pure true:=by rfl)
  (hs: ∀x,foldedSetIterable iter X.env x=pure x:=by intro _;rfl):PS X (.Assign [.Name y py] (.ListComp elt [⟨tg,iter,ifs,0⟩] scope pos) spos) (cX8 (c68 cap last wi g tt te)<|a14 i):=by
 intro pins s σ H D I h;rw[exec_Assign_Name_used _ _ _ _ hsw];refine a8 (pF<|a8 ?_);obtain⟨cl,hcl0,hcl,hcl2⟩:=aA4 S I;show wpAny _ X.A (do let _<-comprehension (.ListComp elt [⟨tg,iter,ifs,0⟩] scope pos) scope X.env _ (newList []) false (eval iter X.env) (some<|assign (.Name y py) X.env)) _ _ s
 refine a8 (bD (wpAny_comprehension_free (use:=some (assign (.Name y py) X.env)) (Q:=λ_ s'=>SP X pins D .next s') rfl hs hcl0 S.kind S.names ?_) (λ_ s' hq=>aG (aG hq)) λ_ _ e=>e)
 refine bC4 (RR:=λacc C=>compPost (model X.prog X.w) X.A X.xe (some<|assign (.Name y py) X.env) (λ_ s'=>SP X pins D .next s') acc C) hc hi S hN hg ht he I h hcl hcl2 λD' fp H3 s3 σ' H' s' I3 f3 I' q=> ?_
 obtain⟨m6,hn6,_⟩:=I'.loc;obtain⟨o6,es6,ep6,ho6,rest6⟩:=id hn6;have J:Inv X pins σ H' s':=bC3 (h2:=s'.heap) I3 f3 (aB _) I' (.refl ..);have fC:H' s3.heap.objs.size=none:=I'.free;have neL:s3.heap.objs.size≠X.env.locals:=pH I3.lt;have neF:s3.heap.objs.size ∉ X.fs:=I3.nofs (aB _);have neC: ∀x c,X.env.cells.lookup x=some c->c≠s3.heap.objs.size:=λx c e z=>by
  obtain⟨v,qq⟩:=I3.cell x c e;exact absurd (b9 qq.lt (by rw[z];exact aB _)) (cZ _)
 have neP: ∀p∈X.pn++pins,p.1≠s3.heap.objs.size:=λp hp z=>by
  have:=aN (I3.pin p hp).1;rw[z]at this;exact cZ _ this
 have nd: ∀v,o6.data≠ .cell v:=λv z=>by
  have:o6.data= .dict es6 ep6:=rest6.1;rw[this]at z;cases z
 have J':Inv X (pins++[(s3.heap.objs.size,o6)]) σ H' s':=J.pins_of λp hp=>(bS.mp hp).elim (λz=>J.pin p (dM _ z)) λz=>by
  have e:p=(s3.heap.objs.size,o6):=by simpa using z
  subst e;exact⟨ho6,fC,neL,neF,nd⟩
 show wpAny _ X.A (assign (.Name y py) X.env<|.ref D') _ _ _
 refine thn (hy _ s' σ H' (.ref D') (.ref D') D.nx J' rfl q) λ_ s7 ⟨σ7,H7,I7,q7⟩=> ?_
 obtain⟨e7,n7,_⟩:=I7.pin (s3.heap.objs.size,o6) (dM _<|dM _ ae)
 refine⟨m6,⟨o6,es6,ep6,e7,rest6⟩,λh' hs'=> ?_⟩
 have I8:=I7.unpinned;exact⟨σ7,H7,I8.turned (t':=s7.toks) (λb o hb e=>(hs'.2 b hb).trans e) n7 neL (.inr<|aT I3.sz<|aB _) neC neP,q7⟩
end L2
namespace M
open PySem PySem.Spec PyProof.Rows L2
noncomputable def d08:B->B
 | .pu d=> .pu d
 | .ow l=> .bo l
 | .bo l=> .bo l
noncomputable def tL (ρ:Ev)(cap:List (Option Nat))(last:Nat):Ev:=(cap.map λc=>c.bind λj=>((ρ[j]?).join).map d08).set last (some<|.ow [])
noncomputable def d09 (ρ:Ev)(j:Nat):Ev:=match ρ[j]? with
 | some (some<|.ow l)=>ρ.set j (some<|.pu<|.lst l)
 | _=>ρ
noncomputable def aG6:Ev->List Nat->Ev
 | ρ,[]=>ρ
 | ρ,j::js=>aG6 (d09 ρ j) js
theorem cL9 (ρ:Ev)(j:Nat):Frz ρ (d09 ρ j):=by
 unfold d09;split
 ·rename_i l e
  exact .set e
 ·exact .refl _
theorem bO8: ∀(js:List Nat) (ρ:Ev),Frz ρ (aG6 ρ js)
 | [],ρ=> .refl _
 | j::js,ρ=>(cL9 ρ j).trans (bO8 js _)
def gC (js:List Nat)(cap:List (Option Nat))(last:Nat)(ui:UI)(g:UG)(tt:UT)(te:UE):UE:=λρ Q=>ui ρ λn it ρ1=> ∃Pv:Nat->Ev->Prop,Pv 0 (tL (aG6 ρ1 js) cap last)/\
 (∀i ρ',i<n->Pv i ρ'->g (.pu<|it i) ρ' λρ2=>tt ρ2 λc ρ3=>if c=true then te ρ3 λb ρ4=>qK ρ4 last λl=>l.length<sizeLine/\Pv (i+1) (ρ4.set last<|some<|.ow<|l++[b.d])else Pv (i+1) ρ3)/\
 ∀ρ',Pv n ρ'->qK ρ' last λl=>Q (.ow l) (aG6 ρ1 js)
section
variable {X:Cx}{K:Frag}{C:C0}{ρ ρ':Ev}{σ σ':L2.St}{H H':Hp}
theorem cap_ok {cap:List (Option Nat)}{last:Nat}{Dn:Addr}(I:EOk K C ρ σ H)(hl:last<cap.length)(n:H Dn=none) :
  EOk K ⟨H,Av C ρ σ⟩ (tL ρ cap last) (uO σ cap last Dn) (upd H Dn<|.lst []):=by
 have pu: ∀(i:Nat) (z:B),last≠i->(tL ρ cap last)[i]? =some (some z)-> ∃(j:Nat) (z':B),cap[i]? =some (some j)/\z=d08 z'/\ρ[j]? =some (some z'):=λi z ne h=>by
  unfold tL at h;rw[get_set_ne ne,bI]at h;cases e4:cap[i]? with
  | none=>rw[e4]at h;cases h
  | some c=>
   rw[e4]at h;cases c with
   | none=>cases h
   | some j=>
    have h':((ρ[j]?).join).map d08=some z:=by simpa using h
    cases q:ρ[j]? with
    | none=>rw[q]at h';cases h'
    | some w=>
     rw[q]at h';cases w with
     | none=>cases h'
     | some w'=>cases h';exact⟨j,w',rfl,rfl,q⟩
 have sgm: ∀(i j:Nat) (v:V),last≠i->cap[i]? =some (some j)->σ[j]? =some (some v)->(uO σ cap last Dn)[i]? =some (some v):=λi j v e e1 h1=>by
  unfold uO;rw[get_set_ne e,bI,e1];show some ((σ[j]?).join)=_;rw[h1];rfl
 have atl:(tL ρ cap last)[last]? =some (some<|.ow []):=by
  unfold tL;exact iX (by rw[aH];exact hl)
 have sal:(uO σ cap last Dn)[last]? =some (some<|.ref Dn):=by
  unfold uO;exact iX (by rw[aH];exact hl)
 have noOw: ∀(i:Nat) (l:List D),last≠i->(tL ρ cap last)[i]? ≠some (some<|.ow l):=λi l e h=>by
  obtain⟨j,z',_,z,_⟩:=pu i _ e h;cases z'<;>cases z
 have own: ∀a,Own (tL ρ cap last) (uO σ cap last Dn) a->a=Dn:=λa ⟨i,l,h1,h2⟩=>by
  by_cases e:last=i
  ·subst e;rw[sal]at h2;cases h2;rfl
  ·exact absurd h1 (noOw i l e)
 have P:lY (Av C ρ σ) H (Av ⟨H,Av C ρ σ⟩ (tL ρ cap last)<|uO σ cap last Dn) (upd H Dn<|.lst []):=λb o nb e=>by
  have ne:b≠Dn:=λz=>by subst z;rw[n]at e;cases e
  refine⟨?_,by rw[bL ne];exact e⟩
  rintro(z|z)
  ·exact nb z
  ·exact ne (own b z)
 refine⟨by unfold tL uO;rw[dU,dU,aH,aH],λi d h=> ?_,λi l h=> ?_,λi j l l' a h1 h2 h3 h4=> ?_,λi l h=> ?_,eW n _,λa z=>I.avSome z⟩
 ·by_cases e:last=i
  ·subst e;rw[atl]at h;cases h
  ·obtain⟨j,z',e1,z,e2⟩:=pu i _ e h;cases z' with
   | pu d'=>
    cases z;obtain⟨v,h1,h2⟩:=I.pu j d e2;exact⟨v,sgm i j v e e1 h1,h2.mono P⟩
   | ow l=>cases z
   | bo l=>cases z
 ·by_cases e:last=i
  ·subst e;rw[atl]at h;cases h;exact⟨Dn,[],sal,iB,n,.nil⟩
  ·exact absurd h (noOw i l e)
 ·have e1:last=i:=wZ λe=>absurd h1 (noOw i l e)
  have e2:last=j:=wZ λe=>absurd h2 (noOw j l' e)
  exact e1.symm.trans e2
 ·by_cases e:last=i
  ·subst e;rw[atl]at h;cases h
  ·obtain⟨j,z',e1,z,e2⟩:=pu i _ e h;cases z' with
   | pu d'=>cases z
   | ow l'=>
    cases z;obtain⟨a,vs,h1,h2,h3,h4⟩:=I.ow j l e2;exact⟨a,vs,sgm i j _ e e1 h1,.inr ⟨j,l,e2,h1⟩,h2,h4.mono P⟩
   | bo l'=>
    cases z;obtain⟨a,vs,h1,h2,h3,h4⟩:=I.bo j l e2;exact⟨a,vs,sgm i j _ e e1 h1,.inl h2,I.ext _ _ h3,h4.mono P⟩
theorem d95 {js:List Nat}{cap:List (Option Nat)}{last:Nat}{ui:UI}{g:UG}{T:List Nat}{tt:UT}{te:UE}(hl:last<cap.length)(hT:last ∉ T)(σ:L2.St)(H:Hp)(Q:VK)(h:lE K (gC js cap last ui g tt te) σ H Q) :
  c68 cap last (lI K ui) (lG K T g) (lT K tt) (lE K te) σ H Q:=by
 obtain⟨C,ρ,Q0,I,h,k⟩:=h;refine⟨C,ρ,_,I,h,λn it ρ1 J H1 q f s ok Dn nD=> ?_⟩
 obtain⟨Pv,p0,turn,fin⟩:=q;have fz:=bO8 js ρ1;have I1:EOk K C (aG6 ρ1 js) σ H1:=((I.frz f).same s).frz fz;generalize aG6 ρ1 js=ρ2 at fz I1 p0 fin;have P12: ∀{A':AS} {H':Hp},lY (Av C ρ2 σ) H1 A' H'->lY (Av C ρ1 σ) H1 A' H':=λp b o nb e=>p b o (λz=>nb (fz.av z)) e
 have I2:=cap_ok I1 hl nD;have own0: ∀{ρ':Ev} {σ':L2.St} {H':Hp},EOk K ⟨H1,Av C ρ2 σ⟩ ρ' σ' H'->lY (Av C ρ2 σ) H1 (Av ⟨H1,Av C ρ2 σ⟩ ρ' σ') H':=λ{ρ' σ' H'} J' b o nb e=>by
  refine⟨?_,J'.ext b o e⟩
  rintro(z| ⟨i,l,h1,h2⟩)
  ·exact nb z
  ·obtain⟨a,vs,h3,h4,h5,_⟩:=J'.ow i l h1;rw[h2]at h3;cases h3;have e':(⟨H1,Av C ρ2 σ⟩:C0).H0 b=some o:=e;rw[h5]at e';cases e'
 have sal:(uO σ cap last Dn)[last]? =some (some<|.ref Dn):=by
  unfold uO;exact iX (by rw[aH];exact hl)
 refine⟨λi m σ' H'=>m=n-i/\i<=n/\σ'[last]? =some (some<|.ref Dn)/\ ∃ρ',EOk K ⟨H1,Av C ρ2 σ⟩ ρ' σ' H'/\Pv i ρ',⟨n,rfl,d6 _,sal,_,I2,p0⟩,?_⟩
 rintro i m σ' H' ⟨rfl,hi,hlast,ρ',J',p'⟩;have P:=P12 (own0 J')
 by_cases hlt:i<n
 ·refine .inr ⟨ok.go _ _ i P hlt,λσ2 H2=>σ2[last]? =some (some<|.ref Dn)/\ ∃ρ3,EOk K ⟨H1,Av C ρ2 σ⟩ ρ3 σ2 H2/\Pv (i+1) ρ3,λσ2 H2 z=>⟨n-(i+1),aa,rfl,hlt,z⟩,λx H2 y=> ?_⟩
  obtain⟨s2,r2⟩:=ok.yld _ _ i x H2 P (λa z=>J'.avSome z) hlt y
  refine⟨_,ρ',.pu<|it i,H',_,J',s2,r2,turn i ρ' hlt p',λρ3 σ3 H3 q3 J3 same3=> ?_⟩
  have l3:σ3[last]? =some (some<|.ref Dn):=(same3 last hT).trans hlast;refine⟨_,ρ3,_,J3,q3,λc ρ4 H4 q4 f4 s4=> ?_⟩
  have J4:=(J3.frz f4).same s4;cases c with
  | false=>
   dsimp only at q4⊢;rw[a6 bC]at q4⊢;exact⟨l3,ρ4,J4,q4⟩
  | true=>
   dsimp only at q4⊢;rw[a7 rfl]at q4⊢;refine⟨_,ρ4,_,J4,q4,λb ρ5 v H5 q5 f5 s5 r5=> ?_⟩
   have J5:=(J4.frz f5).same s5;obtain⟨l,hl5,hz,q5⟩:=jY q5;obtain⟨a,vs,g1,g2,g3,g4⟩:=J5.ow last l hl5;rw[l3]at g1;cases g1;refine⟨vs,g2,by rw[<-g4.length];exact hz,l3,_,J5.write hl5 l3<|g4.append<|.cons (r5.rep λa z=>J4.avF f5 z) .nil,q5⟩
 ·have e:i=n:=aa
  subst e;obtain⟨l,hl5,q5⟩:=jY (fin ρ' p');obtain⟨a,vs,g1,g2,g3,g4⟩:=J'.ow last l hl5;rw[hlast]at g1;cases g1;refine .inl ⟨ok.stop _ _ P,k _ _ _ _ q5 (f.trans fz) (s.trans J'.ext) ⟨Dn,vs,rfl,s.free nD,g2,?_⟩⟩;refine g4.mono λb o nb e=>⟨?_,e⟩
  rintro(z|z)
  ·exact nb (.inl z)
  ·subst z;exact nb (.inr ⟨last,l,hl5,hlast⟩)
theorem gI: ∀{X:Cx},PTs X [] (lT X.K λρ Q=>Q true ρ):=λ{X} pins s σ H Q I ⟨C,ρ,Q0,J,h,k⟩=>d05 pins s σ H Q I (k _ ρ H h (.refl _)<|.refl _)
theorem d10 {c:Expr}{t:UT}(h:PUT X c t):PTs X [c] (lT X.K t):=d06 h
theorem d11 {elt iter tg:Expr}{ifs:List Expr}{scope:Scope}{pos:Pos}{N:List Str}{js:List Nat}{cap:List (Option Nat)}{last:Nat}{ui:UI}{g:UG}{T:List Nat}{tt:UT}{te:UE}(hc:X.calm=true)(hi:PUI X tg iter ui)(S:fZ X.env X.N N cap scope)
  (hN: ∀x,N[last]? =some x->scope.names.lookup x=none) (hl:last<cap.length) (hT:last ∉ T)
  (hg: ∀cl C s H fp pins,PUG (bU X N scope cl C s H fp pins) tg T g) (ht: ∀cl C s H fp pins,PTs (bU X N scope cl C s H fp pins) ifs<|lT X.K tt) (he: ∀cl C s H fp pins,PU (bU X N scope cl C s H fp pins) elt te)
  (hs: ∀x,foldedSetIterable iter X.env x=pure x:=by intro _;rfl):PU X (.ListComp elt [⟨tg,iter,ifs,0⟩] scope pos) (gC js cap last ui g tt te):=
 iJ (d07 (g:=lG X.K T g) (tt:=lT X.K tt) (te:=lE X.K te) hc hi S hN hg ht he hs) (d95 hl hT)
theorem c01 {elt iter tg:Expr}{ifs:List Expr}{scope:Scope}{pos spos py:Pos}{y:Str}{N:List Str}{js:List Nat}{cap:List (Option Nat)}{last:Nat}{ui:UI}{g:UG}{T:List Nat}{tt:UT}{te:UE}(i:Nat)(hc:X.calm=true)(hi:PUI X tg iter ui)(S:fZ X.env X.N N cap scope)
  (hN: ∀x,N[last]? =some x->scope.names.lookup x=none) (hl:last<cap.length) (hT:last ∉ T)
  (hg: ∀cl C s H fp pins,PUG (bU X N scope cl C s H fp pins) tg T g) (ht: ∀cl C s H fp pins,PTs (bU X N scope cl C s H fp pins) ifs<|lT X.K tt) (he: ∀cl C s H fp pins,PU (bU X N scope cl C s H fp pins) elt te)
  (hy:PG X (.Name y py) (a14 i)) (hi': ∀pins σ H s,Inv X pins σ H s->i<σ.length) (hsw:swapsWith (.ListComp elt [⟨tg,iter,ifs,0⟩] scope pos) (some<|.Name y py) spos.line X.env=pure true:=by rfl)
  (hs: ∀x,foldedSetIterable iter X.env x=pure x:=by intro _;rfl):PUS X (.Assign [.Name y py] (.ListComp elt [⟨tg,iter,ifs,0⟩] scope pos) spos) (cE i<|gC js cap last ui g tt te):=by
 intro pins s σ H D I q;refine c00 (g:=lG X.K T g) (tt:=lT X.K tt) (te:=lE X.K te) hc hi S hN hg ht he hy hsw hs pins s σ H D I ?_;obtain⟨C,ρ,D0,J,h,k⟩:=q;exact d95 hl hT σ H _ ⟨C,ρ,_,J,h,λb ρ1 v H1 q f s1 r=>k.nx _ _ _ q ((J.frz f).store s1 r<|hi' pins σ H s I)⟩
end
end M
end
section
namespace L2
open PySem PySem.Spec PyProof.Rows
section
variable {X:Cx}
theorem c69 {bs:List Bool}: ∀{its:List Value},Vals (bs.map V.bl) its->LSm.BoolsAre its bs:=by
 induction bs with
 | nil=>intro its r;cases r;exact .nil
 | cons b bs ih=>
  intro its r;cases r with
  | cons r1 r2=>
   cases r1;exact .cons b (ih r2)
theorem c02 (hc:X.calm=true):qH X (.builtin "all") (λxs H Q=> ∃(p:Addr) (bs:List Bool),xs=[.ref p]/\SqL X.K H p (bs.map V.bl)/\Q (.bl<|bs.all id) H):=by
 intro pins s σ H xs us Q I r h;obtain⟨p,bs,rfl,hq,q⟩:=h;obtain⟨u,rfl,rx⟩:=vals1 r;cases rx;obtain⟨its,rv,pl,hz⟩:=I.list hq;have ba:=c69 rv;refine call_all_walk (sO pl.isList ?_);have hne:p≠s.heap.objs.size:=by
  obtain⟨o,n,e,_⟩:=pl;exact bE (aN e)
 refine⟨s.heap.objs.size,_,_,_,_,_,λi=>(bs[i]?).getD true,rfl,Walks.list (A:=X.A.in1) (I.ok.hd hc) s.heap.objs.size p (λz=>hne z) its.toArray,⟨⟨_,bN _ rfl,rfl,rfl⟩,pl.isList.push _⟩,?_,λh' tk hk=> ?_⟩
 ·intro i v s' Q' E' hP hQ;obtain⟨b,hb,rfl⟩:=ba.get i v (by simpa using hP)
  refine jK ?_
  have e:(λi=>(bs[i]?).getD true) i=b:=by simp[hb]
  dsimp only at hQ;rw[hb]at hQ;exact hQ
 ·have e:=LSm.range_all bs;have hl:=ba.length;have e2:its.toArray.size=bs.length:=by rw[aY,hl]
  rw[e2,e];exact⟨.bl<|bs.all id,H,I.kept λb o e=>hk b o (by simpa using bE (aN e)) (aM _ e),rfl,q⟩
theorem c03 (hc:X.calm=true):qH X (.builtin "sum") (λxs H Q=> ∃(p:Addr) (ns:List Int),xs=[.ref p]/\SqL X.K H p (ns.map V.int)/\Q (.int ns.sum) H):=by
 intro pins s σ H xs us Q I r h;obtain⟨p,ns,rfl,hq,q⟩:=h;obtain⟨u,rfl,rx⟩:=vals1 r;cases rx;obtain⟨its,rv,pl,hz⟩:=I.list hq;have hi:IntsAre its ns:=by simpa using intsAre_of rv
 obtain⟨xs,hx⟩:=hi.allInts.items;have hl':s.heap.IsList p (intItems xs):=hx▸pl.isList;refine sum_intListG (I.ok.hd hc) hl' λh' tk t' hk=> ?_
 have e1:ns=xs.toList.map (·.1):=by
  rw[<-nums_intItems,<-hx];exact(show numsOf its.toArray.toList=ns from hi.numsOf).symm
 have e2:preSum (numAt xs) xs.size=ns.sum:=by
  rw[preSum_eq,xB ae,e1]
 rw[e2];exact⟨.int ns.sum,H,I.kept hk,⟨_,rfl⟩,q⟩
noncomputable def wH (esc:List (Str×NameKind))(XN N:List Str)(cap:List (Option Nat))(scope:Scope)(last:Nat):Bool:=
 (scope.kind== .function)&&scope.names.all (λy=>y.2 != .cell||scope.names.lookup y.1==some .cell)&&scope.names.all (λy=>y.2 != .free||scope.names.lookup y.1==some .free)&&scope.names.all (λy=>y.2 != .local||scope.names.lookup y.1==some .local)&&
 scope.names.all (λy=>y.2 != .free||esc.lookup y.1==some .cell||esc.lookup y.1==some .free)&&
 (N.zip cap).all (λz=>match z.2 with|none=>true|some j=>XN[j]? ==some z.1&&scope.names.contains (z.1,.free)&&scope.names.lookup z.1==some .free)&&
 (cap.length==N.length)&&(match N[last]? with|some x=>(scope.names.lookup x).isNone|none=>true)
theorem fZ.of {env:Env}{esc:List (Str×NameKind)}{XN N:List Str}{cap:List (Option Nat)}{scope:Scope}{last:Nat}(he:env.scope.names=esc)(h:wH esc XN N cap scope last=true) :
  fZ env XN N cap scope/\ ∀x,N[last]? =some x->scope.names.lookup x=none:=by
 unfold wH at h;simp only[dN,cX,fW]at h;obtain⟨⟨⟨⟨⟨⟨⟨h1,h2⟩,h2'⟩,h3⟩,h4⟩,h5⟩,h6⟩,h7⟩:=h;have hk: ∀x,env.kindOf x=esc.lookup x:=λx=>by unfold Env.kindOf;rw[he]
 refine⟨⟨h1,λy hy hl=>by have:=h2 y hy;rw[hl]at this;simpa using this,λy hy hl=>by have:=h2' y hy;rw[hl]at this;simpa using this,λy hy hl=> ?_,λy hy hf=> ?_,λi j x e1 e2=> ?_,h6⟩,λx e=> ?_⟩
 ·have:=h3 y hy;rw[hl]at this
  simpa using this
 ·have:=h4 y hy;rw[hf]at this;rw[hk]
  simpa using this
 ·have hm:(x,some j)∈N.zip cap:=by
   refine sJ (i:=i) ?_
   rw[List.getElem?_zip_eq_some];exact⟨e1,e2⟩
  have:=h5 _ hm;simp only[dN,fW]at this;obtain⟨⟨a,b⟩,c⟩:=this;exact⟨a,by simpa using b,c⟩
 ·rw[e]at h7
  simpa using h7
end
end L2
namespace M
open PySem PySem.Spec PyProof.Rows L2
section
variable {X:Cx}{K:Frag}{A:AS}{H:Hp}
noncomputable def v9:List D->Option (List Bool)
 | []=>some []
 | .bl b::r=>(v9 r).map (b::·)
 | _=>none
noncomputable def aK1:List D->Option (List Int)
 | []=>some []
 | .int b::r=>(aK1 r).map (b::·)
 | _=>none
theorem iY (bs:List Bool):v9 (bs.map .bl)=some bs:=by
 induction bs with
 | nil=>rfl
 | cons b bs ih=>rw[bW];show(v9<|bs.map .bl).map _=_;rw[ih];rfl
theorem cD0 (bs:List Int):aK1 (bs.map .int)=some bs:=by
 induction bs with
 | nil=>rfl
 | cons b bs ih=>rw[bW];show(aK1<|bs.map .int).map _=_;rw[ih];rfl
theorem aG7: ∀{l:List D} {bs:List Bool} {vs:List V},v9 l=some bs->bG K A H l vs->vs=bs.map V.bl
 | [],bs,vs,h,r=>by cases h;exact r.unnil
 | d::r,bs,vs,h,q=>by
  obtain⟨v,vr,rfl,rv,rr⟩:=q.uncons;cases d with
  | bl b=>
   have h':(v9 r).map (b::·)=some bs:=h;cases e:v9 r with
   | none=>rw[e]at h';cases h'
   | some bs'=>
    rw[e]at h';cases h';rw[yI rv,aG7 e rr];rfl
  | _=>cases h
theorem bC5: ∀{l:List D} {bs:List Int} {vs:List V},aK1 l=some bs->bG K A H l vs->vs=bs.map V.int
 | [],bs,vs,h,r=>by cases h;exact r.unnil
 | d::r,bs,vs,h,q=>by
  obtain⟨v,vr,rfl,rv,rr⟩:=q.uncons;cases d with
  | int b=>
   have h':(aK1 r).map (b::·)=some bs:=h;cases e:aK1 r with
   | none=>rw[e]at h';cases h'
   | some bs'=>
    rw[e]at h';cases h';rw[bF rv,bC5 e rr];rfl
  | _=>cases h
noncomputable def b00:List D->(B->Prop)->Prop:=g1 λd Q=>match d with
 | .lst l=>(match v9 l with
  | some bs=>Q (.pu<|.bl<|bs.all id)
  | none=>False)
 | _=>False
theorem a21 (hc:X.calm=true):wD X (.builtin "all") b00:=by
 intro A H ds vs Q0 Q hA r g k;obtain⟨d,v,rfl,rfl,rv,g⟩:=aG4 g r;cases d with
 | lst l=>
  dsimp only at g;cases e:v9 l with
  | none=>rw[e]at g;exact g.elim
  | some bs=>
   rw[e]at g;simp only[Rep]at rv;obtain⟨a,vs,rfl,n,c,rs⟩:=rv;rw[aG7 e rs]at c;exact⟨_,c02 hc,a,bs,rfl,SqL.of c,k _ _ H g (.refl _) jT⟩
 | _=>exact(show False from g).elim
noncomputable def gSum:List D->(B->Prop)->Prop:=g1 λd Q=>match d with
 | .lst l=>(match aK1 l with
  | some ns=>Q (.pu<|.int ns.sum)
  | none=>False)
 | _=>False
theorem cu_sum (hc:X.calm=true):wD X (.builtin "sum") gSum:=by
 intro A H ds vs Q0 Q hA r g k;obtain⟨d,v,rfl,rfl,rv,g⟩:=aG4 g r;cases d with
 | lst l=>
  dsimp only at g;cases e:aK1 l with
  | none=>rw[e]at g;exact g.elim
  | some bs=>
   rw[e]at g;simp only[Rep]at rv;obtain⟨a,vs,rfl,n,c,rs⟩:=rv;rw[bC5 e rs]at c;exact⟨_,c03 hc,a,bs,rfl,SqL.of c,k _ _ H g (.refl _) aJ8⟩
 | _=>exact(show False from g).elim
theorem c70 {x:Str}{i:Int}{t:Tok}{p:Pos}(hg:Gl X x)(hm:X.mg x=some (.int i t))(hd:(x==("__debug__":Str))=false:=by decide):PU X (.Name x p) (uC<|.int i):=
 bG3 (c56 (v:= .int i) hg hm ⟨t,rfl⟩ hd) λA H=>by simp only[Rep]
theorem a22:bootBuiltins "all"=some (.builtin "all"):=af
theorem bt_sum:bootBuiltins "sum"=some (.builtin "sum"):=af
theorem a23 {elt iter tg:Expr}{ifs:List Expr}{scope:Scope}{pos:Pos}{esc:List (Str×NameKind)}{N:List Str}{js:List Nat}{cap:List (Option Nat)}{last:Nat}{ui:UI}{g:UG}{T:List Nat}{tt:UT}{te:UE}{XN:List Str}(he0:X.env.scope.names=esc)(hx0:X.N=XN)(lk:wH esc XN N cap scope last=true)(hl:last<cap.length)(hT:last ∉ T)(hc:X.calm=true)(hi:PUI X tg iter ui)
  (hg: ∀cl C s H fp pins,PUG (bU X N scope cl C s H fp pins) tg T g) (ht: ∀cl C s H fp pins,PTs (bU X N scope cl C s H fp pins) ifs<|lT X.K tt) (he: ∀cl C s H fp pins,PU (bU X N scope cl C s H fp pins) elt te)
  (hs: ∀x,foldedSetIterable iter X.env x=pure x:=by intro _;rfl):PU X (.ListComp elt [⟨tg,iter,ifs,0⟩] scope pos) (gC js cap last ui g tt te):=
 d11 hc hi (fZ.of he0<|hx0▸lk).1 (fZ.of he0<|hx0▸lk).2 hl hT hg ht he hs
theorem bO9 {elt iter tg:Expr}{ifs:List Expr}{scope:Scope}{pos spos py:Pos}{y:Str}{esc:List (Str×NameKind)}{N:List Str}{js:List Nat}{cap:List (Option Nat)}{last:Nat}{ui:UI}{g:UG}{T:List Nat}{tt:UT}{te:UE}(i:Nat){XN:List Str}(he0:X.env.scope.names=esc)(hx0:X.N=XN)(lk:wH esc XN N cap scope last=true)(hl:last<cap.length)(hT:last ∉ T)(hc:X.calm=true)(hi:PUI X tg iter ui)
  (hg: ∀cl C s H fp pins,PUG (bU X N scope cl C s H fp pins) tg T g) (ht: ∀cl C s H fp pins,PTs (bU X N scope cl C s H fp pins) ifs<|lT X.K tt) (he: ∀cl C s H fp pins,PU (bU X N scope cl C s H fp pins) elt te)
  (hy:PG X (.Name y py) (a14 i)) (hi': ∀pins σ H s,Inv X pins σ H s->i<σ.length) (hsw:swapsWith (.ListComp elt [⟨tg,iter,ifs,0⟩] scope pos) (some<|.Name y py) spos.line X.env=pure true:=by rfl)
  (hs: ∀x,foldedSetIterable iter X.env x=pure x:=by intro _;rfl):PUS X (.Assign [.Name y py] (.ListComp elt [⟨tg,iter,ifs,0⟩] scope pos) spos) (cE i<|gC js cap last ui g tt te):=
 c01 i hc hi (fZ.of he0<|hx0▸lk).1 (fZ.of he0<|hx0▸lk).2 hl hT hg ht he hy hi' hsw hs
def aK2 (te:UE):US:=λD ρ=>te ρ λ_ ρ1=>D.nx ρ1
theorem bG7 {e:Expr}{pos:Pos}{te:UE}(he:PU X e te)(hs:swapsWith e none pos.line X.env=pure false:=by rfl):PUS X (.Expr e pos) (aK2 te):=
 nS (a81 he hs) λD σ H ⟨C,ρ,D0,I,h,k⟩=>⟨C,ρ,_,I,h,λb ρ1 v H1 q f s r=>k.nx _ _ _ q ((I.frz f).same s)⟩
theorem mD: ∀ds ρ Q,rK ds ρ Q->ds.length=0:=λds ρ Q h=>by rw[h.1];rfl
theorem cT {i n:Nat}{u:UGs}(h: ∀ds ρ Q,u ds ρ Q->ds.length=n): ∀ds ρ Q,fB i u ds ρ Q->ds.length=n+1:=λds ρ Q q=>by
 cases ds with
 | nil=>exact(show False from q).elim
 | cons d r=>rw[gJ,h r _ Q q.2]
end
theorem Fn.void {P:Program}{w:World}{K:Frag}{mg:Str->Option Value}{base:Heap}{x qual:Str}{st:Stmt}{f:Addr}{fd:FuncData}{ps:List Str}{φ:Φ}(F:Fun K x qual st f fd)(m:mg x=some (.ref f))(b:Binds K fd ps [])(h: ∀ds Q,¬φ ds Q):Fn P w K mg base x ps 1 φ:=
 ⟨f,fd,⟨λvs H Q E ⟨_,ds,Q0,_,_,z,_⟩=>absurd z (h ds Q0),λA outer s H args us vs Q E _ _ _ _ ⟨_,ds,Q0,_,_,z,_⟩=>absurd z (h ds Q0)⟩,b,F.kp,m⟩
end M
end
section
namespace HT
open PySem PyProof.Rows
end HT
namespace L2
open PySem PySem.Spec PyProof.Rows
end L2
namespace M
open PySem PySem.Spec PyProof.Rows L2
section
variable {X:Cx}{K:Frag}{A:AS}{H:Hp}{e e3:Expr}{t3:UE}{pos p2:Pos}
def gRev (d:D)(Q:B->Prop):Prop:=match d with
 | .tup l=>Q (.pu<|.tup l.reverse)
 | _=>False
def uRev (t:UV)(t3:UE):UE:=λρ Q=>t ρ λd ρ1=>t3 ρ1 λb ρ2=>b.d= .int (-1)/\gRev d λb=>Q b ρ2
def gIn (neg:Bool)(d e:D)(Q:B->Prop):Prop:= ∃(i:Int) (js:List Int),d= .int i/\(e= .tup (js.map D.int)\/e= .lst (js.map D.int)\/e= .rol (js.map D.int))/\Q (.pu<|.bl<|neg ^^ decide (i∈js))
theorem bG.unints: ∀{js:List Int} {vs:List V},bG K A H (js.map D.int) vs->vs=js.map V.int
 | [],_,h=>by simp only[jO,bG]at h;exact h
 | j::js,vs,h=>by
  simp only[bW,bG]at h;obtain⟨v,vr,rfl,r,rs⟩:=h;rw[bF r,bG.unints rs];rfl
theorem cM0 (i:Int)(js:List Int):inV (.int i) (js.map V.int)=decide (i∈js):=by
 unfold inV
 induction js with
 | nil=>rfl
 | cons j js ih=>
  rw[bW,any_cons,ih];show((j==i)||decide (i∈js))=decide (i∈j::js)
  by_cases h:j=i
  ·subst h;simp
  ·have h': ¬i=j:=λz=>h z.symm
   simp[h,h']
theorem aO7 (js:List Int):(js.map V.int).all aJ4=true:=by
 induction js with
 | nil=>rfl
 | cons j js ih=>rw[bW,all_cons,ih];rfl
theorem ou_inG {neg:Bool}{op:Value->Value->Sem Value}(ho:OpR X op (rIn X.K neg)):OpU X op (gIn neg):=by
 intro A H d e v w Q0 Q hA r1 r2 g k;obtain⟨i,js,rfl,he,g⟩:=g;have e1:=bF r1;subst e1;have fin:Q (.bl<|if neg=true then !inV (.int i) (js.map V.int)else inV (.int i) (js.map V.int)) H:=by
  rw[cM0];refine k _ _ H g (.refl _) ?_;cases neg
  ·rw[a6 ac,mY];exact jT
  ·rw[a7 rfl,kS];exact jT
 rcases he with rfl|rfl|rfl
 ·simp only[Rep]at r2;obtain⟨a,vs,rfl,c,rs⟩:=r2;have:=rs.unints;subst this;exact⟨_,ho,a,_,rfl,.inr<|c.imp bO id,rfl,aO7 js,fin⟩
 ·simp only[Rep]at r2;obtain⟨a,vs,rfl,n,c,rs⟩:=r2;have:=rs.unints;subst this;exact⟨_,ho,a,_,rfl,.inl<|SqL.of c,rfl,aO7 js,fin⟩
 ·simp only[Rep]at r2;obtain⟨a,vs,rfl,c,rs⟩:=r2;have:=rs.unints;subst this;exact⟨_,ho,a,_,rfl,.inl<|c.imp bO id,rfl,aO7 js,fin⟩
theorem cM1:OpU X (compareOp .NotIn) (gIn true):=ou_inG bF9
end
end M
end
section
namespace L2
open PySem PySem.Spec PyProof.Rows
noncomputable def Itd (lo:Int)(n:Nat):It:={go:=λi _=>i<n,yld:=λi H x H'=>H'=H/\x=V.int (lo-(i:Int)),stop:=λi _=>n<=i}
theorem bC6 {P:Program}{w:World}{K:Frag}{tg:Expr}(it:Addr)(lo:Int)(n:Nat):bN4 P w K tg (Itd lo n) [it] it (λi h=>IsRangeIter h it (lo+(i:Nat)*(-1)) ((n:Int)-(i:Nat)) (-1)) where
 mem:=ae
 obj:=λi h st b hb=>by
  have e:b=it:=by simpa using hb
  subst e;exact⟨_,st,λv z=>by
   have z':Data.fields _=Data.cell v:=z;cases z'⟩
 keep:=λi h h' st k=>k it ae _ st
 item:=by
  intro X hP hw hK hc i pins s σ H E I hf st hg;subst hP hw hK;obtain⟨f0,f1,f2,f3,f4,f5⟩:=hf it ae
  have W:=Walks.range (prog:=X.prog) (w:=X.w) (I.ok.hd hc) it lo (-1) n;refine W.item i s _ _ hg st λv h' tk hv st' kk=> ?_
  obtain⟨t,rfl⟩:=hv;have I1:Inv X pins σ H {s with heap:=h',toks:=tk}:=I.turned (λb o hb e=>kk b o (by simpa using hb) e) f0 f1 f3 f4 f5
  refine⟨_,rfl,bN5 (s:={s with heap:=h',toks:=tk}) (n:="range_iterator") st' rfl rfl ac ⟨.int<|lo-i,H,I1,⟨t,?_⟩,⟨rfl,rfl⟩,st',λb hb=>(hf b hb).1⟩⟩
  rw[show lo+((i:Nat):Int)*(-1)=lo-(i:Int)by lia]
 done:=by
  intro X hP hw hK hc i pins s σ H E I hf st hg;subst hP hw hK;obtain⟨f0,f1,f2,f3,f4,f5⟩:=hf it ae
  exact wpAny_pyNext_range_end (I.ok.hd hc) st (by have:n<=i:=hg;lia) λh' eb=>⟨rfl,I.turned (t':=s.toks) (λb o hb e=>eb b o hb e) f0 f1 f3 f4 f5⟩
 self:=λ_ _ _ _ _ st h=>aD2 st h
section
variable {X:Cx}{tg:Expr}
theorem bC7 (a b:Int):Builtin.Range.rangeSize a b (-1)=(((a-b).toNat:Nat):Int):=by
 unfold Builtin.Range.rangeSize;rw[a6 ac]
 split<;>simp<;>lia
theorem small_down {a b:Int}(h1: -(2^31)<=a)(h2:a<2^31)(h3: -(2^31)<=b)(h4:b<2^31):Builtin.Range.small a b (-1)=true:=by
 unfold Builtin.Range.small;rw[bC7];simp[Builtin.Range.rangeFitsLong];omega
theorem c04 {pins:List (Addr×Obj)}{σ:St}{H:Hp}{s:Shared}{R:It->Hp->Prop}{E:Value->Shared->Prop}{lo hi:Int}{t u v:Tok}{tk:Nat}(I:Inv X pins σ H s)(h1: -(2^31)<=lo)(h2:lo<2^31)(h3: -(2^31)<=hi)(h4:hi<2^31)
  (q:R (Itd lo (lo-hi).toNat) H):wpAny (model X.prog X.w) X.A (pyIter<|.ref s.heap.objs.size) (PIE X pins σ tg R) E {s with heap:=s.heap.push {cls:= .type "range",data:= .fields #[.int lo t,.int hi u,.int (-1) v]},toks:=tk}:=by
 refine wpAny_pyIter_range (IsRange.new ..) (small_down h1 h2 h3 h4) ?_
 have I1:Inv X pins σ H {s with heap:=s.heap.push {cls:= .type "range",data:= .fields #[.int lo t,.int hi u,.int (-1) v]},toks:=tk}:=I.kept λb o e=>aM _ e
 refine⟨(s.heap.push {cls:= .type "range",data:= .fields #[.int lo t,.int hi u,.int (-1) v]}).objs.size,[(s.heap.push {cls:= .type "range",data:= .fields #[.int lo t,.int hi u,.int (-1) v]}).objs.size],_,_,H,rfl,
  I1.kept (t':=tk) λb o e=>aM _ e,bC6 _ lo (lo-hi).toNat,?_,λb hb=> ?_,q⟩
 ·have e1:lo+((0:Nat):Int)*(-1)=lo:=ae
  have e2:(((lo-hi).toNat:Nat):Int)-((0:Nat):Int)=Builtin.Range.rangeSize lo hi (-1):=by rw[bC7];simp
  show IsRangeIter _ _ (lo+((0:Nat):Int)*(-1)) ((((lo-hi).toNat:Nat):Int)-((0:Nat):Int)) (-1)
  rw[e1,e2];exact bN _ rfl
 ·have e:b=(s.heap.push {cls:= .type "range",data:= .fields #[.int lo t,.int hi u,.int (-1) v]}).objs.size:=by simpa using hb
  subst e;exact I1.fpOk (aB _) (I1.hok.fresh<|aB _)
def iRngD (ta:TA):TI:=λσ H R=>ta σ H λvs H1=> ∃i j:Int,vs=[.int i,.int j,.int<|-1]/\(-(2^31)<=i/\i<2^31/\ -(2^31)<=j/\j<2^31)/\R (Itd i (i-j).toNat) H1
theorem cD1 {a b c:Expr}{ta:TA}{p pos:Pos}(hg:Gl X "range")(hm:X.mg "range"=none)(ha:PA X [a,b,c] ta)(hs:starEach [a,b,c] X.env=[(false,eval a X.env),(false,eval b X.env),(false,eval c X.env)]:=by rfl)(hs2:starEach [b,c] X.env=[(false,eval b X.env),(false,eval c X.env)]:=by rfl) :
  PI X tg (.Call (.Name "range" p) [a,b,c] [] pos) (iRngD ta):=by
 intro pins s σ H R I h;refine Call_ (tG I hg hm boot_range<|jE (thn (ha pos pins s σ H _ I h) λus s1 ⟨vs,H1,I1,r1,q1⟩=> ?_) (by rw[hs,hs2]) (by rw[hs2];rfl))
 obtain⟨i,j,e,⟨q1,q2,q3,q4⟩,q⟩:=q1;subst e;cases r1 with
 | cons r rr=>
  cases rr with
  | cons r' rr=>
   cases rr with
   | cons r'' rr=>
    cases rr;obtain⟨t,rfl⟩:=r;obtain⟨t',rfl⟩:=r';obtain⟨t'',rfl⟩:=r'';exact call_range_3 ac (c04 I1 q1 q2 q3 q4 q) (.inl (by
     unfold Builtin.divisionGoesByPylong;simp;intro hz;have:Nat.log2 1=0:=ac
     lia))
end
end L2
namespace M
open PySem PySem.Spec PyProof.Rows L2
section
variable {X:Cx}{K:Frag}{H:Hp}{pos:Pos}
theorem bC8 {A:AS}{lo:Int}{n:Nat}:bO6 K A H (Itd lo n) n (λi=> .int (lo-i)):=
 ⟨λ_ _ _ _ h=>h,λ_ _ i x H'' _ _ _ ⟨e,y⟩=>by subst e;subst y;exact⟨.refl _,by simp only[Rep]⟩,λ_ _ _=>aB n⟩
def bC9 (ta:UA):UI:=λρ Q=>ta ρ λds ρ1=>match ds with
 | [.int i,.int j,.int m]=>m= -1/\(-(2^31)<=i/\i<2^31/\ -(2^31)<=j/\j<2^31)/\Q (i-j).toNat (λk=> .int (i-k)) ρ1
 | _=>False
theorem bD0 {tg a b c:Expr}{ta:UA}{p:Pos}(hg:Gl X "range")(hm:X.mg "range"=none)(ha:PUA X [a,b,c] ta)(hs:starEach [a,b,c] X.env=[(false,eval a X.env),(false,eval b X.env),(false,eval c X.env)]:=by rfl)(hs2:starEach [b,c] X.env=[(false,eval b X.env),(false,eval c X.env)]:=by rfl) :
  PUI X tg (.Call (.Name "range" p) [a,b,c] [] pos) (bC9 ta):=
 aS5 (cD1 hg hm ha hs hs2) λσ H R ⟨C,ρ,Q0,I,h,k⟩=>⟨C,ρ,_,I,h,λds ρ1 vs H1 q f s r=>by
  split at q
  ·rename_i i j m
   obtain⟨v,vr,rfl,rv,rr⟩:=r.uncons;obtain⟨w,wr,rfl,rw',rr'⟩:=rr.uncons;obtain⟨z,zr,rfl,rz,rr''⟩:=rr'.uncons;have:=rr''.unnil;subst this;have:=bF rv;subst this;have:=bF rw';subst this;have:=bF rz;subst this;obtain⟨hm,hb,q⟩:=q;subst hm;exact⟨i,j,rfl,hb,k _ _ ρ1 _ H1 q f s bC8⟩
  ·exact q.elim⟩
end
end M
end
section
namespace L2
open PySem PySem.Spec PyProof.Rows
section
variable {X:Cx}{pins:List (Addr×Obj)}{σ:St}{H:Hp}{s:Shared}{h':Heap}
theorem Inv.turnedNew {t':Nat}{ch:List Addr}{a:Addr}{o:HO}(I:Inv X pins σ H s)(k: ∀b u,b ∉ ch->s.heap.get? b=some u->h'.get? b=some u)(hf: ∀b∈ch,aO2 X pins H b)
  (hp:s.heap.objs.size<=a) (new:qF X.prog X.w (upd H a o) h' a o):Inv X pins σ (upd H a o) {s with heap:=h',toks:=t'}:=by
 have hn:H a=none:=I.hok.fresh hp;have nch: ∀b u,H b=some u->b ∉ ch:=λb u e z=>by have:=(hf b z).1;rw[e]at this;cases this
 refine I.step (g':=s.gens) (d':=s.drawn) (ch:=ch) (λb hb=>⟨(hf b hb).2.2.2.1,(hf b hb).2.1,(hf b hb).2.2.2.2.1,(hf b hb).2.2.2.2.2⟩) (λb u _ _ hc e _=>k b u hc e) (λb u _ _ hc e _=>⟨u.slots,k b u hc e⟩)
  (λb u _ e n=>by rw[bL<|bE<|b9 (aN e) hp];exact n) (λb u hc e=>⟨u,k b u hc e⟩)
  (λb xs e=>by rw[bL<|cP e hn];exact e) (λb ob u e=>by rw[bL<|cP e hn];exact e) (λb ps e=>⟨#[],by rw[bL<|cP e hn,e];simp⟩) (λm hm=> ?_) (λb u e=> ?_) I.bare
 ·obtain⟨ob,es,ep,ho,r⟩:=hm;exact⟨ob,es,ep,k _ ob (λz=>(hf _ z).2.1 rfl) ho,r⟩
 ·by_cases hb:b=a
  ·subst hb;rw[iB]at e;cases e;exact new
  ·rw[bL hb]at e;refine(I.hok b u e).stay (λc v hc q=>k c v ?_ q) (λc q=>by rw[bL<|cP q hn];exact q) λc xs q=>by rw[bL<|cP q hn];exact q
   rcases hc with z|z
   ·rw[z];exact nch b u e
   ·exact nch c _ z
theorem Inv.turnedL {t':Nat}{ch:List Addr}(I:Inv X pins σ H s)(k: ∀b u,b ∉ ch->s.heap.get? b=some u->h'.get? b=some u)(hf: ∀b∈ch,aO2 X pins H b):Inv X pins σ H {s with heap:=h',toks:=t'}:=by
 have nch: ∀b u,H b=some u->b ∉ ch:=λb u e z=>by have:=(hf b z).1;rw[e]at this;cases this
 refine I.step (g':=s.gens) (d':=s.drawn) (ch:=ch) (λb hb=>⟨(hf b hb).2.2.2.1,(hf b hb).2.1,(hf b hb).2.2.2.2.1,(hf b hb).2.2.2.2.2⟩) (λb u _ _ hc e _=>k b u hc e) (λb u _ _ hc e _=>⟨u.slots,k b u hc e⟩)
  (λb u _ e n=>n) (λb u hc e=>⟨u,k b u hc e⟩) (λb xs e=>e) (λb ob u e=>e) (λb ps e=>⟨#[],by rw[e];simp⟩) (λm hm=> ?_) (λb u e=> ?_) I.bare
 ·obtain⟨ob,es,ep,ho,r⟩:=hm;exact⟨ob,es,ep,k _ ob (λz=>(hf _ z).2.1 rfl) ho,r⟩
 ·refine(I.hok b u e).stay (λc v hc q=>k c v ?_ q) (λc q=>q) λc xs q=>q
  rcases hc with z|z
  ·rw[z];exact nch b u e
  ·exact nch c _ z
end
def uI (T:Bool)(h:Heap)(a:Addr)(xs:Array Value):Prop:=match T with
 | false=>h.IsList a xs
 | true=>h.IsTuple a xs
def uJ (T:Bool)(h:Heap)(it a:Addr)(i:Nat):Prop:=match T with
 | false=>h.IsListIter it a i
 | true=>h.IsTupleIter it a i
noncomputable def a24 (T:Bool)(a:Addr):Obj:=match T with
 | false=>{cls:= .type "list_iterator",data:= .fields #[.ref a,.int 0 0]}
 | true=>{cls:= .type "tuple_iterator",data:= .fields #[.ref a,.int 0 0]}
def SqV (K:Frag)(T:Bool)(H:Hp)(a:Addr)(xs:List V):Prop:=match T with
 | false=>SqL K H a xs
 | true=>SqT K H a xs
theorem uI.at {T:Bool}{h h':Heap}{a:Addr}{xs:Array Value}(x:uI T h a xs)(e: ∀o,h.get? a=some o->h'.get? a=some o):uI T h' a xs:=by
 cases T<;>(obtain⟨o,ho,r⟩:=x;exact⟨o,e o ho,r⟩)
theorem uJ.at {T:Bool}{h h':Heap}{it a:Addr}{i:Nat}(x:uJ T h it a i)(e: ∀o,h.get? it=some o->h'.get? it=some o):uJ T h' it a i:=by
 cases T<;>(obtain⟨o,ho,r⟩:=x;exact⟨o,e o ho,r⟩)
theorem uI.lt {T:Bool}{h:Heap}{a:Addr}{xs:Array Value}(x:uI T h a xs):a<h.objs.size:=by
 cases T<;>(obtain⟨o,ho,r⟩:=x;exact aN ho)
theorem uJ.rec' {T:Bool}{h:Heap}{it a:Addr}{i:Nat}(x:uJ T h it a i): ∃o,h.get? it=some o/\ ∀v,o.data≠ .cell v:=by
 cases T<;>(obtain⟨o,ho,hc,hd⟩:=x;exact⟨o,ho,λv z=>by rw[hd]at z;cases z⟩)
theorem uJ.new {T:Bool}(h:Heap)(a:Addr):uJ T (h.push<|a24 T a) h.objs.size a 0:=by
 cases T<;>exact⟨_,bN _ rfl,rfl,rfl⟩
section
variable {X:Cx}{pins:List (Addr×Obj)}{σ:St}{H:Hp}{s:Shared}
theorem Inv.sq {T:Bool}{a:Addr}{xs:List V}(I:Inv X pins σ H s)(h:SqV X.K T H a xs): ∃its:List Value,Vals xs its/\uI T s.heap a its.toArray/\xs.length<=sizeLine:=by
 cases T with
 | false=>obtain⟨its,rv,p,hz⟩:=I.list h;exact⟨its,rv,p.isList,hz⟩
 | true=>obtain⟨its,rv,p,hz⟩:=I.tuple h;exact⟨its,rv,p,hz⟩
theorem Inv.sq_inj {T:Bool}{a:Addr}{xs ys:List V}(I:Inv X pins σ H s)(h:SqV X.K T H a xs)(h':SqV X.K T H a ys):xs=ys:=by
 cases T with
 | false=>exact I.list_inj h h'
 | true=>exact I.tuple_inj h h'
end
section
variable {prog:Program}{w:World}{A:Around}{E:Value->Shared->Prop}{s:Shared}
theorem a84 {T:Bool}{a:Addr}{xs:Array Value}{Q:Value->Shared->Prop}(hl:uI T s.heap a xs)(hQ:Q (.ref s.heap.objs.size) {s with heap:=s.heap.push (a24 T a)}) :
  wpAny (model prog w) A (pyIter<|.ref a) Q E s:=by
 cases T with
 | false=>exact sO hl hQ
 | true=>exact wpAny_pyIter_tuple hl hQ
theorem cM2 {it t:Addr}{i:Nat}{items:Array Value}{x:Value}{Q:Value->Shared->Prop}(hit:s.heap.IsTupleIter it t i)(ht:s.heap.IsTuple t items)(hx:items[i]? =some x)
  (hQ: ∀h',h'.IsTupleIter it t (i+1)->SameBut it s.heap h'->Q x {s with heap:=h'}):wpAny (model prog w) A (Builtin.SmallTypes.nextOf<|.ref it) Q E s:=by
 obtain⟨oi,hoi,hci,hdi⟩:=id hit;obtain⟨ot,hot,_,nt,hdt⟩:=ht;unfold Builtin.SmallTypes.nextOf;refine a8 (kL (name:=Str.ofString "__next__") hit.typeIs wV<|i6 wV hit.typeIs PySem.F.entry_tuple_iterator_next ?_<|PySem.F.args_tuple_iterator_next_1 _);show wpAny _ _ (field (.ref it) 0 >>= _) _ _ s;refine a8 (cO hoi hdi (x:= .ref t) rfl ?_)
 show wpAny _ _ (if(Value.ref t==Value.none)=true then _ else _) _ _ s;rw[a6<|show ¬((Value.ref t==Value.none)=true)from bC]
 show wpAny _ _ (field (.ref it) 1 >>= _) _ _ s;refine a8 (cO hoi hdi (x:= .int i 0) rfl ?_)
 show wpAny _ _ (seqItems? (.ref t) >>= _) _ _ s;refine a8 (kR hot hdt ?_)
 simp only[eM,hx];refine a8 (sW hoi hdi ae<|aG ⟨x,rfl,aG<|hQ _ ⟨_,oO _ hoi<|aD7<|oZ hdi _,(Obj.cls_mapFields ..).trans hci,?_⟩<|sM ..⟩)
 rw[oZ hdi];simp[rawInt]
theorem cD2 {it t:Addr}{i:Nat}{items:Array Value}{Q:Value->Shared->Prop}(hh:A.handled=none)(hit:s.heap.IsTupleIter it t i)(ht:s.heap.IsTuple t items)(hx:items[i]? =none)
  (hE: ∀h' e,ExtBut it s.heap h'->(∃o,h'.get? e=some o/\o.cls= .type "StopIteration")->E (.ref e) {s with heap:=h'}):wpAny (model prog w) A (Builtin.SmallTypes.nextOf<|.ref it) Q E s:=by
 obtain⟨oi,hoi,hci,hdi⟩:=id hit;obtain⟨ot,hot,_,nt,hdt⟩:=ht;unfold Builtin.SmallTypes.nextOf;refine a8 (kL (name:=Str.ofString "__next__") hit.typeIs wV<|i6 wV hit.typeIs PySem.F.entry_tuple_iterator_next ?_<|PySem.F.args_tuple_iterator_next_1 _);show wpAny _ _ (field (.ref it) 0 >>= _) _ _ s;refine a8 (cO hoi hdi (x:= .ref t) rfl ?_)
 show wpAny _ _ (if(Value.ref t==Value.none)=true then _ else _) _ _ s;rw[a6<|show ¬((Value.ref t==Value.none)=true)from bC]
 show wpAny _ _ (field (.ref it) 1 >>= _) _ _ s;refine a8 (cO hoi hdi (x:= .int i 0) rfl ?_)
 show wpAny _ _ (seqItems? (.ref t) >>= _) _ _ s;refine a8 (kR hot hdt ?_)
 simp only[eM,hx];refine a8 (nA<|a8<|sW hoi hdi ae ?_)
 show wpAny _ _ (newExc (.type "StopIteration") [] >>= _) _ _ _;refine a8 ?_;simp only[newExc,newTuple];refine a8 (jL ?_<|by size_fits)
 refine a8 (m:=firstArgMember _ _) (jP (a:=Value.none) (by first|rfl| (simp only[firstArgMember];rfl)) ?_);refine jL ?_ (by size_fits)
 simp only[raiseNew];refine a8 (wpAny_handled ?_);first|rw[show A.in1.handled=none from hh]|rw[hh]
 exact a8 (aG<|wpAny_throw<|hE _ _ (((sM ..).extBut.push _).push _) ⟨_,bN _ rfl,rfl⟩)
theorem aW7 {T:Bool}{it a:Addr}{i:Nat}{xs:Array Value}{x:Value}{Q:Value->Shared->Prop}(hit:uJ T s.heap it a i)(hl:uI T s.heap a xs)(hx:xs[i]? =some x)
  (hQ: ∀h',uJ T h' it a (i+1)->SameBut it s.heap h'->Q x {s with heap:=h'}):wpAny (model prog w) A (Builtin.SmallTypes.nextOf<|.ref it) Q E s:=by
 cases T with
 | false=>exact wpAny_nextOf_list_item hit hl hx hQ
 | true=>exact cM2 hit hl hx hQ
theorem b01 {T:Bool}{it a:Addr}{i:Nat}{xs:Array Value}{Q:Value->Shared->Prop}(hh:A.handled=none)(hit:uJ T s.heap it a i)(hl:uI T s.heap a xs)(hx:xs[i]? =none)
  (hE: ∀h' e,ExtBut it s.heap h'->(∃o,h'.get? e=some o/\o.cls= .type "StopIteration")->E (.ref e) {s with heap:=h'}):wpAny (model prog w) A (Builtin.SmallTypes.nextOf<|.ref it) Q E s:=by
 cases T with
 | false=>exact wpAny_nextOf_list_end hh hit hl hx hE
 | true=>exact cD2 hh hit hl hx hE
end
structure ZSt (T1 T2:Bool)(z TI TO i1 i2 l1 l2:Addr)(f0:Value)(i:Nat)(h:Heap):Prop where
 hz:IsZip h z TI TO f0
 hI:IsPair h TI (.ref i1) (.ref i2)
 hO: ∃a b,IsPair h TO a b
 h1:uJ T1 h i1 l1 i
 h2:uJ T2 h i2 l2 i
structure ZAp (z TI TO i1 i2:Addr):Prop where
 a:TI≠z
 b:TO≠z
 c:i1≠z
 d:i2≠z
 e:TI≠TO
 f:TI≠i1
 g:TI≠i2
 h:TO≠i1
 i:TO≠i2
 j:i1≠i2
section
variable {prog:Program}{w:World}{A:Around}{E:Value->Shared->Prop}{s:Shared}{T1 T2:Bool}{z TI TO i1 i2 l1 l2:Addr}{k:Nat}{xs ys:Array Value}
theorem cM3 {x y:Value}{Q:Value->Shared->Prop}(D:ZAp z TI TO i1 i2)(n1:l1 ∉ [z,TI,TO,i1,i2])(n2:l2 ∉ [z,TI,TO,i1,i2])(st:ZSt T1 T2 z TI TO i1 i2 l1 l2 .none k s.heap)
  (hl1:uI T1 s.heap l1 xs) (hl2:uI T2 s.heap l2 ys) (hx:xs[k]? =some x) (hy:ys[k]? =some y)
  (hQ: ∀h',ZSt T1 T2 z TI TO i1 i2 l1 l2 (rawInt s.heap.objs.size) (k+1) h'->IsPair h' s.heap.objs.size x y->(∀c o,c ∉ [z,TI,TO,i1,i2]->s.heap.get? c=some o->h'.get? c=some o)->Q (.ref s.heap.objs.size) {s with heap:=h'}) :
  wpAny (model prog w) A (Builtin.«zip.__next__» ⟨[.ref z],[]⟩) (λfin s'=> ∃v,fin= .done (.ret v)/\Q v s') E s:=by
 obtain⟨hz,hI,⟨a0,b0,hO⟩,h1,h2⟩:=st;simp only[aS,eO,eT,not_or]at n1 n2;show wpAny _ _ (field (.ref z) 2 >>= _) _ _ _;refine a8 (cO hz rfl (x:= .bool false) rfl ?_);show wpAny _ _ (field (.ref z) 3 >>= _) _ _ _;refine a8 (cO hz rfl (x:= .ref TI) rfl ?_);refine a8 (kR hI rfl ?_);show wpAny _ _ (Builtin.SmallTypes.ownedTupleIsFree (.ref z) >>= _) _ _ _
 refine a8 ?_;unfold Builtin.SmallTypes.ownedTupleIsFree;refine a8 (cO hz rfl (x:= .none) rfl (aG ?_))
 simp only[cF];refine a8 (nA ?_);refine a8 (cO hz rfl (x:= .ref TO) rfl ?_);refine a8 (pA hz ae λg1 z1 m1=> ?_);replace z1:IsZip g1 z TI TO .ellipsis:=z1
 refine a8 ?_;simp only[List.zipIdx_cons,List.zipIdx_nil,xS,forIn_nil]
 refine a8 (a8<|xV ?_);show wpAny _ _ (Builtin.SmallTypes.nextOf (.ref i1) >>= _) _ _ _
 refine a8 (aW7 (s:={s with heap:=g1}) (h1.at λo e=>m1.extBut _ _ D.c e) (hl1.at λo e=>m1.extBut _ _ n1.1 e) hx λg2 p2 m2=>aG ?_)
 have o2:IsPair g2 TO a0 b0:=m2.extBut _ _ D.h (m1.extBut _ _ D.b hO);refine a8 (kR o2 rfl ?_);refine a8 (aE1 o2 λg3 o3 m3=> ?_);replace o3:IsPair g3 TO x b0:=o3
 refine a8 (wpAny_letGo<|aG ?_)
 refine a8 (a8<|xV ?_);show wpAny _ _ (Builtin.SmallTypes.nextOf (.ref i2) >>= _) _ _ _
 refine a8 (aW7 (s:={s with heap:=g3}) (h2.at λo e=>m3.extBut _ _ D.i.symm (m2.extBut _ _ D.j.symm<|m1.extBut _ _ D.d e)) (hl2.at λo e=>m3.extBut _ _ n2.2.2.1 (m2.extBut _ _ n2.2.2.2.1<|m1.extBut _ _ n2.1 e)) hy λg4 p4 m4=>aG ?_)
 have o4:IsPair g4 TO x b0:=m4.extBut _ _ D.i o3;refine a8 (kR o4 rfl ?_);refine a8 (aE1 o4 λg5 o5 m5=> ?_);replace o5:IsPair g5 TO x y:=o5
 refine a8 (wpAny_letGo<|aG<|aG ?_)
 refine a8 (kR o5 rfl ?_);refine a8 (wpAny_newTuple ?_)
 have sz:g5.objs.size=s.heap.objs.size:=by rw[m5.1,m4.1,m3.1,m2.1,m1.1]
 have z5:IsZip g5 z TI TO .ellipsis:=m5.extBut _ _ D.b.symm (m4.extBut _ _ D.d.symm<|m3.extBut _ _ D.b.symm<|m2.extBut _ _ D.c.symm z1);have keep5: ∀c o,c≠z->c≠TO->c≠i1->c≠i2->s.heap.get? c=some o->g5.get? c=some o:=λc o c1 c2 c3 c4 e=>m5.extBut _ _ c2 (m4.extBut _ _ c4<|m3.extBut _ _ c2<|m2.extBut _ _ c3<|m1.extBut _ _ c1 e)
 have q1:uJ T1 g5 i1 l1 (k+1):=p2.at λo e=>m5.extBut _ _ D.h.symm (m4.extBut _ _ D.j<|m3.extBut _ _ D.h.symm e)
 have q2:uJ T2 g5 i2 l2 (k+1):=p4.at λo e=>m5.extBut _ _ D.i.symm e
 have zl:z<g5.objs.size:=aN z5;show wpAny _ _ (Builtin.SmallTypes.ownedTupleHandOut (.ref z) (.ref g5.objs.size) >>= _) _ _ _;refine a8 ?_;unfold Builtin.SmallTypes.ownedTupleHandOut;have z6:IsZip (g5.push {cls:= .type "tuple",data:= .seq #[x,y]}) z TI TO .ellipsis:=aM _ z5;refine a8 (pA z6 ae λg7 z7 m7=> ?_);replace z7:IsZip g7 z TI TO (rawInt g5.objs.size):=z7
 refine pA z7 ae λg8 z8 m8=> ?_;replace z8:IsZip g8 z TI TO (rawInt g5.objs.size):=z8
 have up: ∀c o,c≠z->g5.get? c=some o->g8.get? c=some o:=λc o c1 e=>m8.extBut _ _ c1 (m7.extBut _ _ c1<|aM _ e)
 have t8:IsPair g8 g5.objs.size x y:=m8.extBut _ _ (pH zl) (m7.extBut _ _ (pH zl)<|bN _ rfl);rw[sz]at z8 t8;refine aG ⟨_,rfl,?_⟩;show Q (.ref g5.objs.size) _;rw[sz];refine hQ g8 ⟨z8,up _ _ D.a<|keep5 _ _ D.a D.e D.f D.g hI,⟨x,y,up _ _ D.b o5⟩,q1.at λo e=>up _ _ D.c e,q2.at λo e=>up _ _ D.d e⟩ t8 λc o nc e=> ?_
 simp only[aS,eO,eT,not_or]at nc;exact up c o nc.1 (keep5 c o nc.1 nc.2.2.1 nc.2.2.2.1 nc.2.2.2.2 e)
theorem cD3 {Q:Fin->Shared->Prop}(hh:A.handled=none)(D:ZAp z TI TO i1 i2)(n1:l1 ∉ [z,TI,TO,i1,i2])(n2:l2 ∉ [z,TI,TO,i1,i2])(st:ZSt T1 T2 z TI TO i1 i2 l1 l2 .none k s.heap)
  (hl1:uI T1 s.heap l1 xs) (hl2:uI T2 s.heap l2 ys) (hend:xs[k]? =none\/ys[k]? =none)
  (hE: ∀h' e,(∀c o,c ∉ [z,TI,TO,i1,i2]->s.heap.get? c=some o->h'.get? c=some o)->(∃o,h'.get? e=some o/\o.cls= .type "StopIteration")->E (.ref e) {s with heap:=h'}) :
  wpAny (model prog w) A (Builtin.«zip.__next__» ⟨[.ref z],[]⟩) Q E s:=by
 obtain⟨hz,hI,⟨a0,b0,hO⟩,h1,h2⟩:=st;simp only[aS,eO,eT,not_or]at n1 n2;have nin: ∀c,c ∉ [z,TI,TO,i1,i2]->c≠z/\c≠TI/\c≠TO/\c≠i1/\c≠i2:=λc h=>by simpa only[aS,eO,eT,not_or]using h
 show wpAny _ _ (field (.ref z) 2 >>= _) _ _ _;refine a8 (cO hz rfl (x:= .bool false) rfl ?_)
 show wpAny _ _ (field (.ref z) 3 >>= _) _ _ _;refine a8 (cO hz rfl (x:= .ref TI) rfl ?_)
 refine a8 (kR hI rfl ?_);show wpAny _ _ (Builtin.SmallTypes.ownedTupleIsFree (.ref z) >>= _) _ _ _
 refine a8 ?_;unfold Builtin.SmallTypes.ownedTupleIsFree;refine a8 (cO hz rfl (x:= .none) rfl (aG ?_))
 simp only[cF];refine a8 (nA ?_);refine a8 (cO hz rfl (x:= .ref TO) rfl ?_);refine a8 (pA hz ae λg1 z1 m1=> ?_);replace z1:IsZip g1 z TI TO .ellipsis:=z1
 refine a8 ?_;simp only[List.zipIdx_cons,List.zipIdx_nil,xS,forIn_nil]
 refine a8 (a8<|xV ?_);show wpAny _ _ (Builtin.SmallTypes.nextOf (.ref i1) >>= _) _ _ _
 cases hx:xs[k]? with
 | none=>
  refine a8 (b01 (s:={s with heap:=g1}) hh (h1.at λo e=>m1.extBut _ _ D.c e) (hl1.at λo e=>m1.extBut _ _ n1.1 e) hx λg2 e m2 he=> ?_)
  obtain⟨oe,hoe,hce⟩:=he;have z2:IsZip g2 z TI TO .ellipsis:=m2 _ _ D.c.symm z1;have ez:e≠z:=λq=>by subst q;rw[z2]at hoe;cases hoe;simp at hce
  refine pA z2 ae λg3 _ m3=>hE g3 e (λc o nc q=> ?_) ⟨oe,m3.extBut _ _ ez hoe,hce⟩
  obtain⟨c1,c2,c3,c4,c5⟩:=nin c nc;exact m3.extBut _ _ c1 (m2 _ _ c4<|m1.extBut _ _ c1 q)
 | some x=>
  have hy:ys[k]? =none:=by rcases hend with q|q;(rw[hx]at q;cases q);exact q
  refine a8 (aW7 (s:={s with heap:=g1}) (h1.at λo e=>m1.extBut _ _ D.c e) (hl1.at λo e=>m1.extBut _ _ n1.1 e) hx λg2 p2 m2=>aG ?_)
  have o2:IsPair g2 TO a0 b0:=m2.extBut _ _ D.h (m1.extBut _ _ D.b hO);refine a8 (kR o2 rfl ?_);refine a8 (aE1 o2 λg3 o3 m3=> ?_)
  refine a8 (wpAny_letGo<|aG ?_);refine a8 (a8<|xV ?_);show wpAny _ _ (Builtin.SmallTypes.nextOf (.ref i2) >>= _) _ _ _
  refine a8 (b01 (s:={s with heap:=g3}) hh (h2.at λo e=>m3.extBut _ _ D.i.symm (m2.extBut _ _ D.j.symm<|m1.extBut _ _ D.d e)) (hl2.at λo e=>m3.extBut _ _ n2.2.2.1 (m2.extBut _ _ n2.2.2.2.1<|m1.extBut _ _ n2.1 e)) hy λg4 e m4 he=> ?_)
  obtain⟨oe,hoe,hce⟩:=he;have z4:IsZip g4 z TI TO .ellipsis:=m4 _ _ D.d.symm (m3.extBut _ _ D.b.symm<|m2.extBut _ _ D.c.symm z1);have ez:e≠z:=λq=>by subst q;rw[z4]at hoe;cases hoe;simp at hce
  refine pA z4 ae λg5 _ m5=>hE g5 e (λc o nc q=> ?_) ⟨oe,m5.extBut _ _ ez hoe,hce⟩
  obtain⟨c1,c2,c3,c4,c5⟩:=nin c nc;exact m5.extBut _ _ c1 (m4 _ _ c5<|m3.extBut _ _ c3<|m2.extBut _ _ c4<|m1.extBut _ _ c1 q)
end
noncomputable def Itz (K:Frag)(T1 T2:Bool)(l1 l2:Addr):It where
 go:=λi H=> ∃xs ys x y,SqV K T1 H l1 xs/\SqV K T2 H l2 ys/\xs[i]? =some x/\ys[i]? =some y
 yld:=λi H v H'=> ∃T x y,v= .ref T/\H T=none/\H'=upd H T (.tup [x,y])/\(∀xs,SqV K T1 H l1 xs->xs[i]? =some x)/\ ∀ys,SqV K T2 H l2 ys->ys[i]? =some y
 stop:=λi H=> ∃xs ys,SqV K T1 H l1 xs/\SqV K T2 H l2 ys/\(xs.length<=i\/ys.length<=i)
theorem ZSt.objs {T1 T2:Bool}{z TI TO i1 i2 l1 l2:Addr}{f0:Value}{i:Nat}{h:Heap}(st:ZSt T1 T2 z TI TO i1 i2 l1 l2 f0 i h): ∀b∈[z,TI,TO,i1,i2],∃o,h.get? b=some o/\ ∀v,o.data≠ .cell v:=λb hb=>by
 obtain⟨hz,hI,⟨a,c,hO⟩,h1,h2⟩:=st;simp only[aS,eO,eT]at hb;rcases hb with rfl|rfl|rfl|rfl|rfl
 ·exact⟨_,hz,λv q=>by cases q⟩
 ·exact⟨_,hI,λv q=>by cases q⟩
 ·exact⟨_,hO,λv q=>by cases q⟩
 ·exact h1.rec'
 ·exact h2.rec'
theorem bP0:2<=sizeLine:=ac
theorem cM4 {P:Program}{w:World}{K:Frag}{elts:List Expr}{kt:Nat}{tp:Pos}{T1 T2:Bool}{z TI TO i1 i2 l1 l2:Addr}(D:ZAp z TI TO i1 i2)(n1:l1 ∉ [z,TI,TO,i1,i2])(n2:l2 ∉ [z,TI,TO,i1,i2]) :
  bN4 P w K (.Tuple elts kt tp) (Itz K T1 T2 l1 l2) [z,TI,TO,i1,i2] z (ZSt T1 T2 z TI TO i1 i2 l1 l2 .none) where
 mem:=ae
 obj:=λi h st b hb=>st.objs b hb
 keep:=λi h h' st k=>by
  obtain⟨hz,hI,⟨a,c,hO⟩,h1,h2⟩:=st;exact⟨k z ae _ hz,k TI ae _ hI,⟨a,c,k TO ae _ hO⟩,h1.at λo e=>k i1 ae o e,h2.at λo e=>k i2 ae o e⟩
 item:=by
  intro X hP hw hK hc i pins s σ H E I hf st hg;subst hP hw hK;obtain⟨xs,ys,x,y,q1,q2,e1,e2⟩:=hg;obtain⟨is1,r1,p1,_⟩:=I.sq q1;obtain⟨is2,r2,p2,_⟩:=I.sq q2;obtain⟨u1,hu1,ru1⟩:=r1.get e1;obtain⟨u2,hu2,ru2⟩:=r2.get e2;have hT:s.TypeIs (.ref z) "zip":=⟨_,st.hz,rfl⟩;unfold pyNext
  refine a8 (sX<|kL (name:=Str.ofString "__next__") hT xD<|i6 xD hT PySem.F.entry_zip_next (cM3 D n1 n2 st p1 p2 (by simpa using hu1) (by simpa using hu2) λh' st' ht k=>aG ?_)<|PySem.F.args_zip_next_1 _)
  refine⟨_,rfl,wpAny_letOwnedTupleGo_zip st'.hz λh2 hz2 m=> ?_⟩
  have kk: ∀b u,b ∉ [z,TI,TO,i1,i2]->s.heap.get? b=some u->h2.get? b=some u:=λb u nb e=>m.extBut _ _ (λq=>nb (by simp[q])) (k b u nb e)
  have hne:s.heap.objs.size≠z:=pH (aN st.hz);have ht2:IsPair h2 s.heap.objs.size u1 u2:=m.extBut _ _ hne ht;obtain⟨a',c',hO'⟩:=st'.hO;refine⟨.ref s.heap.objs.size,upd H s.heap.objs.size<|.tup [x,y],I.turnedNew (t':=s.toks) kk hf (aB _) ⟨bP0,[u1,u2],.cons ru1<|.cons ru2 .nil,⟨_,ht2,rfl,_,rfl⟩⟩,rfl,
   ⟨_,x,y,rfl,I.hok.fresh<|aB _,rfl,λxs' q=>by rw[I.sq_inj q q1];exact e1,λys' q=>by rw[I.sq_inj q q2];exact e2⟩,⟨hz2,m.extBut _ _ D.a st'.hI,⟨a',c',m.extBut _ _ D.b hO'⟩,st'.h1.at λo e=>m.extBut _ _ D.c e,st'.h2.at λo e=>m.extBut _ _ D.d e⟩,λb hb=> ?_⟩
  obtain⟨o,ho,_⟩:=st.objs b hb;rw[bL<|bE<|aN ho];exact(hf b hb).1
 done:=by
  intro X hP hw hK hc i pins s σ H E I hf st hg;subst hP hw hK;obtain⟨xs,ys,q1,q2,hs⟩:=hg;obtain⟨is1,r1,p1,_⟩:=I.sq q1;obtain⟨is2,r2,p2,_⟩:=I.sq q2;have l1':=r1.length;have l2':=r2.length;have hT:s.TypeIs (.ref z) "zip":=⟨_,st.hz,rfl⟩;unfold pyNext
  refine a8 (sX<|kL (name:=Str.ofString "__next__") hT xD<|i6 xD hT PySem.F.entry_zip_next (cD3 (I.ok.hd hc) D n1 n2 st p1 p2 (by simp;omega) λh' e k he=> ?_)<|PySem.F.args_zip_next_1 _)
  obtain⟨o,ho,hc'⟩:=he;exact a8 (aF7 (T:="StopIteration") (b:=true) ⟨o,ho,hc'⟩ isSubtype_stop<|aG ⟨rfl,I.turnedL (t':=s.toks) k hf⟩)
 self:=λ_ _ _ _ _ st h=>wpAny_pyIter_zip st.hz h
noncomputable abbrev zg1 (T1:Bool)(h:Heap)(l1:Addr):Heap:=h.push (a24 T1 l1)
noncomputable abbrev zg2 (T1 T2:Bool)(h:Heap)(l1 l2:Addr):Heap:=(zg1 T1 h l1).push (a24 T2 l2)
noncomputable abbrev zg3 (T1 T2:Bool)(h:Heap)(l1 l2:Addr):Heap:=(zg2 T1 T2 h l1 l2).push {cls:= .type "tuple",data:= .seq #[.ref h.objs.size,.ref (zg1 T1 h l1).objs.size]}
noncomputable abbrev zg4 (T1 T2:Bool)(h:Heap)(l1 l2:Addr):Heap:=(zg3 T1 T2 h l1 l2).push {cls:= .type "tuple",data:= .seq #[.none,.none]}
noncomputable abbrev zg5 (T1 T2:Bool)(h:Heap)(l1 l2:Addr):Heap:=(zg4 T1 T2 h l1 l2).push {cls:= .type "zip",data:= .fields #[.none,.bool false,.bool false,.ref (zg2 T1 T2 h l1 l2).objs.size,.ref (zg3 T1 T2 h l1 l2).objs.size]}
theorem d12 (T1 T2:Bool)(l1 l2:Addr)(xs ys:Array Value):Meets (Builtin.«zip.__new__» ⟨[.type "zip",.ref l1,.ref l2],[]⟩) (λ_ R s=>uI T1 s.heap l1 xs/\uI T2 s.heap l2 ys/\
  R (.ok<|.ret<|.ref (zg4 T1 T2 s.heap l1 l2).objs.size) {s with heap:=zg5 T1 T2 s.heap l1 l2}):= .of_wp λprog w A R s h=>by
 obtain⟨hp,g,d,tk,os⟩:=s;obtain⟨hl1,hl2,h⟩:=h;have hsub:=sub_zip;have e1:uI T1 (Shared.heap ⟨hp,g,d,tk,os⟩) l1 xs:=hl1;have e2:uI T2 (Shared.heap ⟨hp.push<|a24 T1 l1,g,d,tk,os⟩) l2 ys:=hl2.at λo e=>aM _ e
 wp_walk using a84 e1,a84 e2
 exact⟨_,rfl,h⟩
section
variable {prog:Program}{w:World}{A:Around}{E:Value->Shared->Prop}{s:Shared}
theorem cM5 {T1 T2:Bool}{l1 l2:Addr}{xs ys:Array Value}{Q:Value->Shared->Prop}(hl1:uI T1 s.heap l1 xs)(hl2:uI T2 s.heap l2 ys)
  (h: ∀h' z TI TO i1 i2,ZAp z TI TO i1 i2->(∀b∈[z,TI,TO,i1,i2],s.heap.objs.size<=b)->ZSt T1 T2 z TI TO i1 i2 l1 l2 .none 0 h'->(∀c o,s.heap.get? c=some o->h'.get? c=some o)->Q (.ref z) {s with heap:=h'}) :
  wpAny (model prog w) A (call (.type "zip") [.ref l1,.ref l2]) Q E s:=by
 refine callType_new PySem.F.called_zip ac (PySem.F.typeCall_zip_2 _ _) (PySem.F.newCall_zip_2 _ _) (λobj=>PySem.F.args_object_init_3 obj _ _) PySem.F.entry_zip_new (d12 T1 T2 l1 l2 xs ys) ⟨hl1,hl2,?_⟩
 have z1:(zg1 T1 s.heap l1).objs.size=s.heap.objs.size+1:=iT ..;have z2:(zg2 T1 T2 s.heap l1 l2).objs.size=s.heap.objs.size+2:=by rw[iT,z1]
 have z3:(zg3 T1 T2 s.heap l1 l2).objs.size=s.heap.objs.size+3:=by rw[iT,z2]
 have z4:(zg4 T1 T2 s.heap l1 l2).objs.size=s.heap.objs.size+4:=by rw[iT,z3]
 have g5:(zg5 T1 T2 s.heap l1 l2).get? (zg4 T1 T2 s.heap l1 l2).objs.size=some _:=bN _ rfl;have g4:(zg5 T1 T2 s.heap l1 l2).get? (zg3 T1 T2 s.heap l1 l2).objs.size=some _:=aM _ (bN _ rfl);have g3:(zg5 T1 T2 s.heap l1 l2).get? (zg2 T1 T2 s.heap l1 l2).objs.size=some _:=aM _ (aM _<|bN _ rfl)
 have s2:uJ T2 (zg5 T1 T2 s.heap l1 l2) (zg1 T1 s.heap l1).objs.size l2 0:=(uJ.new (zg1 T1 s.heap l1) l2).at λo e=>aM _ (aM _<|aM _ e)
 have s1:uJ T1 (zg5 T1 T2 s.heap l1 l2) s.heap.objs.size l1 0:=(uJ.new s.heap l1).at λo e=>aM _ (aM _<|aM _<|aM _ e)
 have ap:ZAp (zg4 T1 T2 s.heap l1 l2).objs.size (zg2 T1 T2 s.heap l1 l2).objs.size (zg3 T1 T2 s.heap l1 l2).objs.size s.heap.objs.size (zg1 T1 s.heap l1).objs.size:=by
  rw[z1,z2,z3,z4];have k: ∀n a b:Nat,a≠b->n+a≠n+b:=λn a b h=>aa
  exact⟨k _ 2 4 ac,k _ 3 4 ac,k _ 0 4 ac,k _ 1 4 ac,k _ 2 3 ac,k _ 2 0 ac,k _ 2 1 ac,k _ 3 0 ac,k _ 3 1 ac,k _ 0 1 ac⟩
 refine⟨⟨_,g5,rfl⟩,h _ _ _ _ _ _ ap (λb hb=> ?_) ⟨g5,g3,⟨_,_,g4⟩,s1,s2⟩ λc o e=>aM _ (aM _<|aM _<|aM _<|aM _ e)⟩
 rw[z1,z2,z3,z4]at hb;simp only[aS,eO,eT]at hb;rcases hb with rfl|rfl|rfl|rfl|rfl<;>omega
end
section
variable {X:Cx}
def iZip (K:Frag)(ta:TA):TI:=λσ H R=>ta σ H λvs H1=> ∃l1 l2 T1 T2 xs ys,vs=[.ref l1,.ref l2]/\SqV K T1 H1 l1 xs/\SqV K T2 H1 l2 ys/\R (Itz K T1 T2 l1 l2) H1
theorem pi_zip {a b:Expr}{elts:List Expr}{kt:Nat}{tp:Pos}{ta:TA}{p pos:Pos}(hg:Gl X "zip")(hm:X.mg "zip"=none)(ha:PA X [a,b] ta)(hs:starEach [a,b] X.env=[(false,eval a X.env),(false,eval b X.env)]:=by rfl)(hs2:starEach [b] X.env=[(false,eval b X.env)]:=by rfl) :
  PI X (.Tuple elts kt tp) (.Call (.Name "zip" p) [a,b] [] pos) (iZip X.K ta):=by
 intro pins s σ H R I h;refine Call_ (tG I hg hm PyProof.Rows.boot_zip<|jE (thn (ha pos pins s σ H _ I h) λus s1 ⟨vs,H1,I1,r1,q1⟩=> ?_) (by rw[hs,hs2]) (by rw[hs2];rfl))
 obtain⟨l1,l2,T1,T2,xs,ys,e,q1,q2,q⟩:=q1;subst e;obtain⟨u,v,rfl,r,r'⟩:=Vals.two r1;cases r;cases r';obtain⟨is1,_,p1,_⟩:=I1.sq q1;obtain⟨is2,_,p2,_⟩:=I1.sq q2;refine cM5 p1 p2 λh' z TI TO i1 i2 ap fr st k=>wpAny_pyIter_zip st.hz ?_
 have nl: ∀l,l<s1.heap.objs.size->l ∉ [z,TI,TO,i1,i2]:=λl hl hb=>absurd (b9 hl<|fr l hb) (cZ _)
 exact⟨z,[z,TI,TO,i1,i2],_,_,H1,rfl,I1.kept (t':=s1.toks) k,cM4 ap (nl l1 p1.lt)<|nl l2 p2.lt,st,λb hb=>I1.fpOk (fr b hb) (I1.hok.fresh<|fr b hb),q⟩
end
theorem bP1 {prog:Program}{w:World}{A:Around}{T:Bool}(hh:A.handled=none)(it a:Addr)(hne:a≠it)(xs:Array Value):Draws prog w A it [it,a] xs.size (λi v=>xs[i]? =some v) (λi h=>uJ T h it a i/\uI T h a xs) where
 live:=λ_ _ st=>let ⟨o,ho,_⟩:=st.1.rec';⟨o,ho⟩
 frame:=λ_ _ _ st k=>⟨st.1.at λo e=>k it ae o e,st.2.at λo e=>k a ae o e⟩
 item:=λi s Q E hi st hQ=>aW7 st.1 st.2 (x:=xs[i]) (by simp[hi]) λh' hit' m=>hQ _ h' s.toks (by simp[hi]) ⟨hit',st.2.at λo e=>m.extBut _ _ hne e⟩ m
 done:=λs Q E st hE=>b01 hh st.1 st.2 ae hE
noncomputable def Ite (K:Frag)(T:Bool)(l:Addr):It where
 go:=λi H=> ∃xs x,SqV K T H l xs/\xs[i]? =some x
 yld:=λi H v H'=> ∃Tn x,v= .ref Tn/\H Tn=none/\H'=upd H Tn (.tup [.int (i:Int),x])/\ ∀xs,SqV K T H l xs->xs[i]? =some x
 stop:=λi H=> ∃xs,SqV K T H l xs/\xs.length=i
def ESt (T:Bool)(e it l:Addr)(i:Nat)(h:Heap):Prop:=(∃old,IsEnum h e it i old)/\uJ T h it l i
theorem ESt.objs {T:Bool}{e it l:Addr}{i:Nat}{h:Heap}(st:ESt T e it l i h): ∀b∈[e,it],∃o,h.get? b=some o/\ ∀v,o.data≠ .cell v:=λb hb=>by
 obtain⟨⟨old,he⟩,h1⟩:=st;simp only[aS,eO,eT]at hb;rcases hb with rfl|rfl
 ·exact⟨_,he,λv q=>by cases q⟩
 ·exact h1.rec'
theorem cD4 {P:Program}{w:World}{K:Frag}{elts:List Expr}{kt:Nat}{tp:Pos}{T:Bool}{e it l:Addr}(hei:e≠it)(nl:l ∉ [e,it]):bN4 P w K (.Tuple elts kt tp) (Ite K T l) [e,it] e (ESt T e it l) where
 mem:=ae
 obj:=λi h st b hb=>st.objs b hb
 keep:=λi h h' st k=>by
  obtain⟨⟨old,he⟩,h1⟩:=st;exact⟨⟨old,k e ae _ he⟩,h1.at λo q=>k it ae o q⟩
 item:=by
  intro X hP hw hK hc i pins s σ H E I hf st hg;subst hP hw hK;obtain⟨xs,x,q1,e1⟩:=hg;obtain⟨is1,r1,p1,_⟩:=I.sq q1;obtain⟨u1,hu1,ru1⟩:=r1.get e1;simp only[aS,eO,eT,not_or]at nl;obtain⟨⟨old,he⟩,h1⟩:=id st;have hi:i<is1.toArray.size:=by rw[aY];exact(kK.mp hu1).1
  have D:=bP1 (prog:=X.prog) (w:=X.w) (A:=X.A.in1) (T:=T) (I.ok.hd hc) it l nl.2 is1.toArray;refine wpAny_pyNext_enum_itemD D he ⟨h1,p1⟩ hi hei (by simp[hei,Ne.symm nl.1]) λv h' tk hv ho hs' ht hsz k=>⟨_,rfl,wpAny_letOwnedTupleGo_enum ho λh2 he2 m=> ?_⟩
  have ev:v=u1:=by
   have:is1.toArray[i]? =some u1:=by simpa using hu1
   rw[this]at hv;cases hv;rfl
  subst ev;have hne:s.heap.objs.size≠e:=pH (aN he);have kk: ∀b u,b ∉ [e,it]->s.heap.get? b=some u->h2.get? b=some u:=λb u nb q=>by
   simp only[aS,eO,eT,not_or]at nb;exact m.extBut _ _ nb.1 (k b u nb.1 nb.2 q)
  have ht2:h2.get? s.heap.objs.size=some {cls:= .type "tuple",data:= .seq #[.int i tk,v]}:=m.extBut _ _ hne ht;refine⟨.ref s.heap.objs.size,upd H s.heap.objs.size<|.tup [.int (i:Int),x],I.turnedNew (t':=tk+1) kk hf (aB _) ⟨bP0,[.int i tk,v],.cons ⟨tk,rfl⟩<|.cons ru1 .nil,⟨_,ht2,rfl,_,rfl⟩⟩,rfl,
   ⟨_,x,rfl,I.hok.fresh<|aB _,rfl,λxs' q=>by rw[I.sq_inj q q1];exact e1⟩,⟨⟨_,by simpa using he2⟩,hs'.1.at λo q=>m.extBut _ _ (Ne.symm hei) q⟩,λb hb=> ?_⟩
  obtain⟨o,ho',_⟩:=st.objs b hb;rw[bL<|bE<|aN ho'];exact(hf b hb).1
 done:=by
  intro X hP hw hK hc i pins s σ H E I hf st hg;subst hP hw hK;obtain⟨xs,q1,hl⟩:=hg;obtain⟨is1,r1,p1,_⟩:=I.sq q1;have l1':=r1.length;simp only[aS,eO,eT,not_or]at nl;obtain⟨⟨old,he⟩,h1⟩:=id st;have D:=bP1 (prog:=X.prog) (w:=X.w) (A:=X.A.in1) (T:=T) (I.ok.hd hc) it l nl.2 is1.toArray
  refine wpAny_pyNext_enum_endD D he ⟨by rw[aY,<-l1',hl];exact h1,p1⟩ λh' ex=>⟨rfl,I.turnedL (t':=s.toks) (λb u nb q=>ex b u (λz=>nb (by simp[z])) q) hf⟩
 self:=λ_ _ _ _ _ st h=>by
  obtain⟨⟨old,he⟩,_⟩:=st;exact wpAny_pyIter_enum he h
theorem cD5 (l:Addr)(xs:Array Value):Meets (Builtin.«enumerate.__new__» ⟨[.type "enumerate",.ref l],[]⟩) (λ_ R s=>s.heap.IsTuple l xs/\
  R (.ok<|.ret<|.ref (s.heap.push<|a24 true l).objs.size) {s with heap:=(s.heap.push<|a24 true l).push {cls:= .type "enumerate",data:= .fields #[.none,.bool false,.ref s.heap.objs.size,rawInt 0,.none,.none]}}):= .of_wp λprog w A R s h=>by
 obtain⟨hp,g,d,tk,os⟩:=s;obtain⟨hl,h⟩:=h;obtain⟨⟨c,dct,dt,sl⟩,hg,hc,n,hd⟩:=id hl
 replace hc:c= .type "tuple":=hc
 replace hd:dt= .seq xs n:=hd
 subst hc hd;have hsub:=sub_enumerate;have e1:uI true (Shared.heap ⟨hp,g,d,tk,os⟩) l xs:=hl
 wp_walk using aC5 hg
 refine wpAny_stack_any λst=>aG ?_
 split
 ·rename_i c _ _ _ _ _
  cases (c==Value.type "enumerate")<;>(wp_walk using aC5 hg,a84 e1;exact⟨_,rfl,h⟩)
 ·wp_walk using aC5 hg,a84 e1
  exact⟨_,rfl,h⟩
section
variable {prog:Program}{w:World}{A:Around}{E:Value->Shared->Prop}{s:Shared}
theorem cD6 {T:Bool}{l:Addr}{xs:Array Value}{Q:Value->Shared->Prop}(hl:uI T s.heap l xs)
  (h: ∀h' e it,e≠it->s.heap.objs.size<=e->s.heap.objs.size<=it->ESt T e it l 0 h'->(∀c o,s.heap.get? c=some o->h'.get? c=some o)->Q (.ref e) {s with heap:=h'}) :
  wpAny (model prog w) A (call (.type "enumerate") [.ref l]) Q E s:=by
 cases T with
 | false=>exact call_enumerate_list hl λh' he hit hsz k=>h h' _ _ aa aa aa ⟨⟨_,he⟩,hit⟩ k
 | true=>
  refine callType_new PySem.F.called_enumerate ac (PySem.F.typeCall_enumerate_1 _) (PySem.F.newCall_enumerate_1 _) (λobj=>PySem.F.args_object_init_2 obj _) PySem.F.entry_enumerate_new (cD5 l xs) ⟨hl,?_⟩
  have z1:(s.heap.push<|a24 true l).objs.size=s.heap.objs.size+1:=iT ..;have he:IsEnum ((s.heap.push<|a24 true l).push {cls:= .type "enumerate",data:= .fields #[.none,.bool false,.ref s.heap.objs.size,rawInt 0,.none,.none]}) (s.heap.push<|a24 true l).objs.size s.heap.objs.size 0 .none:=bN _ rfl
  have hi:uJ true ((s.heap.push<|a24 true l).push {cls:= .type "enumerate",data:= .fields #[.none,.bool false,.ref s.heap.objs.size,rawInt 0,.none,.none]}) s.heap.objs.size l 0:=(uJ.new (T:=true) s.heap l).at λo e=>aM _ e
  exact⟨⟨_,he,rfl⟩,h _ _ _ (by rw[z1];omega) (by rw[z1];omega) (aB _) ⟨⟨_,he⟩,hi⟩ λc o e=>aM _ (aM _ e)⟩
end
section
variable {X:Cx}
def iEnum (K:Frag)(ta:TA):TI:=λσ H R=>ta σ H λvs H1=> ∃l T xs,vs=[.ref l]/\SqV K T H1 l xs/\R (Ite K T l) H1
theorem d13 {a:Expr}{elts:List Expr}{kt:Nat}{tp:Pos}{ta:TA}{p pos:Pos}(hg:Gl X "enumerate")(hm:X.mg "enumerate"=none)(ha:PA X [a] ta)(hs:starEach [a] X.env=[(false,eval a X.env)]:=by rfl) :
  PI X (.Tuple elts kt tp) (.Call (.Name "enumerate" p) [a] [] pos) (iEnum X.K ta):=by
 intro pins s σ H R I h;refine Call_ (tG I hg hm PyProof.Rows.boot_enumerate<|jE (thn (ha pos pins s σ H _ I h) λus s1 ⟨vs,H1,I1,r1,q1⟩=> ?_) hs rfl)
 obtain⟨l,T,xs,e,q1,q⟩:=q1;subst e;obtain⟨u,rfl,r⟩:=vals1 r1;cases r;obtain⟨is1,_,p1,_⟩:=I1.sq q1;refine cD6 p1 λh' e it ne f1 f2 st k=> ?_
 obtain⟨⟨old,he⟩,_⟩:=id st;refine wpAny_pyIter_enum he ?_;have lt:=p1.lt;have fr: ∀b∈[e,it],s1.heap.objs.size<=b:=λb hb=>by
  simp only[aS,eO,eT]at hb;rcases hb with rfl|rfl
  ·exact f1
  ·exact f2
 exact⟨e,[e,it],_,_,H1,rfl,I1.kept (t':=s1.toks) k,cD4 ne λhb=>absurd (b9 lt<|fr l hb) (cZ _),st,λb hb=>I1.fpOk (fr b hb) (I1.hok.fresh<|fr b hb),q⟩
end
end L2
end
section
namespace L2
open PySem PySem.Spec PyProof.Rows
theorem aU3:isSubtype (.type "range_iterator") (.type "reversed")=pure false:=by rw[pE];kernel_rfl
theorem aO8 {n:Int}(h1: -(2^31)<=n)(h2:n<2^31):Builtin.Range.rangeFitsLong n=true:=by
 simp[Builtin.Range.rangeFitsLong]
 lia
noncomputable def aK3 (n:Int):Obj:={cls:= .type "range_iterator",data:= .fields #[rawInt<|(n.toNat:Int)-1,rawInt (n.toNat:Int),rawInt<|-1]}
theorem b81 (r:Addr)(a b c:Int)(t u v:Tok)(hc0: ¬(!(Builtin.Range.rangeFitsLong a&&Builtin.Range.rangeFitsLong b&&Builtin.Range.rangeFitsLong c&&Builtin.Range.rangeFitsLong (-c)&&Builtin.Range.rangeFitsLong (a-c)&&Builtin.Range.rangeFitsLong (Builtin.Range.rangeSize a b c)))=true) :
  Meets (Builtin.«range.__reversed__» ⟨[.ref r],[]⟩) (λ_ R s=>s.heap.get? r=some {cls:= .type "range",dict:=none,data:= .fields #[.int a t,.int b u,.int c v],slots:= #[]}/\
  R (.ok<|.ret<|Value.ref s.heap.objs.size) {s with heap:=s.heap.push {cls:=Value.type (if(Builtin.Range.rangeFitsLong a&&Builtin.Range.rangeFitsLong b&&Builtin.Range.rangeFitsLong c&&Builtin.Range.rangeFitsLong (-c)&&Builtin.Range.rangeFitsLong (a-c)&&Builtin.Range.rangeFitsLong (Builtin.Range.rangeSize a b c))=true then "range_iterator" else "longrange_iterator"),data:=Data.fields #[rawInt<|a+(Builtin.Range.rangeSize a b c-1)*c,rawInt<|Builtin.Range.rangeSize a b c,rawInt<|-c]},toks:=s.toks}):= .of_wp λprog w A R s h=>by
 obtain⟨hp,g,d,tk,os⟩:=s;obtain⟨hl,h⟩:=h
 wp_walk
 exact⟨_,rfl,h⟩
theorem aU4 (r:Addr)(n:Int)(t u v:Tok)(h1: -(2^31)<=n)(h2:n<2^31):Meets (Builtin.«range.__reversed__» ⟨[.ref r],[]⟩) (λ_ R s=>IsRange s.heap r 0 n 1 t u v/\
  R (.ok<|.ret<|.ref s.heap.objs.size) {s with heap:=s.heap.push (aK3 n)}):=by
 have e0:Builtin.Range.rangeSize 0 n 1=(n.toNat:Int):=by rw[rangeSize_one];split<;>lia
 have sm:(Builtin.Range.rangeFitsLong 0&&Builtin.Range.rangeFitsLong n&&Builtin.Range.rangeFitsLong 1&&Builtin.Range.rangeFitsLong (-1)&&Builtin.Range.rangeFitsLong (0-1)&&Builtin.Range.rangeFitsLong (Builtin.Range.rangeSize 0 n 1))=true:=by
  rw[e0,aO8 h1 h2,aO8 (n:=0) ac ac,aO8 (n:=1) ac ac,aO8 (n:= -1) ac ac,aO8 (n:=0-1) ac ac,aO8 (n:=(n.toNat:Int)) ad ad]
  rfl
 have G:=b81 r 0 n 1 t u v (by rw[sm];decide)
 intro prog w A R s h;refine G prog w A R s ⟨h.1,?_⟩;rw[sm,a7 rfl,e0];have e1:(0:Int)+((n.toNat:Int)-1)*1=(n.toNat:Int)-1:=ad
 rw[e1];exact h.2
section
variable {prog:Program}{w:World}{A:Around}{E:Value->Shared->Prop}{s:Shared}
theorem bP2 {r:Addr}{n:Int}{t u v:Tok}{Q₁:Value->Shared->Prop}(hr:IsRange s.heap r 0 n 1 t u v)(h1: -(2^31)<=n)(h2:n<2^31)
  (h:Q₁ (.ref s.heap.objs.size) {s with heap:=s.heap.push (aK3 n)}) :
  codeAny (model prog w) A (.call (.builtin "reversed.__new__") ⟨[.type "reversed",.ref r],[]⟩) (wants Q₁ E) s:=by
 have hT:s.TypeIs (.ref r) "range":=⟨_,hr,rfl⟩;refine codeAny_of_tree ?_;show wpAny _ A.in1 (do checkBuiltinCall "reversed.__new__" ⟨[.type "reversed",.ref r],[]⟩;again (.builtin "reversed.__new__" ⟨[.type "reversed",.ref r],[]⟩)) _ _ s;refine a8 (jP (PySem.F.newCall_reversed_1 _)<|aG ⟨plainId_quiet PySem.F.plain_reversed_new _,codeAny_builtin PySem.F.entry_reversed_new ?_⟩)
 rw[Around.under_plainId PySem.F.plain_reversed_new _];unfold Builtin.«reversed.__new__»;refine a8 (jP (newClass_reversed _) ?_);try dsimp only
 refine a8 (jP (a:=()) (by first|rfl|kernel_rfl) ?_);refine a8 (jP (a:=()) (by first|rfl|kernel_rfl) ?_);try dsimp only
 refine a8 (wpAny_specialOf hT PySem.F.slot_range_reversed.lookup ?_);try dsimp only
 refine a8 (jP (PySem.F.slot_range_reversed.bind _) ?_);try dsimp only
 first
 | rw[a6<|show ¬((Value.builtin "range.__reversed__"==Value.none)=true)from bC]
 | (show wpAny _ _ (if(Value.builtin "range.__reversed__"==Value.none)=true then _ else _) _ _ _;rw[a6<|show ¬((Value.builtin "range.__reversed__"==Value.none)=true)from bC])
 refine a8 (nA ?_)
 refine a8 (m:=runValue (.call (.builtin "range.__reversed__") ⟨[.ref r],[]⟩)) (show wpAny _ _ (call (.builtin "range.__reversed__") [.ref r]) _ _ _ from jR PySem.F.slot_range_reversed hT PySem.F.entry_range_reversed (PySem.F.args_range_reversed_1 _) (aU4 r n t u v h1 h2) ⟨hr,?_⟩)
 first
 | exact aG h
 | exact a8 (aG<|aG h)
theorem d14 {r:Addr}{n:Int}{t u v:Tok}{Q:Value->Shared->Prop}(hr:IsRange s.heap r 0 n 1 t u v)(h1: -(2^31)<=n)(h2:n<2^31)(h:Q (.ref s.heap.objs.size) {s with heap:=s.heap.push (aK3 n)}) :
  wpAny (model prog w) A (call (.type "reversed") [.ref r]) Q E s:=by
 refine callType_other (U:="range_iterator") (Q₁:=λobj s₁=>obj= .ref s.heap.objs.size/\s₁={s with heap:=s.heap.push (aK3 n)}) af PySem.F.create_reversed ⟨_,_,PySem.F.mro_reversed⟩ PySem.F.made_reversed aU3 (PySem.F.typeCall_reversed_1 _) (bP2 hr h1 h2 ⟨rfl,rfl⟩) ?_
 rintro obj s₁ ⟨rfl,rfl⟩;exact⟨⟨_,bN _ rfl,rfl⟩,h⟩
end
section
variable {X:Cx}{tg:Expr}
def iRevR (ta:TA):TI:=λσ H R=>ta σ H λvs H1=> ∃j:Int,vs=[.int j]/\ -(2^31)<=j/\j<2^31/\R (Itd ((j.toNat:Int)-1) j.toNat) H1
theorem bP3 {a:Expr}{ta:TA}{p p2 pos pos2:Pos}(hg:Gl X "reversed")(hm:X.mg "reversed"=none)(hg2:Gl X "range")(hm2:X.mg "range"=none)(ha:PA X [a] ta)(hs:starEach [a] X.env=[(false,eval a X.env)]:=by rfl)
  (hs2:starEach [.Call (.Name "range" p2) [a] [] pos2] X.env=[(false,eval (.Call (.Name "range" p2) [a] [] pos2) X.env)]:=by rfl) :
  PI X tg (.Call (.Name "reversed" p) [.Call (.Name "range" p2) [a] [] pos2] [] pos) (iRevR ta):=by
 intro pins s σ H R I h;refine Call_ (tG I hg hm PyProof.Rows.boot_reversed<|jE ?_ hs2 rfl);rw[hs2];show wpAny _ _ (spliced ((false,eval (.Call (.Name "range" p2) [a] [] pos2) X.env)::[])) _ _ s;refine Calls.spliced_cons (Call_<|tG I hg2 hm2 boot_range<|jE (thn (ha pos2 pins s σ H _ I h) λus s1 ⟨vs,H1,I1,r1,q1⟩=> ?_) hs rfl)
 obtain⟨j,e,q1,q2,q⟩:=q1;subst e;obtain⟨u,rfl,t,rfl⟩:=vals1 r1;refine call_range_1 (Calls.spliced_nil ?_);have I2:Inv X pins σ H1 {s1 with heap:=s1.heap.push {cls:= .type "range",data:= .fields #[.int 0 s1.toks,.int j t,.int 1<|s1.toks+1]},toks:=s1.toks+1+1}:=I1.kept λb o e=>aM _ e
 refine d14 (IsRange.new ..) q1 q2 ?_
 have hi:IsRangeIter (((s1.heap.push {cls:= .type "range",data:= .fields #[.int 0 s1.toks,.int j t,.int 1<|s1.toks+1]})).push<|aK3 j) (s1.heap.push {cls:= .type "range",data:= .fields #[.int 0 s1.toks,.int j t,.int 1<|s1.toks+1]}).objs.size ((j.toNat:Int)-1) (j.toNat:Int) (-1):=bN _ rfl;refine aD2 hi ?_
 refine⟨_,[(s1.heap.push {cls:= .type "range",data:= .fields #[.int 0 s1.toks,.int j t,.int 1<|s1.toks+1]}).objs.size],_,_,H1,rfl,I2.kept (t':=s1.toks+1+1) λb o e=>aM _ e,bC6 _ ((j.toNat:Int)-1) j.toNat,?_,λb hb=> ?_,q⟩
 ·show IsRangeIter _ _ (((j.toNat:Int)-1)+((0:Nat):Int)*(-1)) ((j.toNat:Int)-((0:Nat):Int)) (-1)
  have e1:((j.toNat:Int)-1)+((0:Nat):Int)*(-1)=(j.toNat:Int)-1:=ae
  have e2:(j.toNat:Int)-((0:Nat):Int)=(j.toNat:Int):=ae
  rw[e1,e2];exact hi
 ·have e:b=(s1.heap.push {cls:= .type "range",data:= .fields #[.int 0 s1.toks,.int j t,.int 1<|s1.toks+1]}).objs.size:=by simpa using hb
  subst e;exact I2.fpOk (aB _) (I2.hok.fresh<|aB _)
theorem cM6:PGet X (rIxL X.K):=by
 intro pins s σ H o i ov iv Q I ro ri h;obtain⟨p,xs,k,z,rfl,rfl,hq,he,q⟩:=h;cases ro;obtain⟨t,rfl⟩:=ri;obtain⟨its,r,pl,hz⟩:=I.list hq;obtain⟨j,h1,h2,h3,h4,h5⟩:=aW2 he;obtain⟨w,ew,rw'⟩:=r.get h2;have hl:=r.length;have hn:=aO3;have fin:EP X pins σ Q w s:=⟨z,H,I,rw',q⟩
 by_cases h0:0<=k
 ·have hj:k.toNat=j:=by
   rw[y9 h0 h5]at h1;exact gK h1
  exact wpAny_getItem_list pl.isList h0 ad (by rw[hj];simpa using ew) fin
 ·have hj:(k+(its.toArray.size:Int)).toNat=j:=by
   rw[xY ad h4]at h1
   rw[aY,<-hl];exact gK h1
  exact wpAny_getItem_list_neg pl.isList ad (by rw[aY]<;>lia) ad (by rw[hj];simpa using ew) fin
end
end L2
namespace HT
open PySem PyProof.Rows
section
variable {prog:Program}{w:World}{A:Around}{E:Value->Shared->Prop}{s:Shared}
theorem getItem_tuple_whole {t sl:Addr}{items:Array Value}{vl vu:Value}{lo hi:Option Int}{Q:Value->Shared->Prop}(ht:IsTup s.heap t items)(hs:s.heap.IsSliceOf sl vl vu .none)(pl:IsPart vl lo)(pu:IsPart vu hi)
  (hw:sIx items.size 0 lo=0/\sIx items.size items.size hi=items.size) (h:Q (.ref t) s):wpAny (model prog w) A (getItem (.ref t)<|.ref sl) Q E s:=by
 obtain⟨os,hos,hcs,hds⟩:=id hs;have hTs:s.TypeIs (.ref sl) "slice":=⟨os,hos,hcs⟩;unfold getItem;try with_reducible refine iV ?_
 first|refine a8 (aG ?_)|skip
 refine a8 (wpAny_sequenceKey ht.typeIs ac ?_)
 refine a8 (kL (name:=Str.ofString "__getitem__") ht.typeIs wW<|i6 wW ht.typeIs entry_tuple_getitem ?_<|args_tuple_getitem _ _)
 show wpAny _ _ (Builtin.Tuple.tupleItemsOf (.ref t) >>= _) _ _ s
 refine a8 (tupleItemsOf_ ht ?_)
 refine a8 (xX hTs ?_)
 rw[a7 ac]
 refine a8 (wB hs pl pu ?_)
 have hyes:(((sIx items.size 0 lo:Nat):Int)==0&&(1:Int)==1&&(sIx items.size items.size hi-sIx items.size 0 lo)==items.size)=true:=by
  rw[hw.1,hw.2];simp
 show wpAny _ _ (if(((sIx items.size 0 lo:Nat):Int)==0&&(1:Int)==1&&(sIx items.size items.size hi-sIx items.size 0 lo)==items.size)=true then _ else _) _ _ s
 rw[a7 hyes];show wpAny _ _ (Builtin.Tuple.tupleIsExact (.ref t) >>= _) _ _ s;unfold Builtin.Tuple.tupleIsExact;refine a8 (a8<|xX ht.typeIs<|aG ?_);show wpAny _ _ (if(Value.type "tuple"==Value.type "tuple")=true then _ else _) _ _ s;rw[a7 ac]
 refine a8 (nA ?_)
 first
  | exact aG ⟨_,rfl,aG h⟩
  | exact a8 (aG<|aG ⟨_,rfl,aG h⟩)
  | exact a8 (aG ⟨_,rfl,aG h⟩)
end
end HT
namespace L2
open PySem PySem.Spec PyProof.Rows
section
variable {X:Cx}
def rSlW (K:Frag):V->Option Int->Option Int->Hp->VK->Prop:=λx lo hi H Q=> ∃a xs,x= .ref a/\SqT K H a xs/\(HT.sIx xs.length 0 lo=0/\HT.sIx xs.length xs.length hi=xs.length)/\Q (.ref a) H
theorem cM7:SlR X (rSlW X.K):=by
 intro pins s σ H x v vl vu lo hi sl Q I rx hs pl pu h;obtain⟨a,xs,rfl,hx,hw,q⟩:=h;cases rx;obtain⟨its,r,ht,hz⟩:=I.tuple hx;have hlen:its.toArray.size=xs.length:=by rw[aY];exact r.length.symm
 exact⟨"tuple",_,PyProof.Rows.slot_tuple_getitem.lookup,ht.typeIs,HT.getItem_tuple_whole ht hs pl pu (by rw[hlen];exact hw) ⟨.ref a,H,I,rfl,q⟩⟩
end
end L2
namespace M
open PySem PySem.Spec PyProof.Rows L2
section
variable {X:Cx}{K:Frag}{A:AS}{H:Hp}{e a b:Expr}{te ti:UE}{pos p2:Pos}{C:C0}{ρ ρ':Ev}{σ:L2.St}
def gSlT (d:D)(lo hi:Option Int)(Q:B->Prop):Prop:=match d with
 | .tup l=>Q (.pu<|.tup<|cutD l lo hi)
 | .lst l=>Q (.ow<|cutD l lo hi)
 | .rol l=>Q (.ow<|cutD l lo hi)
 | _=>False
def uSlT (t:UE)(tl th:UO):UE:=λρ Q=>t ρ λb0 ρ1=>tl ρ1 λlo ρ2=>th ρ2 λhi ρ3=>gSlT b0.d lo hi λb=>Q b ρ3
theorem cD7 (l:List D)(lo hi:Option Int)(h:HT.sIx l.length 0 lo=0/\HT.sIx l.length l.length hi=l.length):cutD l lo hi=l:=by
 unfold cutD;rw[h.1,h.2];simp
theorem cD8 {tl th:UO}{lo hi:Option Expr}(he:PU X e te)(hl:PUO X lo tl)(hu:PUO X hi th):PU X (.Subscript e (.Slice lo hi none p2) pos) (uSlT te tl th):=
 iJ (bO0 ((c63.or cJ9).or cM7) he hl hu) λσ H Q ⟨C,ρ,Q0,I,h,k⟩=>⟨C,ρ,_,I,h,λb0 ρ1 v H1 q f s r=>by
  have I1:=(I.frz f).same s;have rr:=r.rep λa z=>I.avF f z
  refine⟨C,ρ1,_,I1,q,λl2 ρ2 H2 q2 f2 s2=> ?_⟩
  have I2:=(I1.frz f2).same s2;refine⟨C,ρ2,_,I2,q2,λh3 ρ3 H3 q3 f3 s3=> ?_⟩
  have I3:=(I2.frz f3).same s3;have s13:=s2.trans s3;have sAll:=s.trans s13;have fAll:=f.trans (f2.trans f3);have r':Rep X.K (Av C ρ3 σ) H3 b0.d v:=rr.mono (.sub s13 λa z=>f2.av (f3.av z))
  generalize b0.d=d at r' q3;cases d with
  | tup l=>
   have r2:=r';simp only[Rep]at r';obtain⟨a,vs,rfl,c,rs⟩:=r';have hlen:=rs.length
   by_cases hw:HT.sIx l.length 0 l2=0/\HT.sIx l.length l.length h3=l.length
   ·refine .inr ⟨a,vs,rfl,c.imp bO id,by rw[<-hlen];exact hw,k _ ρ3 _ _ q3 fAll sAll ?_⟩
    show Rep _ _ _ (.tup<|cutD l l2 h3) _
    rw[cD7 l l2 h3 hw];exact r2
   ·exact .inl (.inr ⟨a,vs,rfl,c.imp bO id,by rw[<-hlen];exact hw,λp n=>k _ ρ3 _ _ q3 fAll (sAll.trans<|eW n _) (iK (λa z=>I3.avSome z) n<|rs.cut l2 h3)⟩)
  | lst l=>
   simp only[Rep]at r';obtain⟨a,vs,rfl,n0,c,rs⟩:=r';exact .inl (.inl ⟨a,vs,rfl,SqL.of c,λp n=>k _ ρ3 _ _ q3 fAll (sAll.trans<|eW n _) (gX sAll n<|rs.cut l2 h3)⟩)
  | rol l=>
   simp only[Rep]at r';obtain⟨a,vs,rfl,c,rs⟩:=r';exact .inl (.inl ⟨a,vs,rfl,c.imp bO id,λp n=>k _ ρ3 _ _ q3 fAll (sAll.trans<|eW n _) (gX sAll n<|rs.cut l2 h3)⟩)
  | _=>exact(show False from q3).elim⟩
def cM8 (i:Nat)(f:Int->Int->Int)(ti te:UE):US:=λD ρ=>qK ρ i λ_=>ti ρ λj ρ1=>qK ρ1 i λl1=> ∃k n x,j.d= .int k/\ixN l1.length k=some n/\l1[n]? =some (.int x)/\
 te ρ1 λb ρ2=>qK ρ2 i λl=> ∃y,b.d= .int y/\D.nx (ρ2.set i<|some<|.ow<|l.set n<|.int<|f x y)
theorem d15 {x:Str}{p tpos:Pos}{ix:Expr}{op:Operator}{f:Int->Int->Int}(i:Nat)(hx:PE X (.Name x p) (a08 i))(hi:PU X ix ti)(he:PU X e te)(hp:PIp X op (ipI f))
  (ha: ∀ov iv new,augStore ix ov iv new=(do holding [new,ov,iv] (setItem ov iv new);release [new,ov,iv] [];pure .next):=by intros;rfl):PUS X (.AugAssign (.Subscript (.Name x p) ix tpos) op e pos) (cM8 i f ti te):=
 nS (cX9 hx hi cM6 he hp bO2 ha) λD σ H ⟨C,ρ,D0,I,h,k⟩=>by
  obtain⟨l,hl,h⟩:=jY h;obtain⟨a,vs,h1,h2,h3,h4⟩:=I.ow i l hl;refine⟨.ref a,h1,C,ρ,_,I,h,λj ρ1 w H1 q f1 s1 r1=> ?_⟩
  obtain⟨l1,hl1,kk,n,x0,ej,en,ex,q⟩:=jY q;have e1:=f1.ow hl1;rw[hl]at e1;cases e1;have I1:=(I.frz f1).same s1;obtain⟨a1,vs1,g1,g2,g3,g4⟩:=I1.ow i l hl1;rw[h1]at g1;cases g1;have rj:=r1.rep λa z=>I.avF f1 z
  rw[ej]at rj;have:=bF rj;subst this;obtain⟨v0,ev0,rv0⟩:=g4.get ex;have:=bF rv0;subst this;have hat:L2.atI vs1 kk=some (.int x0):=by unfold L2.atI;rw[<-g4.length,en];exact ev0
  refine⟨a,vs1,kk,_,rfl,rfl,SqL.of g2,hat,C,ρ1,_,I1,q,λb ρ2 w2 H2 q2 f2 s2 r2=> ?_⟩
  obtain⟨l2,hl2,y,eb,q2⟩:=jY q2;have e2:=f2.ow hl2;rw[hl1]at e2;cases e2;have I2:=(I1.frz f2).same s2;obtain⟨a2,vs2,k1,k2,k3,k4⟩:=I2.ow i l hl2;rw[h1]at k1;cases k1;have rb:=r2.rep λa z=>I1.avF f2 z
  rw[eb]at rb;have:=bF rb;subst this;exact⟨x0,y,rfl,rfl,a,vs2,kk,n,rfl,rfl,k2,by rw[<-k4.length];exact en,k.nx _ _ _ q2<|I2.write hl2 h1<|k4.set n<|show Rep _ _ _ _ _ by simp only[Rep]⟩
mutual
noncomputable def pd:D->Option PyData
 | .non=>some .none
 | .bl b=>some (.bool b)
 | .int i=>some (.int i)
 | .tup l=>(pdL l).map .tuple
 | .lst l=>(pdL l).map .list
 | .rol l=>(pdL l).map .list
 | .str _=>none
 | .ty _=>none
 | .obj _ _ _=>none
 | .adr _=>none
 | .xob _ _ _ _=>none
noncomputable def pdL:List D->Option (List PyData)
 | []=>some []
 | d::r=>(pd d).bind λx=>(pdL r).map (x::·)
end
theorem bP4 {d:D}{r:List D}{xs:List PyData}(h:pdL (d::r)=some xs): ∃x ys,xs=x::ys/\pd d=some x/\pdL r=some ys:=by
 simp only[pdL]at h;cases e:pd d with
 | none=>rw[e]at h;cases h
 | some x=>
  rw[e]at h;cases e2:pdL r with
  | none=>rw[e2]at h;cases h
  | some ys=>rw[e2]at h;cases h;exact⟨x,ys,rfl,rfl,rfl⟩
theorem sE {α β:Type}{o:Option α}{f:α->β}{y:β}(h:o.map f=some y): ∃x,o=some x/\y=f x:=by
 cases o with
 | none=>cases h
 | some x=>cases h;exact⟨x,rfl,rfl⟩
mutual
theorem aG8: ∀(d:D) {x:PyData},pd d=some x->x.canLay0=true
 | .non,x,h=>by simp only[pd]at h;cases h;rfl
 | .bl b,x,h=>by simp only[pd]at h;cases h;rfl
 | .int i,x,h=>by simp only[pd]at h;cases h;rfl
 | .tup l,x,h=>by simp only[pd]at h;obtain⟨xs,e,rfl⟩:=sE h;simp only[PyData.canLay0];exact aW8 l e
 | .lst l,x,h=>by simp only[pd]at h;obtain⟨xs,e,rfl⟩:=sE h;simp only[PyData.canLay0];exact aW8 l e
 | .rol l,x,h=>by simp only[pd]at h;obtain⟨xs,e,rfl⟩:=sE h;simp only[PyData.canLay0];exact aW8 l e
 | .str _,x,h=>by simp only[pd]at h;cases h
 | .ty _,x,h=>by simp only[pd]at h;cases h
 | .obj _ _ _,x,h=>by simp only[pd]at h;cases h
 | .adr _,x,h=>by simp only[pd]at h;cases h
 | .xob _ _ _ _,x,h=>by simp only[pd]at h;cases h
theorem aW8: ∀(l:List D) {xs:List PyData},pdL l=some xs->PyData.canLayAll0 xs=true
 | [],xs,h=>by simp only[pdL]at h;cases h;rfl
 | d::r,xs,h=>by
  obtain⟨x,ys,rfl,e1,e2⟩:=bP4 h;simp only[PyData.canLayAll0,dN];exact⟨aG8 d e1,aW8 r e2⟩
end
section
variable {pins:List (Addr×Obj)}{s:Shared}
mutual
theorem pK (I:Inv X pins σ H s): ∀(d:D) {x:PyData} {v:V} {u:Value},pd d=some x->Rep X.K A H d v->RelV v u-> ∃as,Reads s.heap u x as
 | .non,x,v,u,h,r,q=>by simp only[pd]at h;cases h;simp only[Rep]at r;subst r;cases q;exact⟨_,.none⟩
 | .bl b,x,v,u,h,r,q=>by simp only[pd]at h;cases h;simp only[Rep]at r;subst r;cases q;exact⟨_,.bool b⟩
 | .int i,x,v,u,h,r,q=>by simp only[pd]at h;cases h;simp only[Rep]at r;subst r;obtain⟨t,rfl⟩:=q;exact⟨_,.int i t⟩
 | .tup l,x,v,u,h,r,q=>by
  simp only[pd]at h;obtain⟨xs,e,rfl⟩:=sE h;simp only[Rep]at r;obtain⟨a,vs,rfl,c,rs⟩:=r;cases q;obtain⟨its,rv,⟨o,ho,hc,n,hd⟩,hz⟩:=I.tuple (c.imp bO id);obtain⟨as,ra⟩:=yK I l e rs rv;exact⟨_,.tuple ho hc hd<|by simpa using ra⟩
 | .lst l,x,v,u,h,r,q=>by
  simp only[pd]at h;obtain⟨xs,e,rfl⟩:=sE h;simp only[Rep]at r;obtain⟨a,vs,rfl,n0,c,rs⟩:=r;cases q;obtain⟨its,rv,p,hz⟩:=I.list (SqL.of c);obtain⟨o,ho,hc,n,hd⟩:=p.isList;obtain⟨as,ra⟩:=yK I l e rs rv;exact⟨_,.list ho hc hd<|by simpa using ra⟩
 | .rol l,x,v,u,h,r,q=>by
  simp only[pd]at h;obtain⟨xs,e,rfl⟩:=sE h;simp only[Rep]at r;obtain⟨a,vs,rfl,c,rs⟩:=r;cases q;obtain⟨its,rv,p,hz⟩:=I.list (c.imp bO id);obtain⟨o,ho,hc,n,hd⟩:=p.isList;obtain⟨as,ra⟩:=yK I l e rs rv;exact⟨_,.list ho hc hd<|by simpa using ra⟩
 | .str _,x,v,u,h,r,q=>by simp only[pd]at h;cases h
 | .ty _,x,v,u,h,r,q=>by simp only[pd]at h;cases h
 | .obj _ _ _,x,v,u,h,r,q=>by simp only[pd]at h;cases h
 | .adr _,x,v,u,h,r,q=>by simp only[pd]at h;cases h
 | .xob _ _ _ _,x,v,u,h,r,q=>by simp only[pd]at h;cases h
theorem yK (I:Inv X pins σ H s): ∀(l:List D) {xs:List PyData} {vs:List V} {us:List Value},pdL l=some xs->bG X.K A H l vs->Vals vs us-> ∃as,ReadsAll s.heap us xs as
 | [],xs,vs,us,h,r,q=>by simp only[pdL]at h;cases h;have:=r.unnil;subst this;cases q;exact⟨_,.nil⟩
 | d::l,xs,vs,us,h,r,q=>by
  obtain⟨x,ys,rfl,e1,e2⟩:=bP4 h;obtain⟨v,vr,rfl,r1,rs⟩:=r.uncons;cases q with
  | cons q1 q2=>
   obtain⟨as,h1⟩:=pK I d e1 r1 q1;obtain⟨bs,h2⟩:=yK I l e2 rs q2;exact⟨_,.cons h1 h2⟩
end
end
def cM9 (neg:Bool)(d e:D)(Q:B->Prop):Prop:= ∃p q,pd d=some p/\pd e=some q/\p.depth<=60/\Q (.pu<|.bl<|neg ^^ p.eqv q)
theorem ou_eqD (hu:X.A.units+64<cLine):OpU X (compareOp .Eq) (cM9 false):=by
 intro A H d e v w Q0 Q hA r1 r2 g k;obtain⟨p,q,e1,e2,hd,g⟩:=g;refine⟨λx y H Q=> ∃(A:AS) (d e:D) (p q:PyData),Rep X.K A H d x/\Rep X.K A H e y/\pd d=some p/\pd e=some q/\p.depth<=60/\Q (.bl<|p.eqv q) H,?_,A,d,e,p,q,r1,r2,e1,e2,hd,k _ _ H g (.refl _) (by rw[mY];exact jT)⟩
 rintro pins s σ H x y v u Q I rx ry ⟨A,d,e,p,q,r1,r2,e1,e2,hd,h⟩;obtain⟨as,ra⟩:=pK I d e1 r1 rx;obtain⟨bs,rb⟩:=pK I e e2 r2 ry;exact SeqAt.compareEq_reads ra rb (aG8 d e1) (aG8 e e2) ad ⟨.bl _,H,I,rfl,h⟩
theorem ou_neD (hu:X.A.units+64<cLine):OpU X (compareOp .NotEq) (cM9 true):=by
 intro A H d e v w Q0 Q hA r1 r2 g k;obtain⟨p,q,e1,e2,hd,g⟩:=g;refine⟨λx y H Q=> ∃(A:AS) (d e:D) (p q:PyData),Rep X.K A H d x/\Rep X.K A H e y/\pd d=some p/\pd e=some q/\p.depth<=60/\Q (.bl<|!(p.eqv q)) H,?_,A,d,e,p,q,r1,r2,e1,e2,hd,k _ _ H g (.refl _) (by rw[kS];exact jT)⟩
 rintro pins s σ H x y v u Q I rx ry ⟨A,d,e,p,q,r1,r2,e1,e2,hd,h⟩;obtain⟨as,ra⟩:=pK I d e1 r1 rx;obtain⟨bs,rb⟩:=pK I e e2 r2 ry;exact SeqAt.compareNe_reads ra rb (aG8 d e1) (aG8 e e2) ad ⟨.bl _,H,I,rfl,h⟩
def SqA (K:Frag)(A:AS)(H:Hp)(T:Bool)(a:Addr)(vs:List V):Prop:=match T with
 | false=>(¬A a/\Rd H a (.lst vs))\/KL K a vs
 | true=>(¬A a/\Rd H a (.tup vs))\/KT K a vs
theorem SqA.sqv {T:Bool}{a':Addr}{vs:List V}{A':AS}{H':Hp}(c:SqA K A H T a' vs)(P:lY A H A' H'):SqV K T H' a' vs:=by
 cases T<;>(rcases c with⟨n,c⟩|c;exact .inl (Rd.pres P n c).2;exact .inr c)
theorem lY.self:lY A H A H:=λ_ _ n e=>⟨n,e⟩
theorem Rep.sq {d:D}{v:V}{l:List D}(r:Rep K A H d v)(h:mC d=some l): ∃T a vs,v= .ref a/\SqA K A H T a vs/\bG K A H l vs:=by
 cases d with
 | tup l'=>cases h;simp only[Rep]at r;obtain⟨a,vs,e,c,r⟩:=r;exact⟨true,a,vs,e,c,r⟩
 | lst l'=>cases h;simp only[Rep]at r;obtain⟨a,vs,e,n,c,r⟩:=r;exact⟨false,a,vs,e,.inl ⟨n,.inl c⟩,r⟩
 | rol l'=>cases h;simp only[Rep]at r;obtain⟨a,vs,e,c,r⟩:=r;exact⟨false,a,vs,e,c,r⟩
 | _=>cases h
theorem bG.at {l:List D}{vs:List V}{i:Nat}(r:bG K A H l vs)(hi:i<l.length): ∃x,vs[i]? =some x/\Rep K A H (l.getD i .non) x:=r.get (by rw[aI,aJ hi];rfl)
theorem cN0 {T1 T2:Bool}{l1 l2:Addr}{vs ws:List V}{l m:List D}(c1:SqA K A H T1 l1 vs)(c2:SqA K A H T2 l2 ws)(r1:bG K A H l vs)(r2:bG K A H m ws) :
  bO6 K A H (Itz K T1 T2 l1 l2) (min l.length m.length) (λi=> .tup [l.getD i .non,m.getD i .non]):=by
 have k1:=r1.length;have k2:=r2.length;refine⟨λA' H' i P hi=> ?_,λA' H' i x H'' P hA hi y=> ?_,λA' H' P=>⟨vs,ws,c1.sqv P,c2.sqv P,ad⟩⟩
 ·obtain⟨x,e1,_⟩:=r1.at (i:=i) ad
  obtain⟨y,e2,_⟩:=r2.at (i:=i) ad
  exact⟨vs,ws,x,y,c1.sqv P,c2.sqv P,e1,e2⟩
 ·obtain⟨x1,e1,q1⟩:=r1.at (i:=i) ad
  obtain⟨y1,e2,q2⟩:=r2.at (i:=i) ad
  obtain⟨T,a,b,rfl,hT,rfl,ha,hb⟩:=y;have ea:=ha vs (c1.sqv P);have eb:=hb ws (c2.sqv P);rw[e1]at ea;cases ea;rw[e2]at eb;cases eb;exact⟨eW hT _,iK hA hT<|.cons (q1.mono P)<|.cons (q2.mono P) .nil⟩
theorem cD9 {T:Bool}{l1:Addr}{vs:List V}{l:List D}(c1:SqA K A H T l1 vs)(r1:bG K A H l vs):bO6 K A H (Ite K T l1) l.length (λi=> .tup [.int (i:Int),l.getD i .non]):=by
 have k1:=r1.length;refine⟨λA' H' i P hi=> ?_,λA' H' i x H'' P hA hi y=> ?_,λA' H' P=>⟨vs,c1.sqv P,k1.symm⟩⟩
 ·obtain⟨x,e1,_⟩:=r1.at hi;exact⟨vs,x,c1.sqv P,e1⟩
 ·obtain⟨x1,e1,q1⟩:=r1.at hi;obtain⟨T,a,rfl,hT,rfl,ha⟩:=y;have ea:=ha vs (c1.sqv P);rw[e1]at ea;cases ea;exact⟨eW hT _,iK hA hT<|.cons (show Rep _ _ _ _ _ by simp only[Rep])<|.cons (q1.mono P) .nil⟩
def d16 (ta:UA):UI:=λρ Q=>ta ρ λds ρ1=>match ds with
 | [d,e]=>(match mC d,mC e with
  | some l,some m=>Q (min l.length m.length) (λi=> .tup [l.getD i .non,m.getD i .non]) ρ1
  | _,_=>False)
 | _=>False
theorem cN1 {elts:List Expr}{kt:Nat}{tp p:Pos}{ta:UA}(hg:Gl X "zip")(hm:X.mg "zip"=none)(ha:PUA X [a,b] ta)(hs:starEach [a,b] X.env=[(false,eval a X.env),(false,eval b X.env)]:=by rfl)(hs2:starEach [b] X.env=[(false,eval b X.env)]:=by rfl) :
  PUI X (.Tuple elts kt tp) (.Call (.Name "zip" p) [a,b] [] pos) (d16 ta):=
 aS5 (pi_zip hg hm ha hs hs2) λσ H R ⟨C,ρ,Q0,I,h,k⟩=>⟨C,ρ,_,I,h,λds ρ1 vs H1 q f s r=>by
  split at q
  ·rename_i d e
   obtain⟨v,vr,rfl,rv,rr⟩:=r.uncons;obtain⟨w,wr,rfl,rw',rr'⟩:=rr.uncons;have:=rr'.unnil;subst this;split at q
   ·rename_i l m e1 e2
    obtain⟨T1,a1,us,rfl,c1,s1⟩:=rv.sq e1;obtain⟨T2,a2,ws,rfl,c2,s2⟩:=rw'.sq e2;exact⟨a1,a2,T1,T2,us,ws,rfl,c1.sqv .self,c2.sqv .self,k _ _ ρ1 _ H1 q f s<|cN0 c1 c2 s1 s2⟩
   ·exact q.elim
  ·exact q.elim⟩
def cN2 (ta:UA):UI:=λρ Q=>ta ρ λds ρ1=>match ds with
 | [d]=>(match mC d with
  | some l=>Q l.length (λi=> .tup [.int (i:Int),l.getD i .non]) ρ1
  | none=>False)
 | _=>False
theorem d17 {elts:List Expr}{kt:Nat}{tp p:Pos}{ta:UA}(hg:Gl X "enumerate")(hm:X.mg "enumerate"=none)(ha:PUA X [a] ta)(hs:starEach [a] X.env=[(false,eval a X.env)]:=by rfl) :
  PUI X (.Tuple elts kt tp) (.Call (.Name "enumerate" p) [a] [] pos) (cN2 ta):=
 aS5 (d13 hg hm ha hs) λσ H R ⟨C,ρ,Q0,I,h,k⟩=>⟨C,ρ,_,I,h,λds ρ1 vs H1 q f s r=>by
  split at q
  ·rename_i d
   obtain⟨v,vr,rfl,rv,rr⟩:=r.uncons;have:=rr.unnil;subst this;split at q
   ·rename_i l e1
    obtain⟨T1,a1,us,rfl,c1,s1⟩:=rv.sq e1;exact⟨a1,T1,us,rfl,c1.sqv .self,k _ _ ρ1 _ H1 q f s<|cD9 c1 s1⟩
   ·exact q.elim
  ·exact q.elim⟩
def cN3 (ta:UA):UI:=λρ Q=>ta ρ λds ρ1=>match ds with
 | [.int j]=>(-(2^31)<=j/\j<2^31)/\Q j.toNat (λk=> .int ((j.toNat:Int)-1-k)) ρ1
 | _=>False
theorem d18 {tg:Expr}{ta:UA}{p q2 pos2:Pos}(hg:Gl X "reversed")(hm:X.mg "reversed"=none)(hg2:Gl X "range")(hm2:X.mg "range"=none)(ha:PUA X [a] ta)(hs:starEach [a] X.env=[(false,eval a X.env)]:=by rfl)
  (hs2:starEach [.Call (.Name "range" q2) [a] [] pos2] X.env=[(false,eval (.Call (.Name "range" q2) [a] [] pos2) X.env)]:=by rfl) :
  PUI X tg (.Call (.Name "reversed" p) [.Call (.Name "range" q2) [a] [] pos2] [] pos) (cN3 ta):=
 aS5 (bP3 hg hm hg2 hm2 ha hs hs2) λσ H R ⟨C,ρ,Q0,I,h,k⟩=>⟨C,ρ,_,I,h,λds ρ1 vs H1 q f s r=>by
  split at q
  ·rename_i j
   obtain⟨v,vr,rfl,rv,rr⟩:=r.uncons;have:=rr.unnil;subst this;have:=bF rv;subst this;obtain⟨⟨h1,h2⟩,q⟩:=q;exact⟨j,rfl,h1,h2,k _ _ ρ1 _ H1 q f s bC8⟩
  ·exact q.elim⟩
end
end M
end
section
namespace M
open PySem PySem.Spec PyProof.Rows L2
section
variable {X:Cx}{a b c e:Expr}{ta tb tc te:UE}{pos:Pos}
def c05 (g g':D->D->(B->Prop)->Prop)(ta tb tc:UE):UE:=λρ Q=>ta ρ λx ρ1=>tb ρ1 λy ρ2=>g x.d y.d λb=>isB (λk ρ3=>if k=true then tc ρ3 λz ρ4=>g' y.d z.d λb'=>Q b' ρ4 else Q (.pu<|.bl false) ρ3) b ρ2
theorem cN4 {op op':CmpOp}{g g':D->D->(B->Prop)->Prop}(ho:OpU X (compareOp op) g)(ho':OpU X (compareOp op') g')(ha:PU X a ta)(hb:PU X b tb)(hc:PU X c tc)
  (hm:lastMarks [op,op'] [b,c]=false:=by with_unfolding_all rfl):PU X (.Compare a [op,op'] [b,c] pos) (c05 g g' ta tb tc):=
 iJ (cJ0 bO3 bO3 ha hb hc hm) λσ H Q ⟨C,ρ,Q0,I,h,k⟩=>⟨C,ρ,_,I,h,λx ρ1 v H1 q1 f1 s1 r1=>by
  have I1:=(I.frz f1).same s1;refine⟨C,ρ1,_,I1,q1,λy ρ2 w H2 q2 f2 s2 r2=> ?_⟩
  have I2:=(I1.frz f2).same s2;have rx:Rep X.K (Av C ρ2 σ) H2 x.d v:=(r1.rep λa z=>I.avF f1 z).mono (.sub s2 λa=>f2.av)
  have ry:Rep X.K (Av C ρ2 σ) H2 y.d w:=r2.rep λa z=>I1.avF f2 z
  refine ho (Av C ρ2 σ) H2 x.d y.d v w _ _ (λa z=>I2.avSome z) rx ry q2 λb v' H3 q3 s3 r3=> ?_
  obtain⟨kk,rfl,q3⟩:=aW4 q3 r3;refine⟨kk,rfl,?_⟩;have I3:=I2.same s3;cases kk with
  | false=>
   rw[a6 bC]at q3⊢;exact k _ _ _ _ q3 (f1.trans f2) (s1.trans<|s2.trans s3) jT
  | true=>
   rw[a7 rfl]at q3⊢;refine⟨C,ρ2,_,I3,q3,λz ρ4 w' H4 q4 f4 s4 r4=> ?_⟩
   have I4:=(I3.frz f4).same s4;have ry4:Rep X.K (Av C ρ4 σ) H4 y.d w:=ry.mono (.sub (s3.trans s4) λa=>f4.av)
   exact ho' (Av C ρ4 σ) H4 y.d z.d w w' _ Q (λa z=>I4.avSome z) ry4 (r4.rep λa z=>I3.avF f4 z) q4 λb' v'' H5 q5 s5 r5=>k b' ρ4 v'' H5 q5 (f1.trans<|f2.trans f4) (s1.trans<|s2.trans<|s3.trans<|s4.trans s5) (r5.from<|s1.trans<|s2.trans<|s3.trans s4)⟩
theorem bG.dropLast {K:Frag}{A:AS}{H:Hp}{l:List D}{vs:List V}(h:bG K A H l vs):bG K A H l.dropLast vs.dropLast:=by
 rw[List.dropLast_eq_take,List.dropLast_eq_take,h.length];exact h.take _
def uPop (i:Nat):US:=λD ρ=>qK ρ i λl=>l≠[]/\D.nx (ρ.set i<|some<|.ow l.dropLast)
theorem us_pop {x:Str}{p apos cpos:Pos}(i:Nat)(hx:PE X (.Name x p) (a08 i))(hbase:attributeBase (.Name x p) "pop" X.env (eval (.Name x p) X.env)=eval (.Name x p) X.env:=by rfl)(hline:(apos.endLine==cpos.line)=true:=by rfl)
  (hw:swapsWith (.Call (.Attribute (.Name x p) "pop" apos) [] [] cpos) none pos.line X.env=pure false:=by rfl):PUS X (.Expr (.Call (.Attribute (.Name x p) "pop" apos) [] [] cpos) pos) (uPop i):=
 nS (a81 (pe_bm0 x8 PySem.F.slot_list_pop PySem.F.type_list_pop mt_pop hx hbase hline) hw) λD σ H ⟨C,ρ,D0,I,h,k⟩=>by
  obtain⟨l,hl,hne,q⟩:=jY h;obtain⟨a,vs,h1,h2,h3,h4⟩:=I.ow i l hl;have hlen:=h4.length;have pos:0<vs.length:=by rw[<-hlen];exact List.length_pos_iff.mpr hne
  exact⟨.ref a,h1,.inl ⟨rfl,vs,SqL.of h2⟩,a,vs,vs[vs.length-1],rfl,rfl,h2,aJ aa,k.nx _ _ _ q<|I.write hl h1 h4.dropLast⟩
end
end M
end
section
namespace L2
open PySem PySem.Spec PyProof.Rows
theorem aO9:fillsNumberSlot (.type "tuple") "mul"=pure false:=
 PySem.fillsNumberSlot_seq (id:="tuple.__mul__") (r:=some (.builtin "tuple.__rmul__")) PySem.F.slot_tuple_mul.lookup af PySem.F.slot_tuple_rmul.lookup af
theorem bG8:seqRepeat? (.type "tuple")=pure (some<|.builtin "tuple.__mul__"):=by
 unfold seqRepeat?;rw[PySem.seqSlot_of (T:="tuple") (name:="__mul__") (id:="tuple.__mul__") PySem.F.slot_tuple_mul.lookup af,PySem.seqSlot_of (T:="tuple") (name:="__rmul__") (id:="tuple.__rmul__") PySem.F.slot_tuple_rmul.lookup af]
 rfl
theorem b02 (a:Int)(t:Tok)(l:Addr)(items:Array Value)(n:Nat)(dd:Option Addr)(sl:Array (Option Value)) :
  Meets (Builtin.«int.__rmul__» ⟨[.int a t,.ref l],[]⟩) (λ_ R s=>s.heap.get? l=some {cls:= .type "tuple",dict:=dd,data:= .seq items n,slots:=sl}/\R (.ok<|.ret Value.notImplemented) s):=
 .of_wp λprog w A R s h=>by obtain⟨hp,g,d,tk,os⟩:=s;obtain⟨hl,h⟩:=h;wp_walk using jM hl;exact⟨_,rfl,h⟩
theorem cN5 (l:Addr)(items:Array Value)(n:Nat)(dd:Option Addr)(sl:Array (Option Value))(u:Tok) :
  Meets (Builtin.«tuple.__mul__» ⟨[.ref l,.int 1 u],[]⟩) (λ_ R s=>s.heap.get? l=some {cls:= .type "tuple",dict:=dd,data:= .seq items n,slots:=sl}/\R (.ok<|.ret<|.ref l) s):=
 .of_wp λprog w A R s h=>by
  obtain⟨hp,g,d,tk,os⟩:=s;obtain⟨hl,h⟩:=h;have f1:=aF8
  wp_walk using jM hl
  exact⟨_,rfl,h⟩
theorem cN6 (l:Addr)(items:Array Value)(n:Nat)(dd:Option Addr)(sl:Array (Option Value))(k:Int)(u:Tok)(h1: ¬(k< -(2^63)||k≥2^63)=true)(hne: ¬(items.isEmpty||k==1)=true)(h0:(k<=0||items.isEmpty)=true) :
  Meets (Builtin.«tuple.__mul__» ⟨[.ref l,.int k u],[]⟩) (λ_ R s=>s.heap.get? l=some {cls:= .type "tuple",dict:=dd,data:= .seq items n,slots:=sl}/\R (.ok<|.ret<|.ref s.heap.objs.size) {s with heap:=s.heap.push {cls:= .type "tuple",data:= .seq #[]}}):=
 .of_wp λprog w A R s h=>by
  obtain⟨hp,g,d,tk,os⟩:=s;obtain⟨hl,h⟩:=h;have f1:=aF8
  wp_walk using jM hl
  rw[a6 h1]
  wp_walk using jM hl
  exact⟨_,rfl,h⟩
theorem cN7 (l:Addr)(items:Array Value)(n:Nat)(dd:Option Addr)(sl:Array (Option Value))(k:Int)(u:Tok)(h1: ¬(k< -(2^63)||k≥2^63)=true)(hne: ¬(items.isEmpty||k==1)=true)(h0: ¬(k<=0||items.isEmpty)=true)
  (h2: ¬items.size*k>(2^63-1)/8) (h3: ¬Builtin.Tuple.tupleTooMany (items.size*k)=true) (hz:(foldl (λx1 x2=>x1++x2) #[] (replicate k.toNat items)).size<=sizeLine) :
  Meets (Builtin.«tuple.__mul__» ⟨[.ref l,.int k u],[]⟩) (λ_ R s=>s.heap.get? l=some {cls:= .type "tuple",dict:=dd,data:= .seq items n,slots:=sl}/\R (.ok<|.ret<|.ref s.heap.objs.size) {s with heap:=s.heap.push {cls:= .type "tuple",data:= .seq (foldl (λx1 x2=>x1++x2) #[] (replicate k.toNat items))}}):=
 .of_wp λprog w A R s h=>by
  obtain⟨hp,g,d,tk,os⟩:=s;obtain⟨hl,h⟩:=h;have f1:=aF8
  wp_walk using jM hl
  rw[a6 h1]
  wp_walk using jM hl
  rw[a6 h2]
  wp_walk using jM hl
  all_goals first
   | exact⟨_,rfl,h⟩
   | (refine wpAny_ite_false (cL<|Nat.not_lt.mpr hz) ?_
      wp_walk using jM hl
      exact⟨_,rfl,h⟩)
section
variable {X:Cx}
theorem d19:OpR X (binaryOp .Mult) (λx y H Q=> ∃a k xs,x= .ref a/\y= .int k/\SqT X.K H a xs/\xs≠[]/\ -(2^63)<=k/\k<2^63/\xs.length*k.toNat<=sizeLine/\(k=1->Q (.ref a) H)/\(k≠1-> ∀p,H p=none->Q (.ref p) (upd H p<|.tup (replicate k.toNat xs).flatten))):=by
 intro pins s σ H x y v u Q I rx ry h;obtain⟨a,k,xs,rfl,rfl,ha,hn,h1,h2,hz,q1,q2⟩:=h;cases rx;obtain⟨t,rfl⟩:=ry;obtain⟨its,r,p1,_⟩:=I.tuple ha;have hl:=r.length;obtain⟨⟨cls,dd,data,sl⟩,ho,hc,n,hd⟩:=id p1;simp only at hc hd;subst hc hd;have ne:its≠[]:=λz=>hn (sH.mp (by rw[hl,z];rfl))
 have ne2:its.toArray.isEmpty=false:=by cases its with
  | nil=>exact absurd rfl ne
  | cons b r'=>rfl
 have hb: ¬(decide (k< -(2^63))||decide (k≥2^63))=true:=by simp;omega
 have f0: ∀m:Nat,foldl (λx1 x2=>x1++x2) #[] (replicate m its.toArray)=(replicate m its).flatten.toArray:=λm=>by
  have:=foldl_rep its m [];rw[xR]at this;exact this
 refine wpAny_binaryOp_repeat_ref (T:="tuple") (U:="int") ac ⟨_,ho,rfl⟩ (λs'=>pI s' k t) aO9 PySem.F.fills_int_mul PySem.F.slot_int_rmul bG8 PySem.F.slot_int_index.lookup
  (jR PySem.F.slot_int_rmul (pI s k t) PySem.F.entry_int_rmul (PySem.F.args_int_rmul_2 _ _) (b02 k t a its.toArray n dd sl) ⟨ho,rfl,⟨_,ho,rfl⟩,?_⟩)
 by_cases k1:k=1
 ·subst k1;exact jR aD6 ⟨_,ho,rfl⟩ aC9 (aC6 _ _) (cN5 a its.toArray n dd sl t) ⟨ho,.ref a,H,I,rfl,q1 rfl⟩
 have hne: ¬(its.toArray.isEmpty||k==1)=true:=by rw[ne2];simpa using k1
 by_cases k0:k<=0
 ·have e0:k.toNat=0:=aa
  refine jR aD6 ⟨_,ho,rfl⟩ aC9 (aC6 _ _) (cN6 a its.toArray n dd sl k t hb hne<|by simp[k0]) ⟨ho,?_⟩
  have q:=q2 k1;rw[e0]at q;exact⟨.ref _,_,I.laid (t':=s.toks) (o:= .tup []) (λb ob q=>aM _ q) (aB _) ⟨d6 _,_,.nil,tF _ _⟩,rfl,q _ I.fresh⟩
 ·have ek:k=(k.toNat:Int):=aa
  have em:(its.toArray.size:Int)*k=((its.toArray.size*k.toNat:Nat):Int):=by rw[aG0,<-ek]
  have hs:its.toArray.size*k.toNat<=sizeLine:=by rw[aY,<-hl];exact hz
  have hcap:(sizeLine:Nat)<=(2^63-1)/8:=ac
  refine jR aD6 ⟨_,ho,rfl⟩ aC9 (aC6 _ _) (cN7 a its.toArray n dd sl k t hb hne (by rw[ne2];simp;omega) (by rw[em];omega) (by rw[em];unfold Builtin.Tuple.tupleTooMany;rw[fS];omega) (by rw[f0,aY,bG2,mul_comm];simpa using hs)) ⟨ho,?_⟩
  rw[f0];exact⟨.ref _,_,I.laid (t':=s.toks) (o:= .tup (replicate k.toNat xs).flatten) (λb ob q=>aM _ q) (aB _) ⟨by rw[bG2,mul_comm];exact hz,_,r.rep k.toNat,tF _ _⟩,rfl,q2 k1 _ I.fresh⟩
end
end L2
end
section
namespace L2
open PySem PySem.Spec PyProof.Rows
theorem cN8:typeLookup (.type "tuple") "__reversed__"=pure none:=by rw[xT,xE];kernel_rfl
theorem sub_tuple_dict:isSubtype (.type "tuple") (.type "dict")=pure false:=by rw[pE];kernel_rfl
theorem bD1:Manifest.owners.lookup (String.ofList ['d','e','s','r','e','v','e','r'].reverse)=some Manifest.sig_reversed:=by kernel_rfl
theorem mE:Slot "reversed" "__next__" "reversed.__next__":=
 .of (owner:="reversed") (n:="__next__") (by rw[xT,xE];kernel_rfl) af af af
  (by first|exact .inl af|exact .inr af) (by rw[pE];kernel_rfl)
theorem a25:entryFor table "reversed.__next__"=some Builtin.«reversed.__next__» :=entryFor_of_tree (by kernel_rfl)
theorem zY (a:Value):argsOk "reversed.__next__" ⟨[a],[]⟩:=by
 unfold argsOk;rw[signature?_of (id:="reversed.__next__") (n:=['_','_','t','x','e','n','_','_']) (o:=['d','e','s','r','e','v','e','r']) (by kernel_rfl) bD1];kernel_rfl
theorem aA5:Slot "reversed" "__iter__" "reversed.__iter__":=
 .of (owner:="reversed") (n:="__iter__") (by rw[xT,xE];kernel_rfl) af af af
  (by first|exact .inl af|exact .inr af) (by rw[pE];kernel_rfl)
theorem aU5 (a:Value):argsOk "reversed.__iter__" ⟨[a],[]⟩:=by
 unfold argsOk;rw[signature?_of (id:="reversed.__iter__") (n:=['_','_','r','e','t','i','_','_']) (o:=['d','e','s','r','e','v','e','r']) (by kernel_rfl) bD1];kernel_rfl
theorem b03:entryFor table "reversed.__iter__"=some Builtin.«dict_keyiterator.__iter__» :=
 entryFor_alias (id':="dict_keyiterator.__iter__") (by kernel_rfl) (by first|rfl|decide +kernel| (unfold String.splitOn;simp +decide [String.splitOnAux])) af (by kernel_rfl)
theorem b82:Slot "reversed" "__init__" "object.__init__":=
 .of (owner:="object") (n:="__init__") (by rw[xT,xE];kernel_rfl) af af af
  (by first|exact .inl af|exact .inr af) (by rw[pE];kernel_rfl)
theorem c06:TypeCalled "reversed" "reversed.__new__" "object.__init__":=
 ⟨af,af,⟨_,_,PySem.F.mro_reversed⟩,PySem.F.made_reversed,af,by rw[pE];kernel_rfl,b82⟩
theorem d20 (l:Addr)(items:Array Value)(hfit:(items.size:Int)<2^63) :
  Meets (Builtin.«reversed.__new__» ⟨[.type "reversed",.ref l],[]⟩) (λ_ R s=>s.heap.IsTuple l items/\R (.ok<|.ret<|.ref s.heap.objs.size) {s with heap:=s.heap.push {cls:= .type "reversed",data:= .fields #[.ref l,rawInt<|(items.size:Int)-1]},toks:=s.toks+1+1}):=
 .of_wp λprog w A R s h=>by
  obtain⟨hp,g,d,tk,os⟩:=s;obtain⟨ht,h⟩:=h;obtain⟨⟨c,dct,dt,sl⟩,hl,hc,n,hd⟩:=id ht
  replace hc:c= .type "tuple":=hc
  replace hd:dt= .seq items n:=hd
  subst hc hd;have f1:=PySem.F.sub_reversed_self;have f2:=cN8;have f4:=PySem.F.slot_tuple_getitem.lookup;have f5:=sub_tuple_dict;have e1:IsTup (Shared.heap ⟨hp,g,d,tk,os⟩) l items:=ht
  wp_walk using jM hl,PyProof.Rows.len_tuple e1 hfit
  exact⟨_,rfl,h⟩
def tM (h:Heap)(a l:Addr)(i:Int):Prop:= ∃o,h.get? a=some o/\o.cls= .type "reversed"/\o.data= .fields #[.ref l,rawInt i]
theorem tM.at {h h':Heap}{a l:Addr}{i:Int}(x:tM h a l i)(e: ∀o,h.get? a=some o->h'.get? a=some o):tM h' a l i:=let ⟨o,ho,r⟩:=x;⟨o,e _ ho,r⟩
section
variable {prog:Program}{w:World}{A:Around}{E:Value->Shared->Prop}{s:Shared}
theorem tM.typeIs {a l:Addr}{i:Int}(x:tM s.heap a l i):s.TypeIs (.ref a) "reversed":=let ⟨o,ho,hc,_⟩:=x;⟨o,ho,hc⟩
theorem cN9 {l:Addr}{items:Array Value}{Q:Value->Shared->Prop}(hl:s.heap.IsTuple l items)(hfit:(items.size:Int)<2^63)
  (h:Q (.ref s.heap.objs.size) {s with heap:=s.heap.push {cls:= .type "reversed",data:= .fields #[.ref l,rawInt<|(items.size:Int)-1]},toks:=s.toks+1+1}) :
  wpAny (model prog w) A (call (.type "reversed") [.ref l]) Q E s:=
 callType_new c06 ac (PySem.F.typeCall_reversed_1 _) (PySem.F.newCall_reversed_1 _) (λobj=>PySem.F.args_object_init_2 obj _) PySem.F.entry_reversed_new (d20 l items hfit) ⟨hl,⟨_,bN _ rfl,rfl⟩,h⟩
theorem b04 {it l:Addr}{i:Int}{Q:Value->Shared->Prop}(hit:tM s.heap it l i)(h:Q (.ref it) s):wpAny (model prog w) A (pyIter<|.ref it) Q E s:=by
 refine wpAny_pyIter_slot hit.typeIs aA5 (i6 aA5 hit.typeIs b03 ?_<|aU5 _)
 show wpAny _ _ (ret<|.ref it) _ _ s
 exact aG ⟨_,rfl,"reversed",_,hit.typeIs,mE.lookup,h⟩
theorem cO0 {it l:Addr}{i:Nat}{items:Array Value}{x:Value}{Q:Option Value->Shared->Prop}(hit:tM s.heap it l (i:Int))(hl:s.heap.IsTuple l items)(hx:items[i]? =some x)(hfit:(i:Int)<2^63)
  (hQ: ∀h' tk,tM h' it l ((i:Int)-1)->SameBut it s.heap h'->Q (some x) {s with heap:=h',toks:=tk}):wpAny (model prog w) A (pyNext<|.ref it) Q E s:=by
 obtain⟨o,ho,hc,hd⟩:=id hit;have hlt:i<items.size:=(Array.getElem?_eq_some_iff.mp hx).1;have hi:seqIndex? (i:Int) items.size=some i:=by
  unfold seqIndex?;simp
  lia
 have tl:s.TypeIs (.ref l) "tuple":=hl.typeIs;unfold pyNext;refine a8 (sX (kL (name:=Str.ofString "__next__") hit.typeIs mE
  (i6 mE hit.typeIs a25 ?_<|zY _)))
 unfold Builtin.«reversed.__next__»;refine a8 (jP (a:=(Value.ref it,[])) rfl ?_);try dsimp only
 refine a8 (cO ho hd (x:= .ref l) rfl ?_)
 refine a8 (cO ho hd (x:=rawInt (i:Int)) rfl ?_)
 show wpAny _ _ (if(i:Int)<0 then _ else _) _ _ s
 rw[a6 ad]
 try dsimp only
 refine a8 (wpAny_specialOf tl PySem.F.slot_tuple_getitem.lookup ?_)
 try dsimp only
 rw[a6 ae]
 refine a8 (wpAny_mkInt ?_)
 have ht:IsTup s.heap l items:=hl;refine a8 (sX<|PyProof.Rows.getItem_tuple (s:={s with toks:=s.toks+1}) ht ad hfit hi hx ?_)
 try dsimp only
 refine a8 (cO ho hd (x:=rawInt (i:Int)) rfl ?_)
 show wpAny _ _ (setField (.ref it) 1 (rawInt<|(i:Int)-1) >>= _) _ _ _
 refine a8 (sW ho hd ae ?_)
 refine aG ⟨x,rfl,aG<|hQ _ _ ?_<|sM ..⟩
 exact⟨_,oO _ ho<|aD7<|oZ hd _,(Obj.cls_mapFields ..).trans hc,by
  rw[oZ hd];simp⟩
theorem d21 {it l:Addr}{Q:Option Value->Shared->Prop}(hh:A.handled=none)(hit:tM s.heap it l (-1))
  (hQ: ∀h',ExtBut it s.heap h'->Q none {s with heap:=h'}):wpAny (model prog w) A (pyNext<|.ref it) Q E s:=by
 obtain⟨o,ho,hc,hd⟩:=id hit;unfold pyNext;refine a8 (sX (kL (name:=Str.ofString "__next__") hit.typeIs mE
  (i6 mE hit.typeIs a25 ?_<|zY _)))
 unfold Builtin.«reversed.__next__»;refine a8 (jP (a:=(Value.ref it,[])) rfl ?_);try dsimp only
 refine a8 (cO ho hd (x:= .ref l) rfl ?_)
 refine a8 (cO ho hd (x:=rawInt (-1)) rfl ?_)
 show wpAny _ _ (if(-1:Int)<0 then _ else _) _ _ s
 rw[a7 ac]
 refine a8 (nA ?_)
 refine a8 ?_
 show wpAny _ _ (setField (.ref it) 1 (rawInt<|-1) >>= λ_=>setField (.ref it) 0 .none) _ _ s
 refine a8 (sW ho hd ae ?_)
 refine sW (oO _ ho<|aD7<|oZ hd _) (oZ hd _) ae ?_
 first
 | show wpAny _ _ (newExc (.type "StopIteration") [] >>= _) _ _ _
 | (refine a8 ?_;show wpAny _ _ (newExc (.type "StopIteration") [] >>= _) _ _ _)
 refine a8 ?_
 simp only[newExc,newTuple];refine a8 (jL ?_<|by size_fits)
 refine a8 (m:=firstArgMember _ _) (jP (a:=Value.none) (by first|rfl| (simp only[firstArgMember];rfl)) ?_)
 refine jL ?_ (by size_fits)
 simp only[raiseNew];refine a8 (wpAny_handled ?_)
 first|rw[show A.in1.handled=none from hh]|rw[hh]
 refine a8 (aG<|wpAny_throw ?_)
 refine a8 (aF7 (T:="StopIteration") (b:=true) ⟨_,bN _ rfl,rfl⟩ isSubtype_stop ?_)
 refine aG (hQ _ ?_)
 exact((((sM ..).trans<|sM ..).extBut.push _).push _)
end
noncomputable def Itv (K:Frag)(l:Addr)(n:Nat):It where
 go:=λi H=>i<n/\ ∃xs,SqT K H l xs/\xs.length=n
 yld:=λi H v H'=>H'=H/\ ∀xs,SqT K H l xs->xs[n-1-i]? =some v
 stop:=λi H=>i=n
theorem cO1 {P:Program}{w:World}{K:Frag}{tg:Expr}{it l:Addr}(n:Nat)(hz:n<=sizeLine):bN4 P w K tg (Itv K l n) [it] it (λi h=>tM h it l ((n:Int)-1-(i:Int))) where
 mem:=ae
 obj:=λi h st b hb=>by
  have e:b=it:=by simpa using hb
  subst e;obtain⟨o,ho,_,hd⟩:=st;exact⟨o,ho,λv z=>by rw[hd]at z;cases z⟩
 keep:=λi h h' st k=>st.at λo e=>k it ae _ e
 item:=by
  intro X hP hw hK hc i pins s σ H E I hf st hg;subst hP hw hK;obtain⟨f0,f1,f2,f3,f4,f5⟩:=hf it ae
  obtain⟨hi,xs,hq,hl⟩:=hg;obtain⟨its,r,p,_⟩:=I.tuple hq;have hlen:=r.length;have hx:xs[n-1-i]? =some (xs[n-1-i]'ad):=aJ ad
  obtain⟨u1,hu1,ru1⟩:=r.get hx;have e1:(n:Int)-1-(i:Int)=((n-1-i:Nat):Int):=ad
  have st':=st;rw[e1]at st';have big:(sizeLine:Int)<2^63:=ac
  refine cO0 (items:=its.toArray) (x:=u1) st' p (by simpa using hu1) ad λh' tk hr m=> ?_
  have I1:Inv X pins σ H {s with heap:=h',toks:=tk}:=I.turned (λb o hb e=>m.extBut _ _ (by simpa using hb) e) f0 f1 f3 f4 f5
  have e2:((n-1-i:Nat):Int)-1=(n:Int)-1-((i+1:Nat):Int):=ad
  rw[e2]at hr;obtain⟨o,ho,hoc,hod⟩:=id hr;exact⟨_,rfl,bN5 (s:={s with heap:=h',toks:=tk}) (n:="reversed") ho hoc hod ac ⟨xs[n-1-i]'ad,H,I1,ru1,⟨rfl,λys hy=>by rw[I.tuple_inj hy hq];exact hx⟩,hr,λb hb=>(hf b hb).1⟩⟩
 done:=by
  intro X hP hw hK hc i pins s σ H E I hf st hg;subst hP hw hK;obtain⟨f0,f1,f2,f3,f4,f5⟩:=hf it ae
  have hg':i=n:=hg;have st':=st;rw[hg',show(n:Int)-1-(n:Int)= -1 by lia]at st'
  exact d21 (I.ok.hd hc) st' λh' eb=>⟨rfl,I.turned (t':=s.toks) (λb o hb e=>eb b o hb e) f0 f1 f3 f4 f5⟩
 self:=λ_ _ _ _ _ st h=>b04 st h
section
variable {X:Cx}{tg:Expr}
def iRevT (K:Frag)(ta:TA):TI:=λσ H R=>ta σ H λvs H1=> ∃l xs,vs=[.ref l]/\SqT K H1 l xs/\R (Itv K l xs.length) H1
theorem d22 {a:Expr}{ta:TA}{p pos:Pos}(hg:Gl X "reversed")(hm:X.mg "reversed"=none)(ha:PA X [a] ta)(hs:starEach [a] X.env=[(false,eval a X.env)]:=by rfl) :
  PI X tg (.Call (.Name "reversed" p) [a] [] pos) (iRevT X.K ta):=by
 intro pins s σ H R I h;refine Call_ (tG I hg hm PyProof.Rows.boot_reversed<|jE (thn (ha pos pins s σ H _ I h) λus s1 ⟨vs,H1,I1,r1,q1⟩=> ?_) hs rfl)
 obtain⟨l,xs,e,q1,q⟩:=q1;subst e;obtain⟨u,rfl,r⟩:=vals1 r1;cases r;obtain⟨its,rv,p1,hz⟩:=I1.tuple q1;have hl:=rv.length;have big:(sizeLine:Int)<2^63:=ac
 refine cN9 p1 (by rw[aY];lia) ?_
 have hi:tM (s1.heap.push {cls:= .type "reversed",data:= .fields #[.ref l,rawInt<|(its.toArray.size:Int)-1]}) s1.heap.objs.size l ((xs.length:Int)-1-((0:Nat):Int)):=⟨_,bN _ rfl,rfl,by
  rw[aY,hl];simp⟩
 refine b04 (s:={s1 with heap:=s1.heap.push {cls:= .type "reversed",data:= .fields #[.ref l,rawInt<|(its.toArray.size:Int)-1]},toks:=s1.toks+1+1}) hi ?_
 refine⟨_,[s1.heap.objs.size],_,_,H1,rfl,I1.kept (t':=s1.toks+1+1) λb o e=>aM _ e,cO1 xs.length hz,hi,λb hb=> ?_,q⟩
 have e:b=s1.heap.objs.size:=by simpa using hb
 subst e;exact I1.fpOk (aB _) (I1.hok.fresh<|aB _)
end
end L2
namespace M
open PySem PySem.Spec PyProof.Rows L2
section
variable {X:Cx}{A:AS}{H:Hp}{K:Frag}{pos:Pos}{a:Expr}
theorem cE0 {l1:Addr}{vs:List V}{l:List D}(c1:SqA K A H true l1 vs)(r1:bG K A H l vs):bO6 K A H (Itv K l1 vs.length) l.length (λi=>l.getD (l.length-1-i) .non):=by
 have k1:=r1.length;refine⟨λA' H' i P hi=>⟨aa,vs,c1.sqv P,rfl⟩,λA' H' i x H'' P hA hi y=> ?_,λA' H' P=>k1⟩
 obtain⟨x1,e1,q1⟩:=r1.at (i:=l.length-1-i) aa
 obtain⟨e,ha⟩:=y;subst e;have ea:=ha vs (c1.sqv P);rw[<-k1,e1]at ea;cases ea;exact⟨.refl _,q1.mono P⟩
def c71 (ta:UA):UI:=λρ Q=>ta ρ λds ρ1=>match ds with
 | [.tup l]=>Q l.length (λi=>l.getD (l.length-1-i) .non) ρ1
 | _=>False
theorem c72 {tg:Expr}{p:Pos}{ta:UA}(hg:Gl X "reversed")(hm:X.mg "reversed"=none)(ha:PUA X [a] ta)(hs:starEach [a] X.env=[(false,eval a X.env)]:=by rfl) :
  PUI X tg (.Call (.Name "reversed" p) [a] [] pos) (c71 ta):=
 aS5 (d22 hg hm ha hs) λσ H R ⟨C,ρ,Q0,I,h,k⟩=>⟨C,ρ,_,I,h,λds ρ1 vs H1 q f s r=>by
  split at q
  ·rename_i l
   obtain⟨v,vr,rfl,rv,rr⟩:=r.uncons;have:=rr.unnil;subst this;simp only[Rep]at rv;obtain⟨a1,us,rfl,c1,s1⟩:=rv;have c2:SqA _ _ _ true a1 us:=c1;exact⟨a1,us,rfl,c2.sqv .self,k _ _ ρ1 _ H1 q f s<|cE0 c2 s1⟩
  ·exact q.elim⟩
def c73 (d e:D)(Q:B->Prop):Prop:=match d,e with
 | .tup l,.int k=>(l≠[]/\ -(2^63)<=k/\k<2^63/\l.length*k.toNat<=sizeLine)/\Q (.pu<|.tup (replicate k.toNat l).flatten)
 | _,_=>False
theorem d23:OpU X (binaryOp .Mult) c73:=by
 intro A H d e v w Q0 Q hA r1 r2 g k;unfold c73 at g;split at g
 ·rename_i l kk
  have:=bF r2;subst this;simp only[Rep]at r1;obtain⟨a,vs,rfl,c1,rs1⟩:=r1;obtain⟨⟨h0,h1,h2,h3⟩,g⟩:=g;refine⟨_,d19,a,kk,vs,rfl,rfl,c1.imp bO id,λz=>h0 ?_,h1,h2,by rw[<-rs1.length];exact h3,λz=> ?_,λz p n=>k _ _ _ g (eW n _) (iK hA n<|rs1.rep _)⟩
  ·have:=rs1.length;rw[z]at this;exact sH.mp this
  ·subst z;refine k _ _ H g (.refl _) ?_;show Rep X.K A H (.tup _) (.ref a);simp only[Rep];exact⟨a,vs,rfl,c1,by simpa using rs1⟩
 ·exact g.elim
end
end M
end
section
namespace M
open PySem PySem.Spec PyProof.Rows L2
section
variable {X:Cx}
theorem b05 {K:Frag}{A:AS}{H:Hp}: ∀r:List Int,bG K A H (r.map D.int) (r.map V.int)
 | []=> .nil
 | a::r=> .cons (by simp only[Rep]) (b05 r)
theorem d24 {x:Str}{a:Addr}{r:List Int}{p:Pos}(hg:Gl X x)(hm:X.mg x=some (.ref a))(hk:KT X.K a (r.map V.int))(hd:(x==("__debug__":Str))=false:=by decide):PU X (.Name x p) (uC<|.tup<|r.map .int):=
 bG3 (c56 (v:= .ref a) hg hm rfl hd) λA H=>by
  simp only[Rep];exact⟨a,r.map V.int,rfl,.inr hk,b05 r⟩
theorem kt_of {K:Frag}{a:Addr}{od:Option Addr}{its:Array Value}{n:Nat}{sl:Array (Option Value)}{vs:List V}(hl:K.lookup a=some ⟨.type "tuple",od,.seq its n,sl⟩)(hz:its.size<=sizeLine)(hv:Vals vs its.toList):KT K a vs:=
 ⟨_,its,n,hl,rfl,rfl,hz,hv⟩
end
end M
end
section
namespace L2
open PySem PySem.Spec PyProof.Rows
section
variable {X:Cx}
theorem c07 (hc:X.calm=true):qH X (.builtin "any") (λxs H Q=> ∃(p:Addr) (bs:List Bool),xs=[.ref p]/\SqL X.K H p (bs.map V.bl)/\Q (.bl<|bs.any id) H):=by
 intro pins s σ H xs us Q I r h;obtain⟨p,bs,rfl,hq,q⟩:=h;obtain⟨u,rfl,rx⟩:=vals1 r;cases rx;obtain⟨its,rv,pl,hz⟩:=I.list hq;have ba:=c69 rv;refine call_any_walk (sO pl.isList ?_);have hne:p≠s.heap.objs.size:=by
  obtain⟨o,n,e,_⟩:=pl;exact bE (aN e)
 refine⟨s.heap.objs.size,_,_,_,_,_,λi=>(bs[i]?).getD false,rfl,Walks.list (A:=X.A.in1) (I.ok.hd hc) s.heap.objs.size p (λz=>hne z) its.toArray,⟨⟨_,bN _ rfl,rfl,rfl⟩,pl.isList.push _⟩,?_,λh' tk hk=> ?_⟩
 ·intro i v s' Q' E' hP hQ;obtain⟨b,hb,rfl⟩:=ba.get i v (by simpa using hP)
  refine jK ?_
  dsimp only at hQ;rw[hb]at hQ;exact hQ
 ·have e:=LSm.range_any bs;have hl:=ba.length;have e2:its.toArray.size=bs.length:=by rw[aY,hl]
  rw[e2,e];exact⟨.bl<|bs.any id,H,I.kept λb o e=>hk b o (by simpa using bE (aN e)) (aM _ e),rfl,q⟩
end
end L2
namespace M
open PySem PySem.Spec PyProof.Rows L2
section
variable {X:Cx}
noncomputable def d25:List D->(B->Prop)->Prop:=g1 λd Q=>match d with
 | .lst l=>(match v9 l with
  | some bs=>Q (.pu<|.bl<|bs.any id)
  | none=>False)
 | _=>False
theorem cO2 (hc:X.calm=true):wD X (.builtin "any") d25:=by
 intro A H ds vs Q0 Q hA r g k;obtain⟨d,v,rfl,rfl,rv,g⟩:=aG4 g r;cases d with
 | lst l=>
  dsimp only at g;cases e:v9 l with
  | none=>rw[e]at g;exact g.elim
  | some bs=>
   rw[e]at g;simp only[Rep]at rv;obtain⟨a,vs,rfl,n,c,rs⟩:=rv;rw[aG7 e rs]at c;exact⟨_,c07 hc,a,bs,rfl,SqL.of c,k _ _ H g (.refl _) jT⟩
 | _=>exact(show False from g).elim
theorem cO3:bootBuiltins "any"=some (.builtin "any"):=af
end
end M
end
section
namespace L2
open PySem PySem.Spec PyProof.Rows
end L2
namespace M
open PySem PySem.Spec PyProof.Rows L2
section
variable {X:Cx}{a:Expr}{pos:Pos}{ta:UE}
noncomputable def gMaxL:List D->(B->Prop)->Prop:=g1 λd Q=>match d with
 | .lst l=>(match aK1 l with
  | some ns=>0<ns.length/\ ∀m:Int,m∈ns->(∀a∈ns,a<=m)->Q (.pu<|.int m)
  | none=>False)
 | _=>False
noncomputable def D.isN:D->Bool
 | .non=>true
 | _=>false
theorem c74 {K:Frag}{A:AS}{H:Hp}: ∀{d:D} {v:V},Rep K A H d v->decide (v= .non)=d.isN
 | .non,v,h=>by simp only[Rep]at h;subst h;rfl
 | .bl _,v,h=>by simp only[Rep]at h;subst h;rfl
 | .int _,v,h=>by simp only[Rep]at h;subst h;rfl
 | .str _,v,h=>by simp only[Rep]at h;subst h;rfl
 | .ty _,v,h=>by simp only[Rep]at h;subst h;rfl
 | .tup _,v,h=>by simp only[Rep]at h;obtain⟨a,vs,rfl,_⟩:=h;rfl
 | .lst _,v,h=>by simp only[Rep]at h;obtain⟨a,vs,rfl,_⟩:=h;rfl
 | .rol _,v,h=>by simp only[Rep]at h;obtain⟨a,vs,rfl,_⟩:=h;rfl
 | .obj _ _ _,v,h=>by simp only[Rep]at h;obtain⟨a,dx,vs,rfl,_⟩:=h;rfl
 | .adr _,v,h=>by simp only[Rep]at h;subst h;rfl
 | .xob _ _ _ _,v,h=>by simp only[Rep]at h;obtain⟨vs,rfl,_⟩:=h;rfl
def b83 (neg:Bool)(t:UE):UE:=λρ Q=>t ρ λb ρ1=>Q (.pu<|.bl<|neg ^^ b.d.isN) ρ1
theorem lIsN (σ:L2.St)(H:Hp)(Q:VK)(h:lE X.K (b83 false ta) σ H Q):tIsN (lE X.K ta) σ H Q:=by
 obtain⟨C,ρ,Q0,I,h,k⟩:=h;refine⟨C,ρ,_,I,h,λb ρ' v H' q f s r=> ?_⟩
 have e:=c74 (r.rep λa z=>I.avF f z)
 refine k _ ρ' _ H' q f s ?_
 show Rep _ _ _ _ _
 simp only[Rep,mY];rw[e]
theorem lNotN (σ:L2.St)(H:Hp)(Q:VK)(h:lE X.K (b83 true ta) σ H Q):d87 (lE X.K ta) σ H Q:=by
 obtain⟨C,ρ,Q0,I,h,k⟩:=h;refine⟨C,ρ,_,I,h,λb ρ' v H' q f s r=> ?_⟩
 have e:=c74 (r.rep λa z=>I.avF f z)
 refine k _ ρ' _ H' q f s ?_
 show Rep _ _ _ _ _
 simp only[Rep,kS];rw[e]
theorem bG9 {j pos'}(ha:PU X a ta):PUT X (.Compare a [.Is] [.Constant .none j pos'] pos) (cQ<|b83 false ta):=bB9 (cH9<|pc_isN ha) λσ H Q h=>lIsN σ H _ (cZ6 σ H Q h)
theorem bP5 {j pos'}(ha:PU X a ta):PUT X (.Compare a [.IsNot] [.Constant .none j pos'] pos) (cQ<|b83 true ta):=bB9 (cH9<|cX4 ha) λσ H Q h=>lNotN σ H _ (cZ6 σ H Q h)
end
end M
end
section
namespace M
open PySem PySem.Spec PyProof.Rows L2
mutual
noncomputable def D.nl:D->Bool
 | .tup l=>D.nls l
 | .lst _=>false
 | .rol _=>false
 | .obj _ _ _=>false
 | .adr _=>false
 | .xob _ _ _ _=>false
 | .non=>true
 | .bl _=>true
 | .int _=>true
 | .str _=>true
 | .ty _=>true
noncomputable def D.nls:List D->Bool
 | []=>true
 | d::l=>d.nl&&D.nls l
end
section
variable {X:Cx}{st:Stmt}{sts:List Stmt}{e o:Expr}{pos:Pos}{t u:US}{te to:UE}{K:Frag}{C:C0}{ρ ρ':Ev}{σ:L2.St}{H H':Hp}
def bP6 (t:UT):UT:=λρ Q=>t ρ λb _=>Q b ρ
theorem bH0 {t:UT}(h:PUT X e t):PUT X e (bP6 t):=bB9 h λσ H Q ⟨C,ρ,Q0,I,h,k⟩=>⟨C,ρ,_,I,h,λb ρ' H' q f s=>k b ρ H' q (.refl _) s⟩
def uLookE (t:UE):UE:=λρ Q=>t ρ λb _=>match b with
 | .pu d=>d.nl=true/\Q (.pu d) ρ
 | _=>False
def CZ:C0:=⟨λ_=>none,λ_=>False⟩
def lZ (K:Frag)(t:US):TS:=λD σ H=> ∃ρ D0,EOk K CZ ρ σ H/\t D0 ρ/\DOk K CZ D0 D
def PUZ (X:Cx)(st:Stmt)(t:US):Prop:=PS X st (lZ X.K t)
def c08 (X:Cx)(sts:List Stmt)(t:US):Prop:=PSs X sts (lZ X.K t)
theorem b06 (h:PUS X st t):PUZ X st t:=nS h λD σ H ⟨ρ,D0,I,h,k⟩=>⟨CZ,ρ,D0,I,h,k⟩
theorem yL (h1:PUZ X st t)(h2:c08 X sts u):c08 X (st::sts) (aV t u):=
 aG2 (qG h1 h2) λD σ H ⟨ρ,D0,I,h,k⟩=>⟨ρ,{D0 with nx:=u D0},I,h,⟨λρ' σ' H' q I'=>⟨ρ',D0,I',q,k⟩,k.rt,k.bk,k.ct⟩⟩
theorem uz_one (h1:PUZ X st t):c08 X [st] t:=a80 h1
noncomputable def keepO:Option B->Option B
 | some (.pu d)=>if d.nl=true then some (.pu d)else none
 | some (.ow l)=>if D.nls l=true then some (.ow l)else none
 | _=>none
def uAppZ (to te:UE):US:=λD ρ=>to ρ λb ρ1=>match b with
 | .pu (.lst l)=>te ρ1 λ_ ρ2=>l.length<sizeLine/\D.nx (ρ2.map keepO)
 | _=>False
end
def spZ (K:Frag):Sp:=λvs H Q _=> ∃(a:Addr) (ns:List Int),vs=[.ref a]/\ns.length<=63/\SqL K H a (ns.map V.int)/\ ∀H',Q (.bl true) H'
theorem cO4 {P:Program}{w:World}{K:Frag}{mg:Str->Option Value}{base:Heap}{x qual:Str}{st:Stmt}{f:Addr}{fd:FuncData}{N:List Str}{z:Str}{k:Nat}(F:Fun K x qual st f fd)(S:aZ N [z] (aD st))
  (body: ∀(cdv:Value) (A:Around) (outer:List Env) (s:Shared) (H:Hp) (E:XK),gM k (A.deeper<|envOfC qual (aD st) s.heap.objs.size f cdv)->
   ∃t,c08 (qV CX0 P w K mg base N qual (aD st) f cdv A outer s H E).nox (dJ st) t/\ ∀ds Q,d94 ds Q->t {nx:=λ_=>Q (.pu .non),rt:=Q} (init N ds)) :
  qU P w K mg base CX0 (k+1) f fd [z] (spZ K):=by
 refine F.ok S (λvs H Q E h=> ?_) (λcdv A outer s H vs Q E hr h=> ?_)
 ·obtain⟨a,ns,rfl,_⟩:=h;rfl
 ·obtain⟨a,ns,rfl,hl,hS,q⟩:=h;obtain⟨t,ht,hq⟩:=body cdv A outer s H E hr;have r:bG K (λ_=>False) H [.rol<|ns.map .int] [.ref a]:= .cons (by
   simp only[Rep];exact⟨a,_,rfl,hS.imp (λz=>⟨λz=>z,z⟩) id,bC2 ns⟩) .nil
  have I:=aW6 (N:=N) (A:=λ_=>False) (λ_ z=>z.elim) r
  have I':EOk K CZ (init N [.rol<|ns.map .int]) (L2.start N [.ref a]) H:=by
   refine⟨I.len,?_,?_,I.inj,?_,λb o z=>(by cases z),λb z=>z.elim⟩
   ·intro i d g;obtain⟨v,h1,h2⟩:=I.pu i d g;exact⟨v,h1,h2.mono<|.sub (.refl _) λa z=>z⟩
   ·intro i l g;obtain⟨d,z,_⟩:=tK g;cases z
   ·intro i l g;obtain⟨d,z,_⟩:=tK g;cases z
  refine⟨_,ht,_,_,I',hq _ (λb=>b= .pu (.bl true)) ⟨ns,rfl,hl,rfl⟩,⟨λρ σ H' z _=>(by cases z),λb v H' z s r=> ?_,λ_ _ _ z=>z.elim,λ_ _ _ z=>z.elim⟩⟩
  have z':b= .pu (.bl true):=z;subst z';have r':Rep K CZ.A0 H' (.bl true) v:=r;rw[yI r'];exact q H'
theorem walkZ {l:PySem.W.OpenLaw}{k:Nat}{x:Str}{q:Program}{loose:List Str}{XP:(Str->Option Value)->Heap->Prop}{YP:World->Heap->Prop}{d:DefRec}{K:Params->Frag}(hn:l.most=some 63)(hdf:d.params.defaults=[])(hr:gM k callerA)
  (hY: ∀(w:World) (h:Heap),YP w h->(K w.params).In h)
  (F: ∀(w:World) (mg:Str->Option Value) (fa:Addr) (h:Heap),(K w.params).In h->h.Ns mainGlobals mg->mg d.name=some (.ref fa)->
   ∃fd:FuncData,(∀(s:Shared) (u:Value),BindsTo s fd ⟨[u],[]⟩ [(x,u)])/\ ∀base:Heap,(K w.params).In base->base.Ns mainGlobals mg->qU l.prog w (K w.params) mg base CX0 k fa fd [x] (spZ<|K w.params)) :
  PySem.W.WalkO q loose XP YP l.row.toRowW d [] (λf vs=>PySem.call f vs):=
 L2.walk_of (n:=63) (k:=k) (x:=x) (CX:=λ_=>CX0) (sp:=λw=>spZ (K w.params)) hn ac hdf hr hY F (λ_ _ a ns hl _ hS=>⟨a,ns,rfl,hl,hS,λ_=>rfl⟩) λ_ _ _ _ _ z=>z
noncomputable def ltL:List Int->List Int->Bool
 | [],[]=>false
 | [],_::_=>true
 | _::_,[]=>false
 | a::x,b::y=>if a=b then ltL x y else decide (a<b)
section
variable {prog:Program}{w:World}{A:Around}{E:Value->Shared->Prop}{s:Shared}
theorem cO5 {a:Addr}{u v:Value}{n:Nat}{lt:Bool}{P:PySem.Fin->Shared->Prop}(ho:s.heap.get? a=some (seqObj "list" [u,v].toArray n))
  (hy: ∀h':Heap,(∀b o,b≠a->s.heap.get? b=some o->h'.get? b=some o)-> ∃κ:SortKind,
   (∀Q:SortKind->Shared->Prop,Q κ {s with heap:=h'}->wpAny (model prog w) A (keyKind' [u,v].toArray) Q (λ_ _=>False) {s with heap:=h'})/\
   (∀Q:Bool->Shared->Prop,Q lt {s with heap:=h'}->wpAny (model prog w) A (keyLt' κ v u) Q (λ_ _=>False) {s with heap:=h'}))
  (fi:P (.done<|.ret .none) {s with heap:=sortedHeap s.heap a [u,v] (if lt=true then [v,u].toArray else [u,v].toArray)}) :
  wpAny (model prog w) A (Builtin.«list.sort» ⟨[.ref a],[]⟩) P E s:=by
 rw[list_sort_plain];have la:a<s.heap.objs.size:=aN ho;refine a8 (listItems_at ho rfl ?_);refine a8 (listUpdate_at ho rfl ?_ (show 2<=sizeLine by decide) (d6 _))
 obtain⟨c1,h1⟩: ∃c1,(s.heap.update a<|Obj.mapSeq λ_=> #[]).get? a=some (seqObj "list" #[] c1):=⟨_,get?_update_seq ho λ_=> #[]⟩
 refine a8 (seqEpoch_at h1 rfl ?_)
 refine a8 (wpAny_newTuple ?_<|show 2<=sizeLine by decide)
 refine a8 (wpAny_newList ?_<|d6 _)
 refine iV ?_
 have h6:(((s.heap.update a<|Obj.mapSeq λ_=> #[]).push<|seqObj "tuple" [u,v].toArray 0).push<|seqObj "list" #[] 0).get? a=some (seqObj "list" #[] c1):=by
  rw[pB _ _ _ (by rw[size_push',sT];exact bE (kO la))]
  rw[pB _ _ _ (by rw[sT];exact bE la)]
  exact h1
 have kp: ∀b o,b≠a->s.heap.get? b=some o->(((s.heap.update a<|Obj.mapSeq λ_=> #[]).push<|seqObj "tuple" [u,v].toArray 0).push<|seqObj "list" #[] 0).get? b=some o:=λb o ne q=>by
  have lb:b<s.heap.objs.size:=aN q;rw[pB _ _ _ (by rw[size_push',sT];exact bE (kO lb))]
  rw[pB _ _ _ (by rw[sT];exact bE lb),xG _ _ _ _ ne]
  exact q
 obtain⟨κ,y1,y2⟩:=hy _ kp;show wpAny (model prog w) A _ P E {s with heap:=((s.heap.update a<|Obj.mapSeq λ_=> #[]).push<|seqObj "tuple" [u,v].toArray 0).push (seqObj "list" #[] 0)}
 dsimp only;have n2: ¬[u,v].toArray.size<2:=show ¬2<2 by decide
 rw[a6 n2,a6 n2];refine a8 (bD (y1 (λk s'=>k=κ/\s'={s with heap:=((s.heap.update a<|Obj.mapSeq λ_=> #[]).push<|seqObj "tuple" [u,v].toArray 0).push (seqObj "list" #[] 0)}) ⟨rfl,rfl⟩) ?_ λ_ _ z=>z.elim)
 rintro k s' ⟨rfl,rfl⟩;refine a8 (bD (PySem.W.kat_run (ks:=[u,v]) (vs:=[u,v]) (Q:=λst' s'=>s'={s with heap:=((s.heap.update a<|Obj.mapSeq λ_=> #[]).push<|seqObj "tuple" [u,v].toArray 0).push (seqObj "list" #[] 0)}/\failedOf st'=none/\(arrOf st').map (·.2)=(if lt=true then [v,u].toArray else [u,v].toArray))
  (G:=λp s'=>s'={s with heap:=((s.heap.update a<|Obj.mapSeq λ_=> #[]).push<|seqObj "tuple" [u,v].toArray 0).push (seqObj "list" #[] 0)}/\p=(if lt=true then #[1,0]else #[0,1]))
  rfl (show 2<=2 by decide) (show 2<64 by decide) (λp st' s' _ e2 e3 ⟨e4,e5⟩=>⟨e4,e3,?_⟩) ?_) ?_ λ_ _ z=>z)
 ·rw[PySem.W.kat_snds rfl e2,e5];cases lt<;>rfl
 ·show wpAny (model prog w) A (keyLt' k v u) _ (λ_ _=>False) _
  refine y2 _ ?_
  cases lt
  ·exact⟨rfl,rfl⟩
  ·refine⟨rfl,?_⟩
   rw[a7 rfl];dsimp only[List.length_cons,List.length_nil]
   decide +kernel
 ·rintro⟨⟨⟩,st'⟩ s' ⟨rfl,e3,e4⟩;dsimp only;rw[e4];refine a8 (seqEpoch_at h6 rfl ?_);refine a8 (listUpdate_at h6 rfl ?_ (d6 _) (by cases lt<;>exact(show 2<=sizeLine+1 by decide)))
  rw[e3];simp only[bne_self_eq_false,aE9,dQ];exact aG fi
theorem c09 {l:Addr}{u v:Value}{lt:Bool}{Q:Value->Shared->Prop}(hl:s.heap.IsList l [u,v].toArray)
  (hy: ∀(h':Heap) (A:Around),(∀b o,s.heap.get? b=some o->h'.get? b=some o)-> ∃κ:SortKind,
   (∀Q:SortKind->Shared->Prop,Q κ {s with heap:=h'}->wpAny (model prog w) A (keyKind' [u,v].toArray) Q (λ_ _=>False) {s with heap:=h'})/\
   (∀Q:Bool->Shared->Prop,Q lt {s with heap:=h'}->wpAny (model prog w) A (keyLt' κ v u) Q (λ_ _=>False) {s with heap:=h'}))
  (fi:Q (.ref<|s.heap.objs.size+1) {s with heap:=sortedAll s.heap [u,v] (if lt=true then [v,u].toArray else [u,v].toArray)}) :
  wpAny (model prog w) A (call (.builtin "sorted") [.ref l]) Q E s:=by
 refine Calls.call_function_entry kind_sorted plain_sorted entry_sorted (args_sorted1 _) ?_
 unfold Builtin.«sorted»;refine a8 (m:=checkCount "sorted" 1 1 _) (aG ?_);refine a8 (collect_list hl ?_<|show 2<=sizeLine by decide)
 refine a8 (wpAny_newList ?_<|show 2<=sizeLine by decide)
 have hz:((s.heap.push<|seqObj "list" #[] 0).update s.heap.objs.size (Obj.mapSeq (· ++[u,v].toArray))).objs.size=s.heap.objs.size+1:=by rw[sT,size_push']
 have hL:(((s.heap.push<|seqObj "list" #[] 0).update s.heap.objs.size (Obj.mapSeq (· ++[u,v].toArray))).push<|seqObj "list" [u,v].toArray 0).get? (s.heap.objs.size+1)=some (seqObj "list" [u,v].toArray 0):=by
  rw[<-hz];exact bN _ rfl
 have kp: ∀b o,s.heap.get? b=some o->(((s.heap.push<|seqObj "list" #[] 0).update s.heap.objs.size (Obj.mapSeq (· ++[u,v].toArray))).push<|seqObj "list" [u,v].toArray 0).get? b=some o:=λb o q=>by
  have lb:b<s.heap.objs.size:=aN q;rw[pB _ _ _ (by rw[hz];exact bE (kO lb))]
  rw[xG _ _ _ _<|bE lb,pB _ _ _<|bE lb];exact q
 show wpAny _ _ _ _ _ {s with heap:=((s.heap.push<|seqObj "list" #[] 0).update s.heap.objs.size (Obj.mapSeq (· ++[u,v].toArray))).push (seqObj "list" [u,v].toArray 0)}
 rw[hz];refine a8 (iV<|i6 slot_list_sort ⟨_,hL,rfl⟩ entry_list_sort (cO5 (lt:=lt) hL (λh' k=> ?_) ⟨_,rfl,?_⟩)<|args_list_sort _)
 ·exact hy h' _ λb o q=>k b o (bE<|kO<|aN q) (kp b o q)
 ·exact aG ⟨_,rfl,fi⟩
theorem bP7 {Q:Bool->Shared->Prop}{fin:Bool}: ∀(us ws:List Int) (x y:List Value) (i:Nat),Vals (us.map V.int) x->Vals (ws.map V.int) y->fin=decide (us.length<ws.length)->Q (ltL us ws) s->PySem.W.KatLex prog w A true fin Q (x.zip y) i s
 | [],[],x,y,i,hx,hy,hf,q=>by
  cases hx;cases hy;rw[hf];exact q
 | [],b::ws,x,y,i,hx,hy,hf,q=>by
  cases hx;rw[hf];exact q
 | a::us,[],x,y,i,hx,hy,hf,q=>by
  cases hx;cases hy;rw[hf];exact q
 | a::us,b::ws,x,y,i,hx,hy,hf,q=>by
  rw[bW]at hx hy;cases hx with
  | cons r1 hx=>
   cases hy with
   | cons r2 hy=>
    obtain⟨t1,rfl⟩:=r1;obtain⟨t2,rfl⟩:=r2;rw[xJ];refine PySem.W.kat_cons (xN ?_)
    by_cases c:a=b
    ·subst c;rw[sU];refine PySem.W.kat_yes (bP7 us ws _ _ (i+1) hx hy (by rw[hf];simp) ?_)
     unfold ltL at q;rw[a7 rfl]at q;exact q
    ·rw[show(a==b)=false by simpa using c]
     refine PySem.W.kat_no ?_
     unfold ltL at q;rw[a6 c]at q;cases e:(true&&i==0)
     ·exact PySem.W.kat_one _ _ (lt_int q)
     ·exact oneLt_int q
end
section
variable {X:Cx}
theorem c12:qH X (.builtin "sorted") (λxs H Q=> ∃(p a1 a2:Addr) (i j:Int) (us ws:List Int),xs=[.ref p]/\SqL X.K H p [.ref a1,.ref a2]/\SqT X.K H a1 ((i::us).map V.int)/\SqT X.K H a2 ((j::ws).map V.int)/\
  ∀l,H l=none->Q (.ref l) (upd H l<|.lst<|if ltL (j::ws) (i::us)=true then [.ref a2,.ref a1]else [.ref a1,.ref a2])):=by
 intro pins s σ H xs us' Q I r h;obtain⟨p,a1,a2,i,j,us,ws,rfl,hq,t1,t2,q⟩:=h;obtain⟨u,rfl,rx⟩:=vals1 r;cases rx;obtain⟨its,rv,pl,hz⟩:=I.list hq;obtain⟨x1,r1,k1,z1⟩:=I.tuple t1;obtain⟨x2,r2,k2,z2⟩:=I.tuple t2;cases rv with
 | cons g1 rv=>
 cases rv with
 | cons g2 rv=>
 cases rv;cases g1;cases g2;refine c09 (lt:=ltL (j::ws) (i::us)) pl.isList (λh' A kp=> ?_) ?_
 ·obtain⟨o1,ho1,hc1,n1,hd1⟩:=k1;obtain⟨o2,ho2,hc2,n2,hd2⟩:=k2;rw[bW]at r1 r2;cases r1 with
  | cons f1 r1=>
  cases r2 with
  | cons f2 r2=>
  have v1:Vals ((i::us).map V.int) _:= .cons f1 r1;have v2:Vals ((j::ws).map V.int) _:= .cons f2 r2;obtain⟨t1,rfl⟩:=f1;obtain⟨t2,rfl⟩:=f2;refine⟨tuples'<|Value.type "int" != Value.type "tuple",λQ' q'=> ?_,λQ' q'=> ?_⟩
  ·refine PySem.W.kat_kind (fs:=[.int i t1,.int j t2]) (T:= .type "int") (.cons (kp _ _ ho1) hc1 hd1 rfl (.cons (kp _ _ ho2) hc2 hd2 rfl .nil)) (cY _) (λv hv=> ?_) ac q'
   rcases aS.mp hv with rfl|hv
   ·exact .now
   ·rw[iR.mp hv];exact .now
  ·have e:(Value.type "int" != Value.type "tuple")=true:=ac
   rw[e];refine PySem.W.kat_lt (kp _ _ ho2) hd2 (kp _ _ ho1) hd1 (bP7 _ _ _ _ 0 (by simpa using v2) (by simpa using v1) ?_ q')
   have l1:=v1.length;have l2:=v2.length;simp only[aH]at l1 l2;simp only[aY];rw[<-l1,<-l2]
 ·refine⟨.ref<|s.heap.objs.size+1,_,?_,rfl,q (s.heap.objs.size+1)<|I.hok.fresh<|tD _⟩
  obtain⟨c,hc⟩:=sortedAll_at s.heap [Value.ref a1,Value.ref a2] (if ltL (j::ws) (i::us)=true then [Value.ref a2,Value.ref a1].toArray else [Value.ref a1,Value.ref a2].toArray);refine I.laid (t':=s.toks) (λb o e=>sortedAll_old e) (tD _) ?_
  by_cases e:ltL (j::ws) (i::us)=true
  ·rw[a7 e]at hc⊢;exact⟨show 2<=sizeLine by decide,[.ref a2,.ref a1],c,.cons rfl (.cons rfl .nil),by rw[a7 e];exact hc⟩
  ·rw[a6 e]at hc⊢;exact⟨show 2<=sizeLine by decide,[.ref a1,.ref a2],c,.cons rfl (.cons rfl .nil),by rw[a6 e];exact hc⟩
noncomputable def c13:List D->(B->Prop)->Prop:=g1 λd Q=> ∃(i j:Int) (us ws:List Int),d= .lst [.tup<|(i::us).map D.int,.tup<|(j::ws).map D.int]/\
 Q (.ow<|if ltL (j::ws) (i::us)=true then [.tup<|(j::ws).map D.int,.tup<|(i::us).map D.int]else [.tup<|(i::us).map D.int,.tup<|(j::ws).map D.int])
theorem cO6:wD X (.builtin "sorted") c13:=by
 intro A H ds vs Q0 Q hA r g k;obtain⟨d,v,rfl,rfl,rv,i,j,us,ws,rfl,g'⟩:=aG4 g r;simp only[Rep]at rv;obtain⟨p,xs,rfl,np,hp,rl⟩:=rv;obtain⟨y1,yr,rfl,s1,rl⟩:=rl.uncons;obtain⟨y2,yr,rfl,s2,rl⟩:=rl.uncons;have:=rl.unnil;subst this;have s1':=s1;have s2':=s2;simp only[Rep]at s1 s2;obtain⟨a1,w1,rfl,c1,q1⟩:=s1;obtain⟨a2,w2,rfl,c2,q2⟩:=s2;have e1:=bG.unints q1;have e2:=bG.unints q2;subst e1 e2
 refine⟨_,c12,p,a1,a2,i,j,us,ws,rfl,.inl<|.inl hp,c1.imp bO id,c2.imp bO id,λl hl=>k _ _ _ g' (eW hl _) ?_⟩
 cases ltL (j::ws) (i::us)
 ·exact gX (.refl _) hl (.cons s1'<|.cons s2' .nil)
 ·exact gX (.refl _) hl (.cons s2'<|.cons s1' .nil)
noncomputable def leL (x y:List Int):Bool:= !ltL y x
end
section
variable {prog:Program}{w:World}{A:Around}{E:Value->Shared->Prop}{s:Shared}
theorem bP8 (a b:Int)(x y:List Int):leL (a::x) (b::y)=if a=b then leL x y else decide (a<=b):=by
 unfold leL
 conv=>lhs;unfold ltL
 by_cases c:a=b
 ·rw[a7 c,a7 c.symm]
 ·rw[a6 c,a6 λz=>c z.symm]
  by_cases d:a<=b
  ·rw[dP d,cL ad];rfl
  ·rw[cL d,dP ad];rfl
end
section
variable {X:Cx}
theorem bD2: ∀r:List Int,pdL (r.map D.int)=some (r.map PyData.int)
 | []=>by simp[pdL]
 | a::r=>by simp[pdL,pd,bD2 r]
theorem aW9 (r:List Int):pd (.tup<|r.map D.int)=some (.tuple<|r.map .int):=by simp[pd,bD2]
theorem bD3: ∀r:List Int,PyData.depthAll (r.map PyData.int)=0
 | []=>by simp[PyData.depthAll]
 | a::r=>by simp[PyData.depthAll,PyData.depth,bD3 r]
theorem cO7 (r:List Int):(PyData.tuple<|r.map .int).depth<=30:=by simp[PyData.depth,bD3]
theorem bP9: ∀r:List Int,leL r r=true
 | []=>rfl
 | a::r=>by rw[bP8,a7 rfl];exact bP9 r
end
end M
end
section
namespace L2
open PySem PySem.Spec PyProof.Rows
end L2
namespace M
open PySem PySem.Spec PyProof.Rows L2
end M
end
section
namespace L2
open PySem PySem.Spec PyProof.Rows
end L2
namespace M
open PySem PySem.Spec PyProof.Rows L2
end M
end
section
namespace L2
open PySem PySem.Spec PyProof.Rows
end L2
namespace M
open PySem PySem.Spec PyProof.Rows L2
section
variable {X:Cx}{K:Frag}{A:AS}{H:Hp}{e e3:Expr}{t3:UE}{pos p2:Pos}
def uRevL (t:UV)(t3:UE):UE:=λρ Q=>t ρ λd ρ1=>t3 ρ1 λb ρ2=>b.d= .int (-1)/\match d with
 | .lst l=>Q (.ow l.reverse) ρ2
 | _=>False
end
end M
end
section
namespace M
open PySem PySem.Spec PyProof.Rows L2
section
variable {X:Cx}{e:Expr}{es:List Expr}{pos:Pos}{te:UE}
theorem ilB {i:Nat}(h:Nat.ble (i+1) X.N.length=true): ∀pins σ H s,Inv X pins σ H s->i<σ.length:=il rfl (Nat.le_of_ble_eq_true h)
theorem aR (i:Nat){x:Str}{pos:Pos}(h:PE X (.Name x pos) (a08 i):=by exact pv _):PU X (.Name x pos) (aC i):=gE i h
theorem bM (i:Nat){x:Str}{pos:Pos}(h:PE X (.Name x pos) (a08 i):=by exact pv _):PUV X (.Name x pos) (aO i):=yF i h
theorem a97 {x:Str}{pos':Pos}(i:Nat)(hN:X.N.Nodup)(he:PU X e te)(hi:X.N[i]? =some x:=by rfl)(hx:Loc X.env.scope x:=by walk_at "z")(hs:swapsWith e (some<|.Name x pos') pos.line X.env=pure false:=by rfl)(hf:X.fn x=true\/X.env.scope.names.lookup x=some .local:=by walk_at "z")
  (hl: ∀pins σ H s,Inv X pins σ H s->i<σ.length:=by exact ilB rfl):PUS X (.Assign [.Name x pos'] e pos) (cE i te):=a16 i hN hi hx he hs hf hl
theorem us_g {x:Str}{pos':Pos}{op:Operator}{g:D->D->(B->Prop)->Prop}(i:Nat)(hN:X.N.Nodup)(he:PU X e te)(ho:IpU X op g)(hi:X.N[i]? =some x:=by rfl)(hx:Loc X.env.scope x:=by walk_at "z")(hf:X.fn x=true\/X.env.scope.names.lookup x=some .local:=by walk_at "z")
  (hl: ∀pins σ H s,Inv X pins σ H s->i<σ.length:=by exact ilB rfl):PUS X (.AugAssign (.Name x pos') op e pos) (bO5 i g te):=cL1 i hN hi hx he ho hf hl
theorem dG {a b:Expr}{ti:UE}{t:UV}(ha:PUV X a t)(hb:PU X b ti)(hs:bF6 b:=by exact λ_ _=>rfl):PU X (.Subscript a b pos) (uIx t ti):=aZ8 ha hb hs
theorem fE {k k':Nat}{ps:List Str}{φ:Φ}{x:Str}{p:Pos}{t:UA}(F:Fn X.prog X.w X.K X.mg X.base x ps k φ)(hr:gM k' X.A)(ha:PUA X (e::es) t)(hk:k<=k':=by decide)(hg:Gl X x:=by rfl)(hdb:(x==("__debug__":Str))=false:=by decide)
  (he:starEach (e::es) X.env=(false,eval e X.env)::starEach es X.env:=by rfl) (hpl:(backTo pos<|starEach es X.env).any (·.1)=false:=by rfl):PU X (.Call (.Name x p) (e::es) [] pos) (aP φ t):=aK0 F hr hk hg ha hdb he hpl
end
section
variable {X:Cx}{es:List Expr}{t:UA}
theorem b7 {i:Int}{j}{p:Pos}(h:PUA X es t):PUA X (.Constant (.int i) j p::es) (a9 (uC<|.int i) t):=aE aF h rfl
theorem lN {fs:List Expr}{j}{p:Pos}{ta:UE}(a:PU X (.Tuple fs j p) ta)(h:PUA X es t):PUA X (.Tuple fs j p::es) (a9 ta t):=aE a h rfl
theorem tN {o:UnaryOp}{e:Expr}{p:Pos}{ta:UE}(a:PU X (.UnaryOp o e p) ta)(h:PUA X es t):PUA X (.UnaryOp o e p::es) (a9 ta t):=aE a h rfl
theorem aQ (i:Nat){x:Str}{p:Pos}(h:PUA X es t)(a:PE X (.Name x p) (a08 i):=by exact pv _):PUA X (.Name x p::es) (a9 (aC i) t):=aE (gE i a) h rfl
structure WA (X:Cx)(es:List Expr)(t:UA):Prop where
 out:PUA X es t
theorem a26:WA X [] aK:=⟨aA⟩
theorem a09 {i:Int}{j}{p:Pos}(h:WA X es t):WA X (.Constant (.int i) j p::es) (a9 (uC<|.int i) t):=⟨b7 h.out⟩
theorem cE1 {i:Int}{j}{p q:Pos}(h:WA X es t):WA X (.UnaryOp .USub (.Constant (.int i) j p) q::es) (a9 (jA<|uC<|.int i) t):=⟨tN (iG aF) h.out⟩
theorem c14 {fs:List Expr}{j}{p:Pos}{tf:UA}(a:WA X fs tf)(h:WA X es t):WA X (.Tuple fs j p::es) (a9 (gF tf) t):=⟨lN (d7 a.out) h.out⟩
structure WS (X:Cx)(sts:List Stmt)(t:US):Prop where
 out:qW X sts t
theorem ws_of {sts:List Stmt}{u:US}(h:qW X sts u):WS X sts u:=⟨h⟩
theorem ws_lw {x:Str}{pos pos' p:Pos}{i:Nat}{sts:List Stmt}{u:US}(h:WA X es t)(r:WS X sts u)(hN:X.N.Nodup)(hi:X.N[i]? =some x:=by rfl)(hx:Loc X.env.scope x:=by walk_at "z")(hf:X.fn x=true\/X.env.scope.names.lookup x=some .local:=by walk_at "z")
  (hl: ∀pins σ H s,Inv X pins σ H s->i<σ.length:=by exact ilB rfl):WS X (.Assign [.Name x pos'] (.List es p) pos::sts) (aV (cE i<|lD t) u):=⟨bT (a16 i hN hi hx (fN h.out) rfl hf hl) r.out⟩
end
end M
end
section
namespace M
open PySem PySem.Spec PyProof.Rows L2
abbrev GL:=List (Addr×List Int)
end M
end
section
namespace M
open PySem PySem.Spec PyProof.Rows L2
section
variable {X:Cx}{K:Frag}{C C':C0}{ρ ρ':Ev}{σ σ':L2.St}{H H' H0:Hp}{e:Expr}{pos:Pos}{te:UE}
def uLookF (t:UE):UE:=λρ Q=>t ρ λb _=>match b with
 | .pu d=>d.nl=true/\Q (.pu d) ρ
 | .ow l=>D.nls l=true/\Q (.ow l) ρ
 | _=>False
end
end M
end
section
namespace L2
open PySem PySem.Spec PyProof.Rows
end L2
namespace M
open PySem PySem.Spec PyProof.Rows L2
end M
end
section
namespace M
open PySem PySem.Spec PyProof.Rows L2
end M
end
section
namespace L2
open PySem PySem.Spec PyProof.Rows
end L2
namespace M
open PySem PySem.Spec PyProof.Rows L2
end M
end
section
namespace M
open PySem PySem.Spec PyProof.Rows L2
section
variable {X:Cx}{e a b:Expr}{te ta tb:UE}{t u:US}{sts:List Stmt}{pos:Pos}
theorem gQ {op:CmpOp}{g:D->D->(B->Prop)->Prop}(ho:OpU X (compareOp op) g)(ha:PU X a ta)(hb:PU X b tb)(hm:behindInMarks op b=false:=by exact bF5 _):PUT X (.Compare a [op] [b] pos) (cQ<|uOp g ta tb):=aW3 ho ha hb hm
theorem bQ0 {op:CmpOp}{g:D->D->(B->Prop)->Prop}(ho:OpU X (compareOp op) g)(ha:PU X a ta)(hb:PU X b tb)(hm:behindInMarks op b=false:=by exact bF5 _):PU X (.Compare a [op] [b] pos) (uOp g ta tb):=pu_cmp ho ha hb hm
theorem cS {x:Str}{pos':Pos}(i:Nat)(hN:X.N.Nodup)(he:PU X e te)(r:qW X sts u)(hi:X.N[i]? =some x:=by rfl)(hx:Loc X.env.scope x:=by walk_at "z")(hs:swapsWith e (some<|.Name x pos') pos.line X.env=pure false:=by rfl)(hf:X.fn x=true\/X.env.scope.names.lookup x=some .local:=by walk_at "z")
  (hl: ∀pins σ H s,Inv X pins σ H s->i<σ.length:=by exact ilB rfl):qW X (.Assign [.Name x pos'] e pos::sts) (aV (cE i te) u):=bT (a97 i hN he hi hx hs hf hl) r
theorem fJ (h:PU X e te):qW X [.Return (some e) pos] (dE te):=bK (bZ6 h)
theorem aU6 {c:Expr}{tc:UT}(hc:PUT X c tc)(ha:qW X sts t):PUS X (.If c sts [] pos) (gH tc t dZ):=c65 hc ha bZ5
theorem jB {c:Expr}{tc:UT}{r:List Stmt}(hc:PUT X c tc)(ha:qW X sts t)(hr:qW X r u):qW X (.If c sts [] pos::r) (aV (gH tc t dZ) u):=bT (aU6 hc ha) hr
theorem tO {x:Str}{p:Pos}{iter:Expr}{ui:UI}(i:Nat)(hN:X.N.Nodup)(hi:PUI X (.Name x p) iter ui)(hb:qW X sts t)(hp:PassesOwn (model X.prog X.w) X.A X.env X.xe:=by exact i8)(hc:X.calm=true:=by rfl)(hx:X.N[i]? =some x:=by rfl)(hl:Loc X.env.scope x:=by walk_at "z")
  (hs: ∀x,foldedSetIterable iter X.env x=pure x:=by intro _;rfl) (hf:X.fn x=true\/X.env.scope.names.lookup x=some .local:=by walk_at "z"):PUS X (.For (.Name x p) iter sts [] pos) (kI ui (cR i) t):=aZ5 hp hc hi (aJ5 i<|dI hN hx hl hf) hb hs
theorem rM {elt iter:Expr}{ifs:List Expr}{scope:Scope}{x:Str}{p:Pos}(N:List Str)(esc:List (Str×NameKind))(XN:List Str){js:List Nat}{cap:List (Option Nat)}{last i:Nat}{ui:UI}{tt:UT}(hi:PUI X (.Name x p) iter ui)(ht: ∀cl C s H fp pins,PTs (bU X N scope cl C s H fp pins) ifs<|lT X.K tt)(he: ∀cl C s H fp pins,PU (bU X N scope cl C s H fp pins) elt te)
  (he0:X.env.scope.names=esc:=by rfl) (hx0:X.N=XN:=by rfl) (lk:wH esc XN N cap scope last=true:=by decide +kernel) (hl:last<cap.length:=by decide) (hT:last ∉ [i]:=by decide) (hc:X.calm=true:=by rfl) (hN:N.Nodup:=by decide +kernel) (hx:N[i]? =some x:=by rfl) (hy: ∀cl C s H fp pins,Loc (bU X N scope cl C s H fp pins).env.scope x:=by intro _ _ _ _ _ _;first|exact Or.inl rfl|exact Or.inr rfl)
  (hs: ∀x,foldedSetIterable iter X.env x=pure x:=by intro _;rfl) (hf: ∀cl C s H fp pins,(bU X N scope cl C s H fp pins).fn x=true\/(bU X N scope cl C s H fp pins).env.scope.names.lookup x=some .local:=by intro _ _ _ _ _ _;first|exact .inl rfl|exact .inr rfl|assumption):PU X (.ListComp elt [⟨.Name x p,iter,ifs,0⟩] scope pos) (gC js cap last ui (cR i) tt te):=
 a23 he0 hx0 lk hl hT hc hi (λ_ _ _ _ _ _=>aJ5 i (dI hN hx (hy ..)<|hf ..)) ht he hs
end
mutual
noncomputable def D.nk:D->Bool
 | .tup l=>D.nks l
 | .obj _ _ l=>D.nks l
 | .lst _=>false
 | .rol _=>false
 | .adr _=>true
 | .xob _ _ _ _=>false
 | .non=>true
 | .bl _=>true
 | .int _=>true
 | .str _=>true
 | .ty _=>true
noncomputable def D.nks:List D->Bool
 | []=>true
 | d::l=>d.nk&&D.nks l
end
theorem b07: ∀r:List Int,D.nks (r.map D.int)=true
 | []=>by simp only[jO,D.nks]
 | a::r=>by simp only[bW,D.nks,D.nk,b07 r,Bool.and_true]
noncomputable def HO.isL:HO->Bool
 | .lst _=>true
 | _=>false
section
variable {K:Frag}{A A':AS}{H H':Hp}
mutual
theorem Rep.nk (p: ∀a u,¬A a->H a=some u->HO.isL u=false-> ¬A' a/\H' a=some u): ∀{d:D} {v:V},d.nk=true->Rep K A H d v->Rep K A' H' d v
 | .non,_,_,h=>h
 | .bl _,_,_,h=>h
 | .int _,_,_,h=>h
 | .str _,_,_,h=>h
 | .ty _,_,_,h=>h
 | .adr _,_,_,h=>h
 | .tup l,v,n,h=>by
  simp only[D.nk]at n;simp only[Rep]at h⊢;obtain⟨a,vs,rfl,c,r⟩:=h;refine⟨a,vs,rfl,?_,bG.nk p n r⟩;rcases c with⟨c1,c2⟩|c
  ·rcases c2 with c2| ⟨o,c2⟩
   ·obtain⟨g1,g2⟩:=p a _ c1 c2 rfl;exact .inl ⟨g1,.inl g2⟩
   ·obtain⟨g1,g2⟩:=p a _ c1 c2 rfl;exact .inl ⟨g1,.inr ⟨o,g2⟩⟩
  ·exact .inr c
 | .obj C ks l,v,n,h=>by
  simp only[D.nk]at n;simp only[Rep]at h⊢;obtain⟨a,dx,vs,rfl,c1,c2,c3,r,ok⟩:=h;obtain⟨g1,g2⟩:=p a _ c1 c2 rfl;exact⟨a,dx,vs,rfl,g1,g2,c3,bG.nk p n r,ok⟩
 | .lst _,_,n,_=>by simp only[D.nk]at n;cases n
 | .rol _,_,n,_=>by simp only[D.nk]at n;cases n
 | .xob _ _ _ _,_,n,_=>by simp only[D.nk]at n;cases n
theorem bG.nk (p: ∀a u,¬A a->H a=some u->HO.isL u=false-> ¬A' a/\H' a=some u): ∀{l:List D} {vs:List V},D.nks l=true->bG K A H l vs->bG K A' H' l vs
 | [],_,_,h=>h
 | d::l,vs,n,h=>by
  simp only[D.nks,dN]at n;obtain⟨v,vr,rfl,rv,rr⟩:=h.uncons;exact .cons (Rep.nk p n.1 rv) (bG.nk p n.2 rr)
end
end
def nkB:B->Prop
 | .pu d=>d.nk=true
 | .ow l=>D.nks l=true
 | .bo _=>False
def uK:Ev->Ev->Prop
 | [],[]=>True
 | none::r,_::s=>uK r s
 | some b::r,x::s=>x=some b/\nkB b/\uK r s
 | _,_=>False
theorem uK.len: ∀{r s:Ev},uK r s->r.length=s.length
 | [],[],_=>rfl
 | none::r,_::s,h=>by simp only[uK]at h;simp only[gJ,uK.len h]
 | some b::r,x::s,h=>by simp only[uK]at h;simp only[gJ,uK.len h.2.2]
 | [],_::_,h=>by simp only[uK]at h
 | none::_,[],h=>by simp only[uK]at h
 | some _::_,[],h=>by simp only[uK]at h
theorem uK.get: ∀{r s:Ev} {i:Nat} {b:B},uK r s->r[i]? =some (some b)->s[i]? =some (some b)/\nkB b
 | [],[],i,b,_,g=>by simp at g
 | none::r,x::s,0,b,h,g=>by simp at g
 | none::r,x::s,i+1,b,h,g=>by
  simp only[uK]at h;simp only[x9]at g⊢;exact uK.get h g
 | some c::r,x::s,0,b,h,g=>by
  simp only[uK]at h;simp only[oM,Option.some.injEq]at g⊢;subst g;exact⟨h.1,h.2.1⟩
 | some c::r,x::s,i+1,b,h,g=>by
  simp only[uK]at h;simp only[x9]at g⊢;exact uK.get h.2.2 g
 | [],_::_,_,_,h,_=>by simp only[uK]at h
 | none::_,[],_,_,h,_=>by simp only[uK]at h
 | some _::_,[],_,_,h,_=>by simp only[uK]at h
section
variable {X:Cx}{K:Frag}{ρ ρ':Ev}{σ σ':L2.St}{H H':Hp}
theorem EOk.less (I:EOk K CZ ρ σ H)(len:ρ'.length=σ'.length)(sb: ∀(i:Nat) (b:B),ρ'[i]? =some (some b)->ρ[i]? =some (some b)/\σ'[i]? =σ[i]? /\nkB b)(T: ∀c u,H c=some u->HO.isL u=false->H' c=some u)(L: ∀(i:Nat) (l:List D) (a:Addr),ρ'[i]? =some (some<|.ow l)->σ[i]? =some (some<|.ref a)->H' a=H a):EOk K CZ ρ' σ' H':=by
 have av: ∀a,Av CZ ρ' σ' a->Av CZ ρ σ a:=λa z=>by
  rcases z with z| ⟨i,l,h1,h2⟩
  ·exact .inl z
  ·obtain⟨g1,g2,_⟩:=sb i _ h1;exact .inr ⟨i,l,g1,by rw[<-g2];exact h2⟩
 have p: ∀a u,¬Av CZ ρ σ a->H a=some u->HO.isL u=false-> ¬Av CZ ρ' σ' a/\H' a=some u:=λa u n e l=>⟨λz=>n (av a z),T a u e l⟩
 refine⟨len,λi d h=> ?_,λi l h=> ?_,λi j l l' a h1 h2 h3 h4=> ?_,λi l h=> ?_,λb o z=>(by cases z),λb z=>z.elim⟩
 ·obtain⟨g1,g2,n⟩:=sb i _ h;obtain⟨v,h1,h2⟩:=I.pu i d g1;exact⟨v,by rw[g2];exact h1,Rep.nk p n h2⟩
 ·obtain⟨g1,g2,n⟩:=sb i _ h;obtain⟨a,vs,h1,h2,h3,h4⟩:=I.ow i l g1;exact⟨a,vs,by rw[g2];exact h1,by rw[L i l a h h1];exact h2,h3,bG.nk p n h4⟩
 ·obtain⟨g1,g2,_⟩:=sb i _ h1;obtain⟨g3,g4,_⟩:=sb j _ h2;exact I.inj i j l l' a g1 g3 (by rw[<-g2];exact h3) (by rw[<-g4];exact h4)
 ·exact(sb i _ h).2.2.elim
def d96 (t0:Nat)(ta:UA)(tb:US):US:=λD ρ=>ta ρ λds ρ1=> ∃j:Int,ds=[.int j]/\(-(2^62)<=j/\j<2^62)/\ ∃Pv:Nat->Ev->Prop,Pv 0 ρ1/\
 (∀i ρ',i<j.toNat->Pv i ρ'->t0<ρ'.length/\tb {nx:=Pv (i+1),rt:=D.rt} (ρ'.set t0<|some<|.pu<|.int<|0+(i:Int)))/\ ∀ρ',Pv j.toNat ρ'->D.nx ρ'
theorem uz_for {q:Pos}{a:Expr}{ta:UA}{tb:US}{x:Str}{p px pos:Pos}{body:List Stmt}(t0:Nat)(hp:PassesOwn (model X.prog X.w) X.A X.env X.xe)(hc:X.calm=true)(hg:Gl X "range")(hm:X.mg "range"=none)(ha:PUA X [a] ta)(hx:PG X (.Name x px) (a14 t0))(hb:c08 X body tb)(hs':starEach [a] X.env=[(false,eval a X.env)]:=by rfl)
  (hs: ∀y,foldedSetIterable (.Call (.Name "range" p) [a] [] pos) X.env y=pure y:=by intro _;rfl):PUZ X (.For (.Name x px) (.Call (.Name "range" p) [a] [] pos) body [] q) (d96 t0 ta tb):=
 nS (bY1 hp hc (bB2 hg hm ha hs') hx hb hs) λD σ H ⟨ρ,D0,I,h,k⟩=>⟨CZ,ρ,_,I,h,λds ρ1 vs H1 q f s rr=>by
  obtain⟨j,rfl,⟨h1,h2⟩,Pv,p0,turn,fin⟩:=q;obtain⟨v,vr,rfl,rv,rr'⟩:=rr.uncons;have:=rr'.unnil;subst this;have:=bF rv;subst this;have I1:=(I.frz f).same s;refine⟨j,rfl,h1,h2,?_⟩;refine⟨λi m σ' H'=>m=j.toNat-i/\i<=j.toNat/\ ∃ρ',EOk X.K CZ ρ' σ' H'/\Pv i ρ',⟨_,rfl,d6 _,ρ1,I1,p0⟩,?_⟩
  rintro i m σ' H' ⟨rfl,hi,ρ',I',p'⟩
  by_cases hlt:i<j.toNat
  ·refine .inr ⟨hlt,λσ2 H2=> ∃ρ2,EOk X.K CZ ρ2 σ2 H2/\Pv (i+1) ρ2,λσ2 H2 z=>⟨j.toNat-(i+1),aa,rfl,hlt,z⟩,λy H2 hy=> ?_⟩
   obtain⟨rfl,rfl⟩:=hy;obtain⟨hl,tr⟩:=turn i ρ' hlt p';have hl':t0<σ'.length:=by rw[<-I'.len];exact hl
   have I2:=I'.store (b:= .pu (.int<|0+(i:Int))) (v:= .int (0+(i:Int))) (.refl _) (show Rep _ _ _ _ _ by simp only[Rep]) hl'
   exact⟨_,_,I2,tr,⟨λρ3 σ3 H3 q3 I3=>⟨ρ3,I3,q3⟩,k.rt,λ_ _ _ z=>z.elim,λ_ _ _ z=>z.elim⟩⟩
  ·have e:i=j.toNat:=aa
   subst e;exact .inl ⟨aB _,k.nx _ _ _ (fin ρ' p') I'⟩⟩
def cO8 (F P:Nat):US:=λU ρ=>F≠P/\P<ρ.length/\ ∃(l:List D) (ρk:Ev),ρ[F]? =some (some<|.ow l)/\l.length<=100/\(∀d∈l,∃(p:Int) (m:List D),d= .tup [.int p,.lst m]/\m.length<=300)/\uK ρk ρ/\ρk[F]? =some none/\ρk[P]? =some none/\U.nx ρk
structure SpV (K:Frag)(H:Hp)(a:Addr)(O:AS)(N:Nat)(v:V):Prop where
 ex: ∃(t b:Addr) (p:Int) (ms:List V),v= .ref t/\(Rd H t (.tup [.int p,.ref b])\/KT K t [.int p,.ref b])/\b≠a/\ ¬O b/\H b=some (.lst ms)/\ms.length<=N
theorem SpV.up {O:AS}{N:Nat}{a b:Addr}{ms ms':List V}{v:V}(h:SpV K H a O N v)(s:gP H H')(hb:H' b=some (.lst ms))(hl:ms'.length<=N+1):SpV K (upd H' b<|.lst ms') a O (N+1) v:=by
 obtain⟨t,c,p,ns,rfl,ht,ca,co,hc,hn⟩:=h.ex
 by_cases e:c=b
 ·subst e;refine⟨t,c,p,ms',rfl,?_,ca,co,iB,hl⟩;rcases ht with ht|ht
  ·refine .inl ?_
   rcases ht with ht| ⟨o,ht⟩
   ·have:=s _ _ ht;exact .inl (by rw[bL (λz=>by rw[z,hb]at this;cases this)];exact this)
   ·have:=s _ _ ht;exact .inr ⟨o,by rw[bL (λz=>by rw[z,hb]at this;cases this)];exact this⟩
  ·exact .inr ht
 ·refine⟨t,c,p,ns,rfl,?_,ca,co,by rw[bL e];exact s _ _ hc,xK hn⟩
  rcases ht with ht|ht
  ·refine .inl ?_
   rcases ht with ht| ⟨o,ht⟩
   ·have:=s _ _ ht;exact .inl (by rw[bL (λz=>by rw[z,hb]at this;cases this)];exact this)
   ·have:=s _ _ ht;exact .inr ⟨o,by rw[bL (λz=>by rw[z,hb]at this;cases this)];exact this⟩
  ·exact .inr ht
variable {o e e2:Expr}{te te2:UE}{x y:Str}{px py py2 apos cpos bpos fpos apos2 cpos2 epos:Pos}
theorem cO9 (F P:Nat)(hp:PassesOwn (model X.prog X.w) X.A X.env X.xe)(hc:X.calm=true)(hF:PE X (.Name y py) (a08 F))(hF2:PE X (.Name y py2) (a08 F))(hx:PG X (.Name x px) (a14 P))(ho:PU X o (uIx (aO P)<|uC<|.int 1))(he:PU X e te)(he2:PU X e2 te2)
  (ht: ∀ρ,te ρ λ_ _=>True) (ht2: ∀ρ,te2 ρ λ_ _=>True)
  (hs: ∀z,foldedSetIterable (.Name y py) X.env z=pure z:=by intro _;rfl)
  (hbase:attributeBase o "append" X.env (eval o X.env)=eval o X.env:=by rfl)
  (hfew:((backTo cpos<|starEach [e] X.env).all (λx=> !x.1)&&(backToKw cpos<|keywordEach [] X.env).all (λx=>x.1.isSome)
   &&decide ([e].length+([]:List Keyword).length+(if([]:List Keyword).isEmpty then 0 else 1)<30))=true:=by rfl)
  (hline:(apos.endLine==cpos.line)=true:=by rfl) (hst:starEach [e] X.env=(false,eval e X.env)::starEach [] X.env:=by rfl) (hplain:(backTo cpos<|starEach [] X.env).any (·.1)=false:=by rfl)
  (hw:swapsWith (.Call (.Attribute o "append" apos) [e] [] cpos) none bpos.line X.env=pure false:=by rfl)
  (hbase2:attributeBase (.Name y py2) "append" X.env (eval (.Name y py2) X.env)=eval (.Name y py2) X.env:=by rfl)
  (hfew2:((backTo cpos2<|starEach [e2] X.env).all (λx=> !x.1)&&(backToKw cpos2<|keywordEach [] X.env).all (λx=>x.1.isSome)
   &&decide ([e2].length+([]:List Keyword).length+(if([]:List Keyword).isEmpty then 0 else 1)<30))=true:=by rfl)
  (hline2:(apos2.endLine==cpos2.line)=true:=by rfl) (hst2:starEach [e2] X.env=(false,eval e2 X.env)::starEach [] X.env:=by rfl) (hplain2:(backTo cpos2<|starEach [] X.env).any (·.1)=false:=by rfl)
  (hw2:swapsWith (.Call (.Attribute (.Name y py2) "append" apos2) [e2] [] cpos2) none epos.line X.env=pure false:=by rfl) :
  c08 X [.For (.Name x px) (.Name y py) [.Expr (.Call (.Attribute o "append" apos) [e] [] cpos) bpos] [] fpos,.Expr (.Call (.Attribute (.Name y py2) "append" apos2) [e2] [] cpos2) epos] (cO8 F P):=by
 refine aG2 (qG (bY1 hp hc (cY0 hF) hx (a80<|a81 (cK3 x8 aC3 aC4 a82 ho (aJ3 he aY8 hst) hbase hfew hline hst hplain) hw) hs)
  (a80<|a81 (cK3 x8 aC3 aC4 a82 hF2 (aJ3 he2 aY8 hst2) hbase2 hfew2 hline2 hst2 hplain2) hw2)) λD σ H z=> ?_
 obtain⟨ρ,D0,I,⟨ne,hP,l,ρk,hl,l100,hd,ls,kF,kP,q⟩,k⟩:=z;obtain⟨a,vs,sF,ha,_,rl⟩:=I.ow F l hl;have lk:=ls.len;have ll:=rl.length;have nOw: ∀(i:Nat) (b:B),ρk[i]? =some (some b)->i≠F/\i≠P:=λi b g=>⟨λz=>(by rw[z,kF]at g;cases g),λz=>(by rw[z,kP]at g;cases g)⟩
 have notA: ¬Av CZ ρk σ a:=by
  rintro(z| ⟨i,m,h1,h2⟩)
  ·exact z
  ·exact(nOw i _ h1).1 (I.inj i F m l a (ls.get h1).1 hl h2 sF)
 have sub: ∀b,Av CZ ρk σ b->Av CZ ρ σ b:=λb z=>by
  rcases z with z| ⟨i,m,h1,h2⟩
  ·exact .inl z
  ·exact .inr ⟨i,m,(ls.get h1).1,h2⟩
 have sp0: ∀v∈vs,SpV X.K H a (Av CZ ρk σ) 300 v:=λv hv=>by
  obtain⟨i,hi,rfl⟩:=xH hv;obtain⟨d,hd1,hd2⟩: ∃d,l[i]? =some d/\Rep X.K (Av CZ ρ σ) H d vs[i]:=by
   have hi':i<l.length:=by rw[ll];exact hi
   obtain⟨u,e5,e6⟩:=rl.get (aJ hi');rw[aJ hi]at e5;cases e5;exact⟨_,aJ hi',e6⟩
  obtain⟨p,m,rfl,hm⟩:=hd d (sJ hd1);simp only[Rep]at hd2;obtain⟨t,ws,e1,c,r⟩:=hd2;obtain⟨w1,wr,rfl,r1,r2⟩:=r.uncons;obtain⟨w2,wr2,rfl,r3,r4⟩:=r2.uncons;have:=r4.unnil;subst this;simp only[Rep]at r1 r3;subst r1;obtain⟨b,ms,rfl,nb,hb,rm⟩:=r3;refine⟨t,b,p,ms,e1,c.imp bO id,?_,λz=>nb (sub b z),hb,by rw[<-rm.length];exact hm⟩
  rintro rfl;exact nb (.inr ⟨F,l,hl,sF⟩)
 refine⟨_,sF,a,rfl,⟨vs,SqL.of ha⟩,?_⟩
 refine⟨λi m σ' H'=>m=vs.length-i/\i<=vs.length/\σ'.length=σ.length/\(∀j,j≠P->σ'[j]? =σ[j]?)/\EOk X.K CZ ρk σ' H'/\H' a=some (.lst vs)/\ ∀v∈vs,SpV X.K H' a (Av CZ ρk σ) (300+i) v,⟨_,rfl,d6 _,rfl,λ_ _=>rfl,?_,ha,sp0⟩,?_⟩
 ·exact I.less (by rw[lk];exact I.len) (λi b g=>⟨(ls.get g).1,rfl,(ls.get g).2⟩) (λc u g _=>g) λ_ _ _ _ _=>rfl
 rintro i m σ' H' ⟨rfl,hi,hz,so,J,hA,sp⟩;have avE: ∀b,Av CZ ρk σ' b↔Av CZ ρk σ b:=λb=>by
  constructor
  ·rintro(z| ⟨j,n,h1,h2⟩)
   ·exact .inl z
   ·exact .inr ⟨j,n,h1,by rw[<-so j (nOw j _ h1).2];exact h2⟩
  ·rintro(z| ⟨j,n,h1,h2⟩)
   ·exact .inl z
   ·exact .inr ⟨j,n,h1,by rw[so j (nOw j _ h1).2];exact h2⟩
 by_cases hlt:i<vs.length
 ·refine .inr ⟨⟨vs,vs[i],SqL.of hA,aJ hlt⟩,λσ2 H2=>σ2.length=σ.length/\(∀j,j≠P->σ2[j]? =σ[j]?)/\EOk X.K CZ ρk σ2 H2/\H2 a=some (.lst vs)/\ ∀v∈vs,SpV X.K H2 a (Av CZ ρk σ) (300+(i+1)) v,λσ2 H2 z=>⟨vs.length-(i+1),aa,rfl,hlt,z⟩,λv H2 hy=> ?_⟩
  obtain⟨rfl,hv⟩:=hy;have hv:=hv vs (SqL.of hA);have hmem:v∈vs:=sJ hv;obtain⟨t,b,p,ms,rfl,ht',ba,bo,hb,hm⟩:=(sp v hmem).ex;have nt:Rd H2 t (.tup [.int p,.ref b])-> ¬Av CZ ρk σ' t:=λc z=>by
   rcases z with z| ⟨j,n,h1,h2⟩
   ·exact z
   ·obtain⟨t',ws,g1,g2,_⟩:=J.ow j n h1;rw[h2]at g1;cases g1;rcases c with c| ⟨o,c⟩
    ·rw[g2]at c;cases c
    ·rw[g2]at c;cases c
  have hP':P<σ'.length:=by rw[hz,<-I.len];exact hP
  have J1:=J.store (i:=P) (b:= .pu (.tup [.int p,.adr b])) (v:= .ref t) (.refl _) (by
   show Rep _ _ _ _ _
   simp only[Rep];refine⟨t,[.int p,.ref b],rfl,ht'.imp (λc=>⟨nt c,c⟩) id,.cons (by simp only[Rep])<|.cons (by simp only[Rep]) .nil⟩) hP'
  have hPk:P<ρk.length:=by rw[lk];exact hP
  refine⟨CZ,_,λc ρ1=>c= .pu (.adr b)/\ρ1=ρk.set P (some<|.pu<|.tup [.int p,.adr b]),J1,?_,λc ρ1 w H3 q1 f1 s1 r1=> ?_⟩
  ·unfold uIx aO aZ3;rw[aD1 hPk];dsimp only[uC,B.d,gIx,mC];exact⟨rfl,rfl⟩
  ·obtain⟨rfl,rfl⟩:=q1;have ew:w= .ref b:=r1;subst ew;have hb3:=s1 _ _ hb;refine⟨.inl ⟨rfl,ms,SqL.of hb3⟩,CZ,_,λ_ _=>True,J1.same s1,ht _,λc ρ2 w H4 _ f2 s2 r2=> ?_⟩
   have hb4:=s2 _ _ hb3;have s12:gP H2 H4:=s1.trans s2;refine⟨b,ms,w,rfl,rfl,hb4,kN hm<|b9 (show 300+i<500 by omega) ac,?_⟩
   refine⟨by rw[dU];exact hz,λj hj=>by rw[sI λz=>hj z.symm];exact so j hj,?_,by rw[bL λz=>ba z.symm];exact s12 _ _ hA,λv hv=>(sp v hv).up s12 hb4 ?_⟩
   ·refine(J1.same s12).less (by rw[dU,hz,lk];exact I.len) (λj c g=> ?_) (λc u g1 g2=> ?_) λj n c g1 g2=> ?_
    ·have hj:=(nOw j _ g).2;rw[sI λz=>hj z.symm]
     exact⟨g,rfl,(ls.get g).2⟩
    ·rw[bL (λz=>by rw[z,hb4]at g1;cases g1;cases g2)]
     exact g1
    ·refine bL ?_
     rintro rfl;have hj:=(nOw j _ g1).2;rw[sI λz=>hj z.symm]at g2
     exact bo ((avE _).mp<|.inr ⟨j,n,g1,g2⟩)
   ·rw[cU,xC];omega
 ·have e:i=vs.length:=aa
  subst e;refine .inl ⟨⟨vs,SqL.of hA,aB _⟩,?_⟩;have sF':σ'[F]? =some (some<|.ref a):=by rw[so F ne];exact sF
  refine⟨_,sF',.inl ⟨rfl,vs,SqL.of hA⟩,CZ,ρk,λ_ _=>True,J,ht2 _,λc ρ2 w H4 _ f2 s2 r2=> ?_⟩
  have hA4:=s2 _ _ hA;refine⟨a,vs,w,rfl,rfl,hA4,kN (show vs.length<=100 by rw[<-ll];exact l100) ac,k.nx _ _ _ q ?_⟩
  refine(J.same s2).less (by rw[lk,hz];exact I.len) (λj c g=>⟨g,rfl,(ls.get g).2⟩) (λc u g1 g2=> ?_) λj n c g1 g2=> ?_
  ·rw[bL (λz=>by rw[z,hA4]at g1;cases g1;cases g2)]
   exact g1
  ·refine bL ?_
   rintro rfl;exact notA ((avE _).mp<|.inr ⟨j,n,g1,g2⟩)
end
section
variable {prog:Program}{w:World}{A:Around}{E:Value->Shared->Prop}{s:Shared}
def a27 (prog:Program)(w:World)(A:Around)(E:Value->Shared->Prop)(fin:Bool)(Q:Value->Shared->Prop):List (Value×Value)->Shared->Prop
 | [],s=>Q (.bool fin) s
 | (p,q)::r,s=>wpAny (model prog w) A (eqBool p q) (λe s'=>if e=true then a27 prog w A E fin Q r s' else wpAny (model prog w) A (richCompare .GtE p q) Q E s') E s
theorem cP0 {a b:Addr}{oa ob:Obj}{xs ys:Array Value}{n m:Nat}{P:PySem.Fin->Shared->Prop}(ha:s.heap.get? a=some oa)(da:oa.data= .seq xs n)(hb:s.heap.get? b=some ob)(cb:ob.cls= .type "tuple")(db:ob.data= .seq ys m)
  (h:a27 prog w A E (decide (ys.size<=xs.size)) (λv s'=>P (.done<|.ret v) s') (xs.toList.zip ys.toList) s):wpAny (model prog w) A (Builtin.«tuple.__ge__» ⟨[.ref a,.ref b],[]⟩) P E s:=by
 show wpAny _ _ (isInstance (.ref b) (.type "tuple") >>= _) _ _ s
 refine a8 (aF7 ⟨ob,hb,cb⟩ isSubtype_tuple_tuple ?_)
 simp only[Bool.not_true,aE9,dQ];refine a8 (wpAny_tupleItemsOf ha da ?_);refine a8 (wpAny_tupleItemsOf hb db ?_);refine a8 ?_;refine wpAny_forIn_list _ (λnR r s'=>r=(none,())/\a27 prog w A E (decide (ys.size<=xs.size)) (λv s'=>P (.done<|.ret v) s') nR s') _ ?_ ?_ _ _ ⟨rfl,h⟩
 ·rintro⟨p,q⟩ nR r s' ⟨rfl,h'⟩;have h2:wpAny (model prog w) A (eqBool p q) (λe s'=>if e=true then a27 prog w A E (decide (ys.size<=xs.size)) (λv s'=>P (.done<|.ret v) s') nR s' else wpAny (model prog w) A (richCompare .GtE p q) (λv s'=>P (.done<|.ret v) s') E s') E s':=h'
  refine a8 (bD h2 (λe s2 he=> ?_) λ_ _ z=>z)
  cases e
  ·rw[a6 ac]at he
   rw[a7<|by rfl]
   exact a8 (nA<|a8<|bD he (λv s3 hv=>a8 (aG<|aG<|aG hv)) λ_ _ z=>z)
  ·rw[a7 rfl]at he;rw[a6 ac]
   exact aG ⟨rfl,he⟩
 ·rintro r s' ⟨rfl,h'⟩;exact aG h'
theorem a27.mono {fin:Bool}{Q Q':Value->Shared->Prop}(k: ∀v s,Q v s->Q' v s): ∀(l:List (Value×Value)) (s:Shared),a27 prog w A E fin Q l s->a27 prog w A E fin Q' l s
 | [],s,h=>k _ s h
 | (p,q)::r,s,h=>by
  have h':wpAny (model prog w) A (eqBool p q) (λe s'=>if e=true then a27 prog w A E fin Q r s' else wpAny (model prog w) A (richCompare .GtE p q) Q E s') E s:=h
  refine bD h' (λe s' he=> ?_) λ_ _ z=>z
  cases e
  ·rw[a6 ac]at he⊢
   exact bD he k λ_ _ z=>z
  ·rw[a7 rfl]at he⊢;exact a27.mono k r s' he
theorem c75 {a b:Addr}{oa ob:Obj}{xs ys:Array Value}{n m:Nat}{Q:Value->Shared->Prop}(hu:A.units<cLine)(ha:s.heap.get? a=some oa)(ca:oa.cls= .type "tuple")(da:oa.data= .seq xs n)(hb:s.heap.get? b=some ob)(cb:ob.cls= .type "tuple")(db:ob.data= .seq ys m)
  (h:a27 prog w A.in1 E (decide (ys.size<=xs.size)) (λv s'=>v≠ .notImplemented/\Q v s') (xs.toList.zip ys.toList) s):wpAny (model prog w) A (richCompare .GtE (.ref a)<|.ref b) Q E s:=
 wpAny_richCompare_same_room ⟨oa,ha,ca⟩ ⟨ob,hb,cb⟩ F.slot_tuple_ge (i6 F.slot_tuple_ge ⟨oa,ha,ca⟩ F.entry_tuple_ge (cP0 ha da hb cb db<|h.mono (λv s' q=>⟨v,rfl,q⟩) _ _)<|F.args_tuple_ge_2 _ _) hu
theorem c76 {Q:Value->Shared->Prop}{fin:Bool}: ∀(us ws:List Int) (x y:List Value),Vals (us.map V.int) x->Vals (ws.map V.int) y->fin=decide (ws.length<=us.length)->Q (.bool<|leL ws us) s->a27 prog w A E fin Q (x.zip y) s
 | us,[],x,y,hx,hy,hf,q=>by
  cases hy;rw[List.zip_nil_right];rw[show decide (([]:List Int).length<=us.length)=true from dP (d6 _)]at hf
  subst hf;have e:leL [] us=true:=by cases us<;>rfl
  rw[e]at q;exact q
 | [],b::ws,x,y,hx,hy,hf,q=>by
  cases hx;rw[List.zip_nil_left];rw[cL ae]at hf
  subst hf;exact q
 | a::us,b::ws,x,y,hx,hy,hf,q=>by
  rw[bW]at hx hy;cases hx with
  | cons r1 hx=>
   cases hy with
   | cons r2 hy=>
    obtain⟨t1,rfl⟩:=r1;obtain⟨t2,rfl⟩:=r2;rw[xJ];rw[bP8]at q;refine xN ?_
    by_cases c:a=b
    ·subst c;rw[a7 rfl]at q;rw[sU,a7 rfl];exact c76 us ws _ _ hx hy (by rw[hf];simp) q
    ·rw[a6 λz=>c z.symm]at q
     rw[show(a==b)=false by simpa using c,a6 ac]
     exact ge_int q
end
section
variable {X:Cx}
def gGeP (d e:D)(Q:B->Prop):Prop:= ∃(i j:Int) (us ws:List Int),d= .tup [.int i,.tup<|us.map D.int]/\e= .tup [.int j,.tup<|ws.map D.int]/\Q (.pu<|.bl<|if i=j then leL ws us else decide (j<=i))
theorem ou_geP (hu:X.A.units+64<cLine):OpU X (compareOp .GtE) gGeP:=by
 intro A H d e v w Q0 Q hA r1 r2 g k;obtain⟨i,j,us,ws,rfl,rfl,g⟩:=g;refine⟨λx y H Q=> ∃(A:AS),Rep X.K A H (.tup [.int i,.tup<|us.map D.int]) x/\Rep X.K A H (.tup [.int j,.tup<|ws.map D.int]) y/\Q (.bl<|if i=j then leL ws us else decide (j<=i)) H,?_,A,r1,r2,k _ _ H g (.refl _) jT⟩
 rintro pins s σ H x y v u Q I rx ry ⟨A,r1,r2,h⟩;simp only[Rep]at r1 r2;obtain⟨a1,vs1,rfl,c1,q1⟩:=r1;obtain⟨a2,vs2,rfl,c2,q2⟩:=r2;cases rx;cases ry;obtain⟨x1,y1,rfl,e1,q1⟩:=q1.uncons;obtain⟨x2,y2,rfl,e2,q1⟩:=q1.uncons;have:=q1.unnil;subst this;obtain⟨x3,y3,rfl,e3,q2⟩:=q2.uncons;obtain⟨x4,y4,rfl,e4,q2⟩:=q2.uncons;have:=q2.unnil;subst this;have e1:=bF e1;have e3:=bF e3;subst e1 e3;have e2':=e2
 have e4':=e4;simp only[Rep]at e2 e4;obtain⟨b1,z1,rfl,d1,f1⟩:=e2;obtain⟨b2,z2,rfl,d2,f2⟩:=e4;have g1:=bG.unints f1;have g2:=bG.unints f2;subst g1 g2;obtain⟨i1,w1,⟨o1,ho1,hc1,n1,hd1⟩,_⟩:=I.tuple (c1.imp bO id);obtain⟨i2,w2,⟨o2,ho2,hc2,n2,hd2⟩,_⟩:=I.tuple (c2.imp bO id);obtain⟨i3,w3,⟨o3,ho3,hc3,n3,hd3⟩,_⟩:=I.tuple (d1.imp bO id);obtain⟨i4,w4,⟨o4,ho4,hc4,n4,hd4⟩,_⟩:=I.tuple (d2.imp bO id)
 cases w1 with
 | cons s1 w1=>
 cases w1 with
 | cons s2 w1=>
 cases w1;cases w2 with
 | cons s3 w2=>
 cases w2 with
 | cons s4 w2=>
 cases w2;obtain⟨t1,rfl⟩:=s1;obtain⟨t3,rfl⟩:=s3;cases s2;cases s4;have fin: ∀b:Bool,b=(if i=j then leL ws us else decide (j<=i))->Value.bool b≠ .notImplemented/\EP X pins σ Q (.bool b) s:=λb e=>⟨ae,.bl b,H,I,rfl,by rw[e];exact h⟩
 refine c75 ad ho1 hc1 hd1 ho2 hc2 hd2 ?_
 refine xN ?_
 by_cases c:i=j
 ·subst c;rw[a7 rfl]at fin;rw[sU,a7 rfl];obtain⟨as,ra⟩:=pK I _ (aW9 us) e2' rfl;obtain⟨bs,rb⟩:=pK I _ (aW9 ws) e4' rfl;refine SeqAt.eqBoolOverData _ _ _ _ _ _ _ _ _ _ _ _ ra rb (aG8 _<|aW9 us) (aG8 _<|aW9 ws) (by have:=cO7 us;rw[Around.in1_units];lia) ?_
  have ev:(PyData.tuple<|us.map .int).eqv (.tuple<|ws.map .int)=decide (us=ws):=by simp only[PyData.eqv];exact PySem.W.ked_eqvAll us ws
  rw[ev]
  by_cases e:us=ws
  ·subst e;rw[dP rfl,a7 rfl];exact fin _ (bP9 us).symm
  ·rw[cL e,a6 ac]
   refine c75 (by rw[Around.in1_units];lia) ho3 hc3 hd3 ho4 hc4 hd4 (c76 us ws _ _ (by simpa using w3) (by simpa using w4) ?_ ⟨ae,fin _ rfl⟩)
   have l1:=w3.length;have l2:=w4.length;simp only[aH]at l1 l2;simp only[aY];rw[<-l1,<-l2]
 ·rw[a6 c]at fin;rw[show(i==j)=false by simpa using c,a6 ac]
  exact ge_int (fin _ rfl)
end
end M
end
section
namespace L2
open PySem PySem.Spec PyProof.Rows
def Calm (f:Obj->Obj):Prop:= ∀o,(f o).dict=o.dict/\(o.isFreed=false->(f o).isFreed=false)
def oF {α:Type}:Sem α->Prop
 | .pure _=>True
 | .raise _=>True
 | .unsupported _=>True
 | .finish _=>True
 | .rule _ k=>oF (k ())
 | .at _ k=>oF (k ())
 | .load _ _ k=> ∀o,oF (k o)
 | .update _ _ f k=>Calm f/\oF (k ())
 | .alloc _ k=> ∀a,oF (k a)
 | .loadIfAlive _ k=> ∀o,oF (k o)
 | .point _ k=>oF (k ())
 | .register _ _=>True
 | .stack k=> ∀l,oF (k l)
 | _=>False
def DK (h h':Heap):Prop:= ∀b o,h.get? b=some o-> ∃o',h'.get? b=some o'/\o'.dict=o.dict
theorem DK.refl (h:Heap):DK h h:=λb o q=>⟨o,q,rfl⟩
theorem DK.trans {h h' h'':Heap}(a:DK h h')(b:DK h' h''):DK h h'':=λc o q=>by
 obtain⟨o',q',e⟩:=a c o q;obtain⟨o'',q'',e'⟩:=b c o' q';exact⟨o'',q'',e'.trans e⟩
theorem DK.update {h:Heap}{a:Addr}{f:Obj->Obj}(c:Calm f):DK h (h.update a f):=λb o q=>by
 by_cases e:a=b
 ·subst e;exact⟨f o,oO f q<|(c o).2 (Heap.get?_some_iff.mp q).2,(c o).1⟩
 ·exact⟨o,(aD5 _ _ e).trans q,rfl⟩
theorem d26 {α:Type}{M:Model}{Γ:PySem.Ctx}: ∀{t:Sem α} {Q:α->Pos->Shared->Prop} {E:Value->Pos->Shared->Prop} {p:Pos} {s:Shared},oF t->Sem.wp M Γ t Q E p s->Sem.wp M Γ t (λa p' s'=>Q a p' s'/\DK s.heap s'.heap) (λe p' s'=>E e p' s'/\DK s.heap s'.heap) p s:=by
 intro t
 induction t with
 | pure a=>intro Q E p s _ h;exact⟨h,.refl _⟩
 | raise e=>intro Q E p s _ h;exact⟨h,.refl _⟩
 | rule _ k ih=>intro Q E p s t h;exact ih () t h
 | «at» _ k ih=>intro Q E p s t h;exact ih () t h
 | load a _ k ih=>intro Q E p s t ⟨o,q,h⟩;exact⟨o,q,ih o (t o) h⟩
 | update a _ f k ih=>
  intro Q E p s t ⟨q,h⟩;refine⟨q,?_⟩;have:=ih () t.2 h;exact Sem.wp_mono _ _ _ (λa p' s' z=>⟨z.1,(DK.update t.1).trans z.2⟩) (λa p' s' z=>⟨z.1,(DK.update t.1).trans z.2⟩) _ _ this
 | alloc o k ih=>
  intro Q E p s t h;have:=ih _ (t _) h;have pu:DK s.heap (s.heap.push o):=λb o' q=>⟨o',aM _ q,rfl⟩
  exact Sem.wp_mono _ _ _ (λa p' s' z=>⟨z.1,pu.trans z.2⟩) (λa p' s' z=>⟨z.1,pu.trans z.2⟩) _ _ this
 | loadIfAlive a k ih=>intro Q E p s t h;exact ih _ (t _) h
 | point _ k ih=>intro Q E p s t h;exact ih () t h
 | stack k ih=>intro Q E p s t h;exact ih _ (t _) h
 | unsupported _=>intro Q E p s _ h;exact h.elim
 | finish _=>intro Q E p s _ h;exact h.elim
 | register _ _=>intro Q E p s _ h;exact h.elim
 | _=>intro Q E p s t h;exact False.elim t
theorem bX {α β:Type}{f:α->Sem β}: ∀{t:Sem α},oF t->(∀a,oF<|f a)->oF (t.bind f):=by
 intro t
 induction t with
 | pure a=>intro _ h;exact h a
 | raise e=>intro _ _;exact trivial
 | unsupported _=>intro _ _;exact trivial
 | finish _=>intro _ _;exact trivial
 | rule _ k ih=>intro t h;exact ih () t h
 | «at» _ k ih=>intro t h;exact ih () t h
 | load a _ k ih=>intro t h o;exact ih o (t o) h
 | update a _ f k ih=>intro t h;exact⟨t.1,ih () t.2 h⟩
 | alloc o k ih=>intro t h a;exact ih a (t a) h
 | loadIfAlive a k ih=>intro t h o;exact ih o (t o) h
 | point _ k ih=>intro t h;exact ih () t h
 | register _ _=>intro _ _;exact trivial
 | stack k ih=>intro t h l;exact ih l (t l) h
 | _=>intro t _;exact False.elim t
theorem yM {α:Type}{M:Model}{A:Around}{t:Sem α}{Q:α->Shared->Prop}{E:Value->Shared->Prop}{s:Shared}(c:oF t)(h:wpAny M A t Q E s):wpAny M A t (λa s'=>Q a s'/\DK s.heap s'.heap) (λe s'=>E e s'/\DK s.heap s'.heap) s:=λΓ p hin=>d26 c (h Γ p hin)
theorem bD4 {a:Addr}{part:Option Value}:oF (loadPart a part):=λ_=>trivial
theorem bQ1 (v:Value):oF (fieldsOf v):=by
 unfold fieldsOf;split
 ·refine bX bD4 λo=> ?_
  split<;>exact trivial
 ·exact trivial
theorem yN (v:Value)(i:Nat):oF (PySem.field v i):=bX (bQ1 v) λvs=>by
 split<;>exact trivial
theorem bQ2 (f:Array Value->Array Value):Calm (Obj.mapFields f):=λo=>by
 obtain⟨c,d,dt,sl⟩:=o;cases dt<;>exact⟨rfl,λh=>h⟩
theorem vA (v:Value)(i:Nat)(x:Value):oF (setField v i x):=by
 unfold setField;split
 ·unfold updateField;refine bX bD4 λo=> ?_
  split
  ·split
   ·exact⟨bQ2 _,trivial⟩
   ·exact trivial
  ·exact trivial
 ·exact trivial
theorem a28 (e:Value)(f:Option Addr):oF (setFlight e f):=bX (yN _ _) λtb=>by
 split
 ·exact vA _ _ _
 ·exact trivial
theorem aG9:oF stack:=λ_=>trivial
theorem c15 (f:Addr)(b:Bool):oF (entryPlaceOf f b):=bX aG9 λl=>by
 split<;>exact trivial
theorem cP1 (cls:Value)(data:Data)(d:Option Addr):oF (newObj cls data d):=by
 have as:oF (newObjAsIs cls data d):=by
  unfold newObjAsIs;refine bX (λ_=>trivial) λa=> ?_
  split
  ·refine bX ?_ λb=> ?_
   ·unfold classHasDel;refine bX (λ_=>trivial) λo=> ?_
    split<;>exact trivial
   ·split<;>exact trivial
  ·exact trivial
 unfold newObj;split<;>first|exact as| (split<;>first|exact as|exact trivial| (refine bX trivial λ_=>as))
theorem c16 (a b c d e:Value)(pl:List Value):oF (EntryCells.newEntry a b c d e pl):=by
 unfold EntryCells.newEntry newFields;exact cP1 _ _ _
theorem b08: ∀l:List Env,oF (readyFrames l)
 | []=>trivial
 | env::outer=>by
  unfold readyFrames;split
  ·refine bX (λ_=>trivial) λo=> ?_
   split
   ·exact trivial
   ·refine bX ?_ λb=> ?_
    ·unfold behindIsImport;split
     ·exact trivial
     ·split
      ·exact trivial
      ·exact bX (yN _ _) λ_=>trivial
    ·refine bX ?_ λv=> ?_
     ·unfold keptBack;split
      ·split
       ·exact trivial
       ·exact bX (bX aG9 λ_=>trivial) λ_=>trivial
      ·exact trivial
     ·exact⟨λo=>⟨rfl,λh=>by obtain⟨c,d,dt,sl⟩:=o;cases dt<;>exact h⟩,b08 outer⟩
  ·exact trivial
theorem c17 (env:Env):oF (PySem.frameOf env):=by
 unfold PySem.frameOf;refine bX (bX aG9 λ_=>trivial) λl=>bX ?_ λo=> ?_
 ·unfold frameObject;split
  ·exact trivial
  ·exact bX (b08 _) λ_=>trivial
 ·split<;>exact trivial
theorem bD5 (e:Value)(env:Env):oF (noteFrame e env):=by
 have last: ∀h f,oF (do setField e 1 (<-EntryCells.newEntry h (<-PySem.frameOf env) .none (rawInt f) .none (<-entryPlaceOf f (h != .none)))):=λh f=>
  bX (c17 env) λa=>bX (c15 _ _) λb=>bX (c16 _ _ _ _ _ _) λc=>vA _ _ _
 unfold noteFrame;split
 ·refine bX (yN _ _) λh=> ?_
  split
  ·refine bX (yN _ _) λx=> ?_
   split
   ·exact trivial
   ·exact bX (vA _ _ _) λ_=>last _ _
  ·exact last _ _
 ·exact trivial
theorem aK4 (env:Env)(e:Value):oF (leaving env e):=bX (bD5 e env) λ_=>a28 e none
def Tr (h:Heap)(e T:Addr):Prop:= ∃oe vs,h.get? e=some oe/\oe.data= .fields vs/\vs[1]? =some (.ref T)
theorem Tr.one {h:Heap}{e T T':Addr}(a:Tr h e T)(b:Tr h e T'):T=T':=by
 obtain⟨o,vs,h1,h2,h3⟩:=a;obtain⟨o',vs',g1,g2,g3⟩:=b;rw[h1]at g1;cases g1;rw[h2]at g2;cases g2;rw[h3]at g3;cases g3;rfl
structure aA6 (fs:List Addr)(e:Addr)(h h':Heap):Prop where
 keep: ∀b o,h.get? b=some o->b ∉ fs->b≠e-> ¬Tr h e b->h'.get? b=some o
 slot:h.UpToSlots h'
 tr: ∀T,Tr h' e T->T∈fs\/T=e\/Tr h e T\/h.get? T=none
 rcd: ∀T,Tr h' e T-> ∃o vs,h'.get? T=some o/\o.data= .fields vs
structure b84 (fs:List Addr)(e:Addr)(h h':Heap):Prop extends aA6 fs e h h' where
 dk:DK h h'
theorem bH1 {h base:Heap}{e:Addr}{cls a0 fl:Value}(t:h.TracedAtW base e cls a0 fl): ∃T,Tr h e T/\base.get? T=none/\T≠e/\ ∃o vs,h.get? T=some o/\o.data= .fields vs:=by
 obtain⟨oe,vs,T,oT,ts,he,_,hd,h1,hb,hne,hT,hdT,_⟩:=t;exact⟨T,⟨oe,vs,he,hd,h1⟩,hb,hne,oT,ts,hT,hdT⟩
theorem pL {h base B:Heap}{e T:Addr}{cls a0 fl:Value}(t:h.TracedAtW base e cls a0 fl)(x:Tr h e T)(hn:B.get? T=none):h.TracedAtW B e cls a0 fl:=by
 obtain⟨oe,vs,T',oT,ts,he,hc,hd,h1,hb,hne,hT,hdT,h3⟩:=t;obtain rfl:=x.one ⟨oe,vs,he,hd,h1⟩;exact⟨oe,vs,T,oT,ts,he,hc,hd,h1,hn,hne,hT,hdT,h3⟩
section
variable {base h:Heap}{l:List Env}{e T:Addr}{cls a0 fl:Value}
noncomputable def hid (h:Heap)(l:List Env)(e T:Addr):Heap:=PySem.W.hideAll h (frs l++[e,T])
theorem wI {b:Addr}(hb:b∈frs l\/b=e\/b=T):(hid h l e T).get? b=none:=PySem.W.hideAll_none _ (by
 rcases hb with z|z|z
 ·exact bS.mpr (.inl z)
 ·exact bS.mpr (.inr<|by simp[z])
 ·exact bS.mpr (.inr<|by simp[z]))
theorem aK5 {b:Addr}{o:Obj}(q:h.get? b=some o)(h1:b ∉ frs l)(h2:b≠e)(h3:b≠T):(hid h l e T).get? b=some o:=PySem.W.hideAll_get _ q (by
 intro z;rcases bS.mp z with z|z
 ·exact h1 z
 ·simp at z
  exact z.elim h2 h3)
theorem yO (f:h.FunFrames base l):h.FunFrames (hid h l e T) l:=PySem.W.funFrames_hide f λenv he b hb=>bS.mpr (.inl<|aE7.mpr ⟨env,he,hb⟩)
theorem a85 (st:base.StaysIn h)(f:h.FunFrames base l)(he:base.get? e=none)(hT:base.get? T=none):base.StaysIn (hid h l e T):=λb o q=>aK5 (st b o q) (λz=>by rw[(f.mem z).1]at q;cases q) (λz=>by rw[z,he]at q;cases q) λz=>by rw[z,hT]at q;cases q
theorem wJ {B h':Heap}(st:base.StaysIn B): ∀{l:List Env},h'.FunFrames B l->h'.FunFrames base l
 | [],_=>trivial
 | env::_,⟨hk,⟨L,o,hf,hn,ho,hd⟩,hr⟩=>⟨hk,⟨L,o,hf,(by
   cases q:base.get? L with
   | none=>rfl
   | some u=>have:=st L u q;rw[hn]at this;cases this),ho,hd⟩,wJ st hr⟩
theorem aX0 {B:Heap}(st:base.StaysIn B){b:Addr}(q:B.get? b=none):base.get? b=none:=by
 cases z:base.get? b with
 | none=>rfl
 | some u=>have:=st b u z;rw[q]at this;cases this
theorem bH2 {l':List Env}{h':Heap}(x:Tr h e T)(st:(hid h l e T).StaysIn h')(t:h'.TracedAtW (hid h l e T) e cls a0 fl)(up:h.UpToSlots h'):aA6 (frs l) e h h':=by
 refine⟨λb o q h1 h2 h3=>st b o (aK5 q h1 h2 λz=>h3 (by rw[z];exact x)),up,λT' x'=> ?_,λT' x'=> ?_⟩
 ·obtain⟨T2,y,hn,_,_⟩:=bH1 t;obtain rfl:=x'.one y
  by_cases c1:T'∈frs l
  ·exact .inl c1
  by_cases c2:T'=e
  ·exact .inr (.inl c2)
  by_cases c3:T'=T
  ·exact .inr (.inr<|.inl (by rw[c3];exact x))
  refine .inr (.inr<|.inr ?_)
  cases q:h.get? T' with
  | none=>rfl
  | some o=>rw[aK5 q c1 c2 c3]at hn;cases hn
 ·obtain⟨T2,y,_,_,z⟩:=bH1 t;obtain rfl:=x'.one y;exact z
end
section
variable {M:Model}{A:Around}{E:Value->Shared->Prop}{s:Shared}{base:Heap}{env:Env}{outer:List Env}{L e:Addr}{cls a0:Value}{Q:Unit->Shared->Prop}
theorem c18 (hfr:A.frames=some (env::outer))(hf:env.frame=some L)(F:FlyingW base (env::outer) e cls a0 s.heap)
  (hQ: ∀h',FlyingW base outer e cls a0 h'->aA6 (frs (env::outer)) e s.heap h'->Q () {s with heap:=h'}):wpAny M A (leaving env<|.ref e) Q E s:=by
 obtain⟨f1,f2,f3,f4⟩:=F;obtain⟨T,x,hT,_,_⟩:=bH1 (fl:= .none) f4;have stB:=a85 (T:=T) f1 f3 f2 hT;refine wpAny_leaves_onW (base:=hid s.heap (env::outer) e T) hfr hf ⟨λb o q=>sN _ q,wI<|.inr<|.inl rfl,yO f3,pL (fl:= .none) f4 x<|wI<|.inr<|.inr rfl⟩ λh' F' up=> ?_
 obtain⟨g1,g2,g3,g4⟩:=F';obtain⟨T',x',hT',_,_⟩:=bH1 (fl:= .none) g4;exact hQ h' ⟨λb o q=>g1 b o (stB b o q),f2,wJ stB g3,pL (fl:= .none) g4 x'<|aX0 stB hT'⟩ (bH2 (l':=outer) x g1 g4 up)
theorem cE2 (hfr:A.frames=some (env::outer))(hf:env.frame=some L)(F:FlyingW base (env::outer) e cls a0 s.heap)
  (hQ: ∀h',HeldW base (env::outer) e cls a0 L h'->aA6 (frs (env::outer)) e s.heap h'->Q () {s with heap:=h'}):wpAny M A (noteFrame (.ref e) env) Q E s:=by
 obtain⟨f1,f2,f3,f4⟩:=F;obtain⟨T,x,hT,_,_⟩:=bH1 (fl:= .none) f4;have stB:=a85 (T:=T) f1 f3 f2 hT;refine wpAny_looks_onW (base:=hid s.heap (env::outer) e T) hfr hf ⟨λb o q=>sN _ q,wI<|.inr<|.inl rfl,yO f3,pL (fl:= .none) f4 x<|wI<|.inr<|.inr rfl⟩ λh' F' up=> ?_
 obtain⟨g1,g2,g3,g4⟩:=F';obtain⟨T',x',hT',_,_⟩:=bH1 g4;exact hQ h' ⟨λb o q=>g1 b o (stB b o q),f2,wJ stB g3,pL g4 x'<|aX0 stB hT'⟩ (bH2 (l':=outer) x g1 g4 up)
theorem cE3 {l:List Env}{fl:Value}(F:base.StaysIn s.heap/\base.get? e=none/\s.heap.FunFrames base l/\s.heap.TracedAtW base e cls a0 fl)
  (hQ: ∀h',FlyingW base l e cls a0 h'->aA6 (frs l) e s.heap h'->Q () {s with heap:=h'}):wpAny M A (setFlight (.ref e) none) Q E s:=by
 obtain⟨f1,f2,f3,f4⟩:=F;obtain⟨T,x,hT,_,_⟩:=bH1 f4;have stB:=a85 (T:=T) f1 f3 f2 hT;refine wpAny_setFlight_noneW (base:=hid s.heap l e T) (λb o q=>sN _ q) (yO f3) (pL f4 x<|wI<|.inr<|.inr rfl) λh' g1 g3 g4 up=> ?_
 obtain⟨T',x',hT',_,_⟩:=bH1 (fl:= .none) g4;exact hQ h' ⟨λb o q=>g1 b o (stB b o q),f2,wJ stB g3,pL (fl:= .none) g4 x'<|aX0 stB hT'⟩ (bH2 (l':=l) (fl:= .none) x g1 g4 λb o q n=>⟨o.slots,up b o q n⟩)
theorem bH3 {oe:Obj}{vs:Array Value}(hfr:A.frames=some (env::outer))(hl:s.heap.FunFrames base (env::outer))(hf:env.frame=some L)(he:s.heap.get? e=some oe)(hkb:base.StaysIn s.heap)(hen:base.get? e=none)(hd:oe.data= .fields vs)(h1:vs[1]? =some .none)(h0:vs[0]? =some a0)
  (hQ: ∀h',FlyingW base outer e oe.cls a0 h'->aA6 (frs (env::outer)) e s.heap h'->Q () {s with heap:=h'}):wpAny M A (leaving env<|.ref e) Q E s:=by
 have stB:=a85 (e:=e) (T:=e) hkb hl hen hen;have nt: ∀T,¬Tr s.heap e T:=by
  rintro T ⟨o,ws,k1,k2,k3⟩;rw[he]at k1;cases k1;rw[hd]at k2;cases k2;rw[h1]at k3;cases k3
 refine wpAny_leaving_firstW (base:=hid s.heap (env::outer) e e) hfr (yO hl) hf he (λb o q=>sN _ q) (wI<|.inr<|.inl rfl) hd h1 h0 λh' F'=> ?_
 obtain⟨g1,⟨_,_,g3⟩,g4,up⟩:=F';obtain⟨T',x',hT',hne,hrec⟩:=bH1 (fl:= .none) g4;refine hQ h' ⟨λb o q=>g1 b o (stB b o q),hen,wJ stB g3,pL (fl:= .none) g4 x'<|aX0 stB hT'⟩ ⟨λb o q k1 k2 _=>g1 b o (aK5 q k1 k2 k2),up,λT x2=> ?_,λT x2=> ?_⟩
 ·obtain rfl:=x2.one x'
  by_cases c1:T∈frs (env::outer)
  ·exact .inl c1
  refine .inr (.inr<|.inr ?_)
  cases q:s.heap.get? T with
  | none=>rfl
  | some o=>rw[aK5 q c1 hne hne]at hT';cases hT'
 ·obtain rfl:=x2.one x';exact hrec
theorem cE4 (hfr:A.frames=some (env::outer))(hf:env.frame=some L)(F:FlyingW base (env::outer) e cls a0 s.heap)
  (hQ: ∀h',FlyingW base outer e cls a0 h'->b84 (frs (env::outer)) e s.heap h'->Q () {s with heap:=h'}):wpAny M A (leaving env<|.ref e) Q E s:=
 bD (yM (aK4 env<|.ref e)<|c18 (Q:=λ_ s'=> ∃h',s'={s with heap:=h'}/\FlyingW base outer e cls a0 h'/\aA6 (frs (env::outer)) e s.heap h') hfr hf F λh' a b=>⟨h',rfl,a,b⟩) (λ_ s' ⟨⟨h',q,a,b⟩,dk⟩=>by subst q;exact hQ h' a ⟨b,dk⟩) λ_ _ z=>z.1
theorem cP2 (hfr:A.frames=some (env::outer))(hf:env.frame=some L)(F:FlyingW base (env::outer) e cls a0 s.heap)
  (hQ: ∀h',HeldW base (env::outer) e cls a0 L h'->b84 (frs (env::outer)) e s.heap h'->Q () {s with heap:=h'}):wpAny M A (noteFrame (.ref e) env) Q E s:=
 bD (yM (bD5 (.ref e) env)<|cE2 (Q:=λ_ s'=> ∃h',s'={s with heap:=h'}/\HeldW base (env::outer) e cls a0 L h'/\aA6 (frs (env::outer)) e s.heap h') hfr hf F λh' a b=>⟨h',rfl,a,b⟩) (λ_ s' ⟨⟨h',q,a,b⟩,dk⟩=>by subst q;exact hQ h' a ⟨b,dk⟩) λ_ _ z=>z.1
theorem bQ3 {l:List Env}{fl:Value}(F:base.StaysIn s.heap/\base.get? e=none/\s.heap.FunFrames base l/\s.heap.TracedAtW base e cls a0 fl)
  (hQ: ∀h',FlyingW base l e cls a0 h'->b84 (frs l) e s.heap h'->Q () {s with heap:=h'}):wpAny M A (setFlight (.ref e) none) Q E s:=
 bD (yM (a28 (.ref e) none)<|cE3 (Q:=λ_ s'=> ∃h',s'={s with heap:=h'}/\FlyingW base l e cls a0 h'/\aA6 (frs l) e s.heap h') F λh' a b=>⟨h',rfl,a,b⟩) (λ_ s' ⟨⟨h',q,a,b⟩,dk⟩=>by subst q;exact hQ h' a ⟨b,dk⟩) λ_ _ z=>z.1
theorem bQ4 {oe:Obj}{vs:Array Value}(hfr:A.frames=some (env::outer))(hl:s.heap.FunFrames base (env::outer))(hf:env.frame=some L)(he:s.heap.get? e=some oe)(hkb:base.StaysIn s.heap)(hen:base.get? e=none)(hd:oe.data= .fields vs)(h1:vs[1]? =some .none)(h0:vs[0]? =some a0)
  (hQ: ∀h',FlyingW base outer e oe.cls a0 h'->b84 (frs (env::outer)) e s.heap h'->Q () {s with heap:=h'}):wpAny M A (leaving env<|.ref e) Q E s:=
 bD (yM (aK4 env<|.ref e)<|bH3 (Q:=λ_ s'=> ∃h',s'={s with heap:=h'}/\FlyingW base outer e oe.cls a0 h'/\aA6 (frs (env::outer)) e s.heap h') hfr hl hf he hkb hen hd h1 h0 λh' a b=>⟨h',rfl,a,b⟩) (λ_ s' ⟨⟨h',q,a,b⟩,dk⟩=>by subst q;exact hQ h' a ⟨b,dk⟩) λ_ _ z=>z.1
end
structure Fly (base:Heap)(l:List Env)(e C:Addr)(H:Hp)(h:Heap):Prop where
 fl: ∃a0,FlyingW base l e (.ref C) a0 h
 he:H e=none
 ht: ∀T,Tr h e T->H T=none
structure bD6 (g:Heap)(e:Addr)(h:Heap):Prop where
 he:g.get? e=none
 ht: ∀T,Tr h e T->g.get? T=none
def XAt (h:Heap)(a:Addr)(o:Option Addr):Prop:= ∀d,o=some d-> ∃oe,h.get? a=some oe/\oe.dict=some d
theorem XAt.dk {h h':Heap}{a:Addr}{o:Option Addr}(x:XAt h a o)(k:DK h h'):XAt h' a o:=λd q=>by
 obtain⟨oe,e1,e2⟩:=x d q;obtain⟨o',e3,e4⟩:=k a oe e1;exact⟨o',e3,e4.trans e2⟩
noncomputable def CXr (P:Program)(w:World)(base:Heap):CXT:=λouter H s E e s'=> ∃a C o H',e= .ref a/\s'.os=s.os/\AllBare s'.gens/\Un (frs outer) [] H H' s.heap s'.heap/\HOk P w H' s'.heap/\Fly base outer a C H' s'.heap/\bD6 s.heap a s'.heap/\XAt s'.heap a o/\E (.ref C) o H'
section
variable {P:Program}{w:World}{H H0:Hp}{h h':Heap}{fs:List Addr}{e:Addr}
theorem HOk.past (x:HOk P w H h)(p:b84 fs e h h')(hf: ∀b∈fs,H b=none)(he:H e=none)(ht: ∀T,Tr h e T->H T=none):HOk P w H h':=λa o q=>
 (x a o q).stay (λb u hb r=>by
  have tracked:H b≠none:=by
   rcases hb with rfl|hb
   ·rw[q];simp
   ·rw[hb];simp
  exact p.keep b u r (λz=>tracked (hf b z)) (λz=>tracked (by rw[z];exact he)) λz=>tracked (ht b z)) (λ_ q=>q) λ_ _ q=>q
theorem HOk.there (x:HOk P w H h){b:Addr}(n:h.get? b=none):H b=none:=by
 cases q:H b with
 | none=>rfl
 | some o=>
  exfalso
  have hh: ∃ob,h.get? b=some ob:=by
   have y:=x b o q;cases o with
   | lst xs=>obtain⟨_,_,_,_,e⟩:=y;exact⟨_,e⟩
   | tup xs=>obtain⟨_,_,_,ob,e,_⟩:=y;exact⟨_,e⟩
   | dK kvs=>obtain⟨_,_,_,_,o,_,_,e,_⟩:=y;exact⟨_,e⟩
   | dT kvs=>obtain⟨_,_,_,_,o,_,_,e,_⟩:=y;exact⟨_,e⟩
   | set S n=>obtain⟨o,_,_,_,e,_⟩:=y;exact⟨_,e⟩
   | ins C dx fs=>obtain⟨_,_,_,e,_⟩:=y;exact⟨_,e⟩
   | own y'=>exact y
   | xd fs=>obtain⟨_,⟨_,_,_,e,_⟩,_⟩:=y;exact⟨_,e⟩
   | rng lo hi=>obtain⟨_,_,_,e⟩:=y;exact⟨_,e⟩
   | frz ob u=>obtain⟨e,_⟩:=y;exact⟨_,e⟩
   | tbl ps=>exact⟨_,(show h.get? b=some _ from y)⟩
   | met f y'=>exact⟨_,(show h.get? b=some _ from y)⟩
   | ext φ=>obtain⟨_,e,_⟩:=y;exact e
  obtain⟨ob,e⟩:=hh;rw[n]at e;cases e
theorem aX1 (x:HOk P w H h)(p:b84 fs e h h')(hf: ∀b∈fs,H b=none)(he:H e=none)(ht: ∀T,Tr h e T->H T=none): ∀T,Tr h' e T->H T=none:=λT q=>by
 rcases p.tr T q with z|z|z|z
 ·exact hf T z
 ·rw[z];exact he
 ·exact ht T z
 ·exact x.there z
end
section
variable {X:Cx}{pins:List (Addr×Obj)}{σ:St}{H:Hp}{s:Shared}{h':Heap}{e:Addr}
theorem Un.past {fs fs':List Addr}{H0:Hp}{g:Heap}{L:Addr}(u:Un fs [] H0 H g s.heap)(p:b84 fs' e s.heap h')(hfs: ∀b∈fs',b=L\/b∈fs)(hL:g.get? L=none)(ne:g.get? e=none)(nt: ∀T,Tr s.heap e T->g.get? T=none)(hd: ∀b∈fs,∀o,s.heap.get? b=some o-> ∀vs,o.data≠ .fields vs):Un fs [] H0 H g h' where
 keep:=λb o q n hb hx=>p.keep b o (u.keep b o q n hb hx) (λz=>by
  rcases hfs b z with z|z
  ·rw[z,hL]at q;cases q
  ·exact hb z) (λz=>by rw[z,ne]at q;cases q) λz=>by rw[nt b z]at q;cases q
 slot:=λb o q n hb hx=>by
  obtain⟨sl,e1⟩:=u.slot b o q n hb hx;obtain⟨sl',e2⟩:=p.slot b _ e1 (hd b hb _ e1);exact⟨sl',e2⟩
 free:=u.free
 there:=λb o q hx=>by
  obtain⟨o',e1⟩:=u.there b o q hx
  by_cases c:b∈fs
  ·obtain⟨sl,e2⟩:=p.slot b _ e1 (hd b c _ e1);exact⟨_,e2⟩
  ·exact⟨o',p.keep b o' e1 (λz=>by
    rcases hfs b z with z|z
    ·rw[z,hL]at q;cases q
    ·exact c z) (λz=>by rw[z,ne]at q;cases q) λz=>by rw[nt b z]at q;cases q⟩
 tups:=u.tups
 frzs:=u.frzs
 tbls:=u.tbls
end
section
variable {P:Program}{w:World}{K:Frag}{mg:Str->Option Value}{base:Heap}{N:List Str}{qual:Str}{scope:Scope}{f:Addr}{cd:Value}{A:Around}{outer:List Env}{s0:Shared}{H0:Hp}{E:XK}{CX:CXT}
theorem cP3 {pins:List (Addr×Obj)}{σ:St}{H:Hp}{s':Shared}{a C:Addr}{o:Option Addr}(I:Inv (qV (CXr P w base) P w K mg base N qual scope f cd A outer s0 H0 E) pins σ H s')(F:Fly base (envOfC qual scope s0.heap.objs.size f cd::outer) a C H s'.heap)(nw:bD6 s0.heap a s'.heap)(xa:XAt s'.heap a o)(hE:E (.ref C) o H) :
  (qV (CXr P w base) P w K mg base N qual scope f cd A outer s0 H0 E).xe (.ref a) s':=by
 obtain⟨⟨a0,fl⟩,he,ht⟩:=F;have fr:(A.deeper<|envOfC qual scope s0.heap.objs.size f cd).frames=some (envOfC qual scope s0.heap.objs.size f cd::outer):=I.ok.frames;have sf: ∀b∈frs (envOfC qual scope s0.heap.objs.size f cd::outer),H b=none:=I.stkFree;have fm: ∀b∈frs (envOfC qual scope s0.heap.objs.size f cd::outer),b=s0.heap.objs.size\/b∈frs outer:=λb hb=>by
  unfold frs at hb⊢;rw[jH]at hb;have e:(envOfC qual scope s0.heap.objs.size f cd).frame=some s0.heap.objs.size:=rfl;rw[e]at hb;exact aS.mp hb
 show wpAny _ _ (leaving _<|.ref a) _ _ s'
 refine cE4 fr (L:=s0.heap.objs.size) rfl fl λh' fl' p=> ?_
 have hd: ∀b∈frs outer,∀o,s'.heap.get? b=some o-> ∀vs,o.data≠ .fields vs:=λb hb o q=>by
  obtain⟨_,o',q',n⟩:=fl.2.2.1.mem (b:=b) (by
   unfold frs at hb;rw[jH];have e:(envOfC qual scope s0.heap.objs.size f cd).frame=some s0.heap.objs.size:=rfl;rw[e];exact aS.mpr (.inr hb))
  rw[q]at q';cases q';exact n
 have un:Un (frs outer) [] H0 H s0.heap h':=I.base.past p fm (kM<|aB _) nw.he nw.ht hd;refine⟨a,C,o,H,rfl,I.os,I.bare,un,I.hok.past p sf he ht,⟨⟨a0,fl'⟩,he,aX1 I.hok p sf he ht⟩,⟨nw.he,λT q=> ?_⟩,xa.dk p.dk,hE⟩
 rcases p.tr T q with z|z|z|z
 ·rcases fm T z with z|z
  ·rw[z];exact kM (aB _)
  ·exfalso
   obtain⟨o,vs,q1,q2⟩:=p.rcd T q;obtain⟨_,o',q',n⟩:=fl'.2.2.1.mem (b:=T) z;rw[q1]at q';cases q';exact n vs q2
 ·rw[z];exact nw.he
 ·exact nw.ht T z
 ·cases r:s0.heap.get? T with
  | none=>rfl
  | some o=>
   obtain⟨o',q'⟩:=I.base.there T o r (show T ∉ ([]:List Addr)by simp)
   rw[z]at q';cases q'
theorem d97:v6 (CXr P w base) (qV (CXr P w base) P w K mg base N qual scope f cd A outer s0 H0 E) E:=by
 rintro pins σ H s e s' I ⟨a,C,o,H',rfl,ho,hb,un,hok,F,nw,xa,hE⟩;have I':=I.call' (s':=s') ho un hok hb (λb z=>absurd z ae)
 refine cP3 I' F ⟨?_,λT q=> ?_⟩ xa hE
 ·cases r:s0.heap.get? a with
  | none=>rfl
  | some o=>
   obtain⟨o',q'⟩:=I.base.there a o r (show a ∉ ([]:List Addr)by simp)
   rw[nw.he]at q';cases q'
 ·have:=nw.ht T q;cases r:s0.heap.get? T with
  | none=>rfl
  | some o=>
   obtain⟨o',q'⟩:=I.base.there T o r (show T ∉ ([]:List Addr)by simp)
   rw[this]at q';cases q'
end
structure XCls (h:Heap)(C:Addr)(bmB bm:List Value)(newId:String):Prop where
 ex: ∃(nm q:Str) (N:Addr) (bs:List Value) (hd:Bool) (sn:List Str) (sub:List Value) (ab:Bool) (col:Option Bool) (dd:Option Addr) (k0 k1 k2 k3 k5:Option Value) (mN:Str->Option Value),
  h.get? C=some (excClassObj nm q C N bs bm hd sn sub ab col dd k0 k1 k2 k3 k5 newId)/\h.Ns N mN/\mN "__init__"=none
 tl:OwnTail h bmB bm
theorem bH4 {K:Frag}{h:Heap}{C:Addr}{bmB:List Value}{newId:String}(X:K.In h)(q:excIn K C bmB newId=true): ∃bm,XCls h C bmB bm newId:=by
 unfold excIn at q;split at q
 ·rename_i od ck slots look
  split at q
  ·rename_i C2 tail a0 a1 a2 a3 nid a5 em es
   simp only[dN,fW,aF5]at q;obtain⟨⟨⟨⟨⟨rfl,rfl⟩,nodel⟩,tk⟩,nk⟩,ni⟩:=q;obtain⟨c1,c2,c3,c4,c5,c6,c7,c8,c9,c10,c11⟩:=ck;dsimp only at em nodel nk ni;subst em nodel;obtain⟨sll⟩:=slots;simp only at es;subst es;exact⟨tail,⟨⟨_,_,_,_,_,_,_,_,_,_,_,_,_,_,_,_,X _ _ look,.of_isNs<|PySem.W.isNs_of_in X nk,PySem.W.nsMap_none_of_in X nk ni⟩,PySem.W.tail_of_in X tk⟩⟩
  ·cases q
 ·cases q
section
variable {X:Cx}{E:XK}{C:Addr}
def b09 (X:Cx)(E:XK)(C:Addr):Prop:= ∀(pins:List (Addr×Obj)) (σ:St) (H:Hp) (s:Shared) (a:Addr) (oe:Obj) (vs:Array Value) (a0:Value) (o:Option Addr),Inv X pins σ H s->s.heap.get? a=some oe->oe.cls= .ref C->oe.data= .fields vs->vs[0]? =some a0->vs[1]? =some .none->H a=none->X.s₀.heap.get? a=none->XAt s.heap a o->E (.ref C) o H->X.xe (.ref a) s
theorem c19 {P:Program}{w:World}{K:Frag}{mg:Str->Option Value}{base:Heap}{N:List Str}{qual:Str}{scope:Scope}{f:Addr}{cd:Value}{A:Around}{outer:List Env}{s0:Shared}{H0:Hp} :
  b09 (qV (CXr P w base) P w K mg base N qual scope f cd A outer s0 H0 E) E C:=by
 intro pins σ H s a oe vs a0 o I he hc hd h0 h1 nH n0 xa hE;have fr:(A.deeper<|envOfC qual scope s0.heap.objs.size f cd).frames=some (envOfC qual scope s0.heap.objs.size f cd::outer):=I.ok.frames;have sf: ∀b∈frs (envOfC qual scope s0.heap.objs.size f cd::outer),H b=none:=I.stkFree;have fl0:s.heap.FunFrames base (envOfC qual scope s0.heap.objs.size f cd::outer):=I.stack
 have fe:(envOfC qual scope s0.heap.objs.size f cd).frame=some s0.heap.objs.size:=rfl;have fm: ∀b∈frs (envOfC qual scope s0.heap.objs.size f cd::outer),b=s0.heap.objs.size\/b∈frs outer:=λb hb=>by
  unfold frs at hb⊢;rw[jH,fe]at hb;exact aS.mp hb
 have nt: ∀T,¬Tr s.heap a T:=by
  rintro T ⟨o,ws,k1,k2,k3⟩;rw[he]at k1;cases k1;rw[hd]at k2;cases k2;rw[h1]at k3;cases k3
 have nb:base.get? a=none:=by
  cases q:base.get? a with
  | none=>rfl
  | some o=>rw[(I.ok.bs a o q).1]at n0;cases n0
 have st:base.StaysIn s.heap:=I.bk;show wpAny _ _ (leaving _<|.ref a) _ _ s;refine bQ4 fr fl0 (L:=s0.heap.objs.size) rfl he st nb hd h1 h0 λh' fl' p=> ?_
 rw[hc]at fl';have hdf: ∀b∈frs outer,∀o,s.heap.get? b=some o-> ∀vs,o.data≠ .fields vs:=λb hb o q=>by
  obtain⟨_,o',q',n⟩:=fl0.mem (b:=b) (by
   unfold frs at hb;rw[jH,fe];exact aS.mpr (.inr hb))
  rw[q]at q';cases q';exact n
 have un:Un (frs outer) [] H0 H s0.heap h':=I.base.past p fm (kM<|aB _) n0 (λT q=>absurd q (nt T)) hdf
 have ht: ∀T,Tr s.heap a T->H T=none:=λT q=>absurd q (nt T)
 refine⟨a,C,o,H,rfl,I.os,I.bare,un,I.hok.past p sf nH ht,⟨⟨a0,fl'⟩,nH,aX1 I.hok p sf nH ht⟩,⟨n0,λT q=> ?_⟩,xa.dk p.dk,hE⟩
 rcases p.tr T q with z|z|z|z
 ·rcases fm T z with z|z
  ·rw[z];exact kM (aB _)
  ·exfalso
   obtain⟨o,ws,q1,q2⟩:=p.rcd T q;obtain⟨_,o',q',n⟩:=fl'.2.2.1.mem (b:=T) z;rw[q1]at q';cases q';exact n ws q2
 ·rw[z];exact n0
 ·exact absurd z (nt T)
 ·cases r:s0.heap.get? T with
  | none=>rfl
  | some o=>
   obtain⟨o',q'⟩:=I.base.there T o r (show T ∉ ([]:List Addr)by simp)
   rw[z]at q';cases q'
def cP4 (C:Addr)(E:XK)(ta:TA):TS:=λ_ σ H=>ta σ H λvs H1=>vs.length<=sizeLine/\E (.ref C) none H1
theorem cP5 {x:Str}{np cpos pos:Pos}{e:Expr}{es:List Expr}{ta:TA}{B newId initId:String}{bmB:List Value}(FB:ExcBaseFacts B newId initId bmB)(q:excIn X.K C bmB newId=true)(hg:Gl X x)(hm:X.mg x=some (.ref C))(hc:X.calm=true)(ha:PA X (e::es) ta)(th:b09 X E C)
  (he:starEach (e::es) X.env=(false,eval e X.env)::starEach es X.env:=by rfl) (hpl:(backTo cpos<|starEach es X.env).any (·.1)=false:=by rfl) (hd:(x==("__debug__":Str))=false:=by decide) (hex:X.ex=[]:=by rfl) :
  PS X (.Raise (some<|.Call (.Name x np) (e::es) [] cpos) none pos) (cP4 C E ta):=by
 intro pins s σ H D I h;obtain⟨bm,⟨⟨nm,qn,N,bs,hdd,sn,sub,ab,col,dd,k0,k1,k2,k3,k5,mN,hC,hN,hni⟩,tl⟩⟩:=bH4 I.mod.kin q;have keepS: ∀{pins:List (Addr×Obj)} {σ:St} {H:Hp} {s2:Shared},Inv X pins σ H s2-> ∀b o,X.base.get? b=some o->s2.heap.get? b=some o:=λJ=>J.bk
 refine wpAny_Raise_call_subT (C:=C) (nm:=nm) (q:=qn) (N:=N) (bs:=bs) (bm:=bm) (hdct:=hdd) (sn:=sn) (sub:=sub) (ab:=ab) (col:=col) (dd:=dd) (k0:=k0) (k1:=k1) (k2:=k2) (k3:=k3) (k5:=k5) FB (mN:=mN) (tl.hasType FB.hasBase) (I.ok.hd hc) ?_ hni (uL I hg hm ⟨rfl,?_⟩ hd)
 ·rw[he];show(false||(backTo cpos<|starEach es X.env).any (·.1))=false;rw[hpl];rfl
 ·have hh:=ha cpos pins s σ H _ I h;rw[he]at hh⊢;refine aD9 (bD hh (λus s2 ⟨vs,H1,I1,r1,q1⟩=>⟨rfl,by rw[<-r1.length];exact q1.1,keepS I1 _ _ hC,hN.keeps<|keepS I1,tl.keeps<|keepS I1,λh' a mk=> ?_⟩) λ_ _ y=>y)
  obtain⟨t,m1,m2,m3⟩:=mk.there;have I2:Inv X pins σ H1 {s2 with heap:=h'}:=I1.kept mk.keeps;refine th pins σ H1 _ a _ _ (.ref t) none I2 m1 rfl rfl rfl rfl (I1.hok.there mk.new) ?_ (λd z=>by cases z) q1.2
  cases r:X.s₀.heap.get? a with
  | none=>rfl
  | some o=>
   obtain⟨o',q'⟩:=I1.base.there a o r (by rw[hex];simp)
   rw[mk.new]at q';cases q'
end
section
variable {prog:Program}{w:World}{A:Around}{E:Value->Shared->Prop}{hp:Heap}{gn:Array GenState}{dr:Drawn}{tn:Nat}{os:OsState}
variable {nm qn:Str}{C N:Addr}{bs bm bmB:List Value}{hdd:Bool}{sn:List Str}{sub:List Value}{ab:Bool}{col:Option Bool}{dd:Option Addr}{k0 k1 k2 k3 k5:Option Value}{B newId initId:String}
theorem c20 (F:ExcBaseFacts B newId initId bmB)(T:OwnTail hp bmB bm){mN:Str->Option Value}{us:List Value}{fI:Addr}{oI:Obj}{Q:Fin->Shared->Prop}
  (hC:hp.get? C=some (excClassObj nm qn C N bs bm hdd sn sub ab col dd k0 k1 k2 k3 k5 newId)) (hN:hp.Ns N mN) (hini:mN "__init__"=some (.ref fI)) (hfun:hp.get? fI=some oI) (hcls:oI.cls= .type "function")
  (hgo: ∀h' e,MadeExcOf hp h' e (.ref C) us->wpAny (model prog w) A (call (.ref fI) (.ref e::us)) (λr s'=>r= .none/\Q (.done<|.ret<|.ref e) s') E ⟨h',gn,dr,tn,os⟩) (hus:us.length<=sizeLine) :
  wpAny (model prog w) A (Builtin.«type.__call__» ⟨.ref C::us,[]⟩) Q E ⟨hp,gn,dr,tn,os⟩:=by
 repeat (first
  | with_reducible refine mS hC ?_
  | with_reducible refine wpAny_madeBy_exc hC ?_
  | wp_step)
 refine codeAny_call_builtin_code (Code.quiet_builtin _ F.quiet) (wpAny_check_new_subT F T hC ?_)
 refine codeAny_exc_new_subT F T hC ?_ hus
 show wpAny _ _ _ _ _ _
 generalize ea:({cls:= .type "tuple",data:= .seq us.toArray}:Obj)=oa;generalize eb:({cls:= .ref C,data:= .fields #[.ref hp.objs.size,.none,.none,.none,.bool false,.none]}:Obj)=ob;have up: ∀b o,hp.get? b=some o->((hp.push oa).push ob).get? b=some o:=λb o q=>aM _ (aM _ q)
 have g1:=up _ _ hC;have g2:=up _ _ hfun;have g3:=hN.keeps up;have g4:((hp.push oa).push ob).get? (hp.objs.size+1)=some ob:=by
  subst ea eb
  heap_get
 have g5:((hp.push oa).push ob).get? hp.objs.size=some oa:=by
  subst ea;exact aM _ (Heap.get?_push_at rfl rfl)
 have g6:=T.keeps up;have me:(Value.ref C::bm).contains (.ref C)=true:=ae
 have ec:ob.cls= .ref C:=by rw[<-eb]
 unfold isInstance
 repeat (first
  | (with_reducible refine mS g4 ?_;rw[ec])
  | (with_reducible refine xI g1 ?_;rw[me])
  | wp_step)
 show wpAny _ _ (typeLookup (.ref C) _) _ _ _
 refine wpAny_typeLookup_tail g1 g3 g6 F.mroIs F.init.lookup ?_
 rw[hini];refine iV (a8 ?_);unfold bindSpecial;refine a8 (xX (T:="function") ⟨_,g2,hcls⟩ ?_);rw[a7 ac]
 have mk:MadeExcOf hp ((hp.push oa).push ob) (hp.objs.size+1) (.ref C) us:=⟨up,kM<|tD _,hp.objs.size,by rw[g4,<-eb],kM<|aB _,by rw[g5,<-ea]⟩
 refine aG (a8<|bD (hgo _ _ mk) (λr s' z=> ?_) λ_ _ z=>z)
 obtain⟨rfl,z⟩:=z
 wp_walk
 exact z
theorem xcall (F:ExcBaseFacts B newId initId bmB)(T:OwnTail hp bmB bm){mN:Str->Option Value}{us:List Value}{fI:Addr}{oI:Obj}{Q:Value->Shared->Prop}
  (hC:hp.get? C=some (excClassObj nm qn C N bs bm hdd sn sub ab col dd k0 k1 k2 k3 k5 newId)) (hN:hp.Ns N mN) (hini:mN "__init__"=some (.ref fI)) (hfun:hp.get? fI=some oI) (hcls:oI.cls= .type "function")
  (hgo: ∀h' e,MadeExcOf hp h' e (.ref C) us->wpAny (model prog w) (A.under<|.builtin "type.__call__" ⟨.ref C::us,[]⟩) (call (.ref fI) (.ref e::us)) (λr s'=>r= .none/\Q (.ref e) s') E ⟨h',gn,dr,tn,os⟩) (hus:us.length<=sizeLine) :
  wpAny (model prog w) A (call (.ref C) us) Q E ⟨hp,gn,dr,tn,os⟩:=by
 have t1:=tc_lookup;have t2:=tc_bind (.ref C);have t3:(⟨hp,gn,dr,tn,os⟩:Shared).TypeIs (.ref C) "type":=⟨_,hC,rfl⟩;refine tE (codeAny_of_tree ?_);show wpAny _ _ (callAny (.ref C) _) _ _ _
 repeat (any_goals (first
  | assumption
  | with_reducible refine mS hC ?_
  | wp_step))
 refine⟨rfl,?_⟩
 exact codeAny_call_builtin_at (Code.quiet_builtin _ af) entry_typeCall (wpAny_check_type_call_sub hC<|c20 F T hC hN hini hfun hcls (λh' e mk=>hgo h' e mk) hus)
end
end L2
end
section
namespace L2
open PySem PySem.Spec PyProof.Rows
open Builtin Builtin.ObjectAttr
noncomputable def veMro:List Value:=[.type "ValueError",.type "Exception",.type "BaseException",.type "object"]
noncomputable def tP:List Value->Bool
 | []=>false
 | v::r=>(v::r)==veMro||match v with
  | .ref _=>tP r
  | _=>false
theorem aS8 (self:Value): ∀{l:List Value},tP l=true->refuseLoop self "__setattr__" l=pure ()
 | v::r,e=>by
  unfold tP at e;rcases Bool.or_eq_true_iff.mp e with q|q
  ·rw[fW.mp q];exact PySem.F.store_ValueError.passes self
  ·split at q
   ·rw[refuseLoop_ref];exact aS8 self q
   ·cases q
theorem b10: ∀{l:List Value},tP l=true->l.contains (.type "object")=true/\l.isEmpty=false
 | v::r,e=>by
  refine⟨?_,rfl⟩
  unfold tP at e;rcases Bool.or_eq_true_iff.mp e with q|q
  ·rw[fW.mp q];decide
  ·split at q
   ·rw[aF0,(b10 q).1,Bool.or_true]
   ·cases q
section
variable {K:Frag}{prog:Program}{w:World}{A:Around}{E:Value->Shared->Prop}{s:Shared}{x C:Addr}{mA:Str->Option Value}{ns:List Str}{name:Str}{v:Value}{cd:ClassData}
theorem xosa {R:Result->Shared->Prop}{tk:Tok}(X:K.In s.heap)(hc:clsIn K C=some cd)(hm:tP cd.mro=true)(hdct:cd.hasDict=true)(ht:findIn K (.ref C) name=some none)
  (I:s.heap.Inst x C mA) (hw:Within mA ns) (hsz:ns.length<=100) {od:Option Obj} {o:Obj} (hx:s.heap.get? x=some o) (J:InstAt s.heap x o C od)
  (hq: ∀h' tk,h'.Inst x C (λy=>if y=name then some v else mA y)->(∀b o,b≠x->(∀o0 dx,s.heap.get? x=some o0->o0.dict=some dx->b≠dx)->s.heap.get? b=some o->h'.get? b=some o)->
   (∀o0,s.heap.get? x=some o0-> ∃o1,h'.get? x=some o1/\o1.cls=o0.cls/\o1.data=o0.data/\ ∀dx,o1.dict=some dx->o0.dict=some dx\/(s.heap.objs.size<=dx))->R (.ok<|.ret .none) {s with heap:=h',toks:=tk}) :
  codeAny (model prog w) A (.call (.builtin "object.__setattr__") ⟨[.ref x,.str name tk,v],[]⟩) R s:=by
 have SF:=PySem.F.store_ValueError;have sub:PySem.W.Looks (model prog w) s.heap (isInstance (.ref x)<|.type "object") true:=J.type.andThen (PySem.W.looks_mroIn X (by unfold PySem.W.mroIn;rw[hc,bind_some,a6 (by rw[(b10 hm).2];decide),(b10 hm).1]))
 refine codeAny_call_builtin SF.slot.plain SF.entry (@PySem.W.check_slot (model prog w) _ _ s "object.__setattr__" "object" "__setattr__" (.ref x) [.str name tk,v] [] _ SF.kind SF.split sub (SF.args (.ref x) (.str name tk) v) ?_)
 have hmr:PySem.W.Looks (model prog w) s.heap (mroOf<|.ref C) cd.mro:=(aE4 X hc).andThen .now;rw[PySem.W.osa_eq,refuse_eq];refine a8 (a8<|J.type.here<|a8<|hmr.here ?_);rw[aS8 _ hm];refine aG (a8<|J.type.here<|a8<|(PySem.W.looks_findIn X ht).here<|a8<|aG ?_);have lc:=aE4 (M:=model prog w) X hc;obtain⟨o',hx',hcl,hnc,hdd⟩:=I;rw[hx]at hx';cases hx';refine a8 (aG ?_);refine a8 ?_
 show wpAny _ _ (instanceDict x true) _ _ s
 unfold instanceDict;refine a8 (wpAny_loadPart hx ?_);rw[hcl];dsimp only;refine a8 (lc.here ?_);rw[hdct];rw[a6 ac]
 clear sub hmr lc;obtain⟨hp,gn,dr,tn,os⟩:=s;dsimp only at *;have put: ∀(h1:Heap) (dx:Addr) (o1:Obj),h1.get? x=some o1->o1.cls= .ref C->(∀c,o1.data≠ .cls c)->o1.dict=some dx->dx≠x->h1.Ns1 dx mA->o1.data=o.data->(∀b ob,b≠x->hp.get? b=some ob->h1.get? b=some ob)->(o.dict=some dx\/hp.objs.size<=dx)->
   wpAny (model prog w) A.in1 (storeInDict dx (.str name tk) name v) (λfin s'=>match fin with| .done f=>R (.ok f) s'| .again c'=>c'.quiet=true/\codeAny (model prog w) A c' R s') (λe s'=>R (.error e) s') ⟨h1,gn,dr,tn,os⟩:=by
  intro h1 dx o1 g1 g2 g3 g4 g5 g6 g7 g8 g9;unfold storeInDict newKeyGuard;refine a8 (aG<|a8<|wpAny_nsSet1 g6 λh' n' sb=> ?_)
  obtain⟨oD,eD,pD,q1,q2,q3⟩:=n'.count (Within.cons name v hw);have few:eD.size<=sizeLine:=by
   refine aT q3 ?_
   rw[gJ,sizeLine_eq]
   lia
  refine a8 (wpAny_lookBehind q1 (by rw[q2];exact pastItsLine_dict (xK few)) ?_)
  have gx:h'.get? x=some o1:=(sb.2 x<|Ne.symm g5).trans g1;refine aG (hq h' _ ⟨o1,gx,g2,g3,.inr ⟨dx,g4,g5,n'⟩⟩ (λb ob k1 k2 k3=> ?_) λo0 k1=> ?_)
  ·have nb:b≠dx:=by
    rcases g9 with z|z
    ·exact k2 o dx hx z
    ·intro q;have:=aN k3;rw[q]at this;exact absurd (b9 this z) (cZ _)
   exact(sb.2 b nb).trans (g8 b ob k1 k3)
  ·rw[hx]at k1;cases k1;exact⟨o1,gx,by rw[g2,hcl],g7,λdx' z=>by rw[g4]at z;cases z;exact g9⟩
 rcases hdd with⟨hn,hmA⟩| ⟨dx,hdx,hne,hns⟩
 ·rw[hn];dsimp only;rw[a6<|by simp[typeHasDict]]
  have ex: ∀d':Data,d'=o.data->wpAny (model prog w) A.in1 (match d' with
     | .cls c=>pure none
     | _=>do
      let d<-alloc {cls:=Value.type "dict",data:=Data.dict #[]}
      update x λo=>{cls:=o.cls,dict:=some d,data:=o.data,slots:=o.slots}
      dictMade (Value.ref C) x d) (λa s'=>wpAny (model prog w) A.in1 (match a with|some d=>storeInDict d (.str name tk) name v|none=>noDictFor (.ref x) (.ref C) name (none:Option Value).isSome) (λfin s'=>match fin with| .done f=>R (.ok f) s'| .again c'=>c'.quiet=true/\codeAny (model prog w) A c' R s') (λe s'=>R (.error e) s') s') (λe s'=>R (.error e) s') ⟨hp,gn,dr,tn,os⟩:=by
   intro d' ed;split
   ·rename_i c
    exact absurd ed.symm (hnc c)
   ·have x1:(hp.push {cls:= .type "dict",data:= .dict #[]}).get? x=some o:=aM _ hx;have xs:x≠hp.objs.size:=bE (aN hx);refine a8 (wpAny_alloc'<|a8<|wpAny_update' x1<|aG ?_);have alive:Obj.isFreed {cls:=o.cls,dict:=some hp.objs.size,data:=o.data,slots:=o.slots}=false:=by
     have:=(Heap.get?_some_iff.mp hx).2;obtain⟨c1,c2,c3,c4⟩:=o;cases c3<;>first|rfl|exact this
    have gd:((hp.push {cls:= .type "dict",data:= .dict #[]}).update x λo=>{cls:=o.cls,dict:=some hp.objs.size,data:=o.data,slots:=o.slots}).get? hp.objs.size=some {cls:= .type "dict",data:= .dict #[]}:=
     (xG _ _ _ _<|Ne.symm xs).trans (Heap.get?_push_at rfl rfl)
    refine put _ hp.objs.size {cls:=o.cls,dict:=some hp.objs.size,data:=o.data,slots:=o.slots} (oO _ x1 alive) hcl hnc rfl (Ne.symm xs) ?_ rfl (λb ob k1 k2=>(xG _ _ _ _ k1).trans (aM _ k2)) (.inr<|aB _)
    have e0:mA=λ_=>none:=funext hmA
    rw[e0];exact Heap.Ns1.of_empty ⟨_,#[],_,gd,rfl,λe he=>absurd he ae,λ_=>rfl⟩
  exact ex o.data rfl
 ·rw[hdx];exact aG (put hp dx o hx hcl hnc hdx hne hns rfl (λb ob _ k=>k) (.inl hdx))
theorem xset {Q:Unit->Shared->Prop}(X:K.In s.heap)(hc:clsIn K C=some cd)(hm:tP cd.mro=true)(hdct:cd.hasDict=true)(hsa:findIn K (.ref C) "__setattr__"=some (some<|.builtin "object.__setattr__"))(ht:findIn K (.ref C) name=some none)
  (I:s.heap.Inst x C mA) (hw:Within mA ns) (hsz:ns.length<=100)
  (hq: ∀h' tk,h'.Inst x C (λy=>if y=name then some v else mA y)->(∀b o,b≠x->(∀o0 dx,s.heap.get? x=some o0->o0.dict=some dx->b≠dx)->s.heap.get? b=some o->h'.get? b=some o)->
   (∀o0,s.heap.get? x=some o0-> ∃o1,h'.get? x=some o1/\o1.cls=o0.cls/\o1.data=o0.data/\ ∀dx,o1.dict=some dx->o0.dict=some dx\/(s.heap.objs.size<=dx))->Q () {s with heap:=h',toks:=tk}) :
  wpAny (model prog w) A (setAttr (.ref x) name v) Q E s:=by
 have I':=I;obtain⟨o,hx,hcl,hnc,hdd⟩:=I;have J: ∃od,InstAt s.heap x o C od:=by
  rcases hdd with⟨e,_⟩| ⟨dx,e,_,od,es,ep,ge,_⟩
  ·exact⟨none,hx,hcl,(by unfold PySem.W.notCls;split<;>first|rfl| (rename_i c q;exact absurd q (hnc c))),by rw[e];trivial⟩
  ·exact⟨some od,hx,hcl,(by unfold PySem.W.notCls;split<;>first|rfl| (rename_i c q;exact absurd q (hnc c))),by rw[e];exact ge⟩
 obtain⟨od,J⟩:=J;refine PySem.W.set_plain X J hsa ?_;exact xosa (s:={s with toks:=s.toks+1}) X hc hm hdct ht I' hw hsz hx J λh' tk a b c=>hq h' tk a b c
end
end L2
end
section
namespace L2
open PySem PySem.Spec PyProof.Rows
structure bQ5 (K:Frag)(C fI:Addr)(fd:FuncData)(f1 f2:Str):Prop where
 ex: ∃(oc:Value) (od:Option Addr) (nm qual:Str) (params:Arguments) (scope:Scope) (kV doc pm:Value) (an:Option Addr) (cdv ct:Value) (osl:Array (Option Value)) (x0 x1 x2:Str) (p1 p2 p3 p4 p5 p6 p7 p8:Pos),
  fd=fnOf nm qual params [.Assign [.Attribute (.Name x0 p1) f1 p2] (.Name x1 p3) p4,.Assign [.Attribute (.Name x0 p5) f2 p6] (.Name x2 p7) p8] scope .none kV doc pm an cdv ct/\
  K.lookup fI=some ⟨oc,od,.func fd,osl⟩/\oc= .type "function"/\codeIn K cdv qual=true/\aZ [x0,x1,x2] [x0,x1,x2] scope/\
  scope.names.lookup x0=some .local/\scope.names.lookup x1=some .local/\scope.names.lookup x2=some .local/\(x0==("__debug__":Str))=false/\(x1==("__debug__":Str))=false/\(x2==("__debug__":Str))=false/\Binds K fd [x0,x1,x2] []
 cls: ∃cd,clsIn K C=some cd/\tP cd.mro=true/\cd.hasDict=true
 sa:findIn K (.ref C) "__setattr__"=some (some<|.builtin "object.__setattr__")
 n1:findIn K (.ref C) f1=some none
 n2:findIn K (.ref C) f2=some none
def Laid (C e:Addr)(f1 f2:Str)(v1 v2:V)(s s':Shared):Prop:=s'.os=s.os/\AllBare s'.gens/\(∀b o,s.heap.get? b=some o->s'.heap.get? b=some o)/\
 ∃oe t d w1 w2,s'.heap.get? e=some oe/\oe.cls= .ref C/\oe.data= .fields #[.ref t,.none,.none,.none,.bool false,.none]/\oe.dict=some d/\d≠e/\s.heap.get? d=none/\RelV v1 w1/\RelV v2 w2/\s'.heap.Ns1 d (λy=>if y=f2 then some w2 else if y=f1 then some w1 else none)
section
variable {X:Cx}{pins:List (Addr×Obj)}{σ:St}{H:Hp}{s:Shared}{C fI e:Addr}{fd:FuncData}{f1 f2:Str}{h1:Heap}{u1 u2:Value}{v1 v2:V}{E:Value->Shared->Prop}{k:Nat}
theorem cE5 (T:bQ5 X.K C fI fd f1 f2)(I:Inv X pins σ H s)(hr:gM (k+1) X.A)(mk:MadeExcOf s.heap h1 e (.ref C) [u1,u2])(r1:RelV v1 u1)(r2:RelV v2 u2) :
  wpAny (model X.prog X.w) (X.A.under<|.builtin "type.__call__" ⟨.ref C::[u1,u2],[]⟩) (call (.ref fI) (.ref e::[u1,u2])) (λr s'=>r= .none/\Laid C e f1 f2 v1 v2 s s') E {s with heap:=h1}:=by
 obtain⟨oc,od,nm,qual,params,scope,kV,doc,pm,an,cdv,ct,osl,x0,x1,x2,p1,p2,p3,p4,p5,p6,p7,p8,rfl,lk,_,hcd,S,l0,l1,l2,d0,d1,d2,hb⟩:=T.ex;obtain⟨cd,hc,hm,hdct⟩:=T.cls;have I1:Inv X pins σ H {s with heap:=h1}:=I.kept mk.keeps;have e0:=I1.env0.make C [u1,u2] [];have rm:=hr.make C [u1,u2] [];have KX:=I1.kIn;have lim:=I1.nolimit
 have us:Vals [V.ref e,v1,v2] [Value.ref e,u1,u2]:= .cons rfl (.cons r1<|.cons r2 .nil);have hkind: ∀y∈[x0,x1,x2].zip [Value.ref e,u1,u2],scope.names.lookup y.1=some .local\/(scope.names.lookup y.1=some .cell/\((cellsFrom (h1.objs.size+1) scope.names []).lookup y.1).isSome=true):=λ⟨n,v⟩ hy=>by
  have:=(xQ hy).1;simp at this;rcases this with rfl|rfl|rfl
  ·exact .inl l0
  ·exact .inl l1
  ·exact .inl l2
 refine tE ?_
 have bd:=hb {s with heap:=h1} [Value.ref e,u1,u2] KX rfl;rw[i7]at bd;refine codeAny_call_function rm.depth (KX _ _ lk) rfl S.co S.gen rfl (PySem.W.codeRec_of KX hcd) (bd _ _ _ _ ?_);refine wpAny_newFunctionEnv_cells S.kind hkind λenv he s2 x=> ?_
 subst he;refine⟨lim.keeps x.toInCall.keep,codeAny_func ?_⟩;have J:Inv (qV CX0 X.prog X.w X.K X.mg X.base [x0,x1,x2] qual scope fI cdv (X.A.under<|.builtin "type.__call__" ⟨.ref C::[u1,u2],[]⟩) X.stack {s with heap:=h1} H E0) [] (start [x0,x1,x2] [V.ref e,v1,v2]) H s2:=bB7 S rm.hd e0 rfl us x;obtain⟨m,hn,hl⟩:=J.loc
 have look: ∀(i:Nat) (y:Str) (v:V),[x0,x1,x2][i]? =some y->(start [x0,x1,x2] [V.ref e,v1,v2])[i]? =some (some v)->scope.names.lookup y=some .local-> ∃u,RelV v u/\m y=some u:=λi y v q1 q2 q3=>by
  obtain⟨u,r,lo⟩:=hl i y v q1 q2 (.inl q3);rcases lo with⟨_,hm⟩| ⟨z,_⟩
  ·exact⟨u,r,hm⟩
  ·have z':scope.names.lookup y=some .cell\/scope.names.lookup y=some .free:=z;rw[q3]at z';rcases z' with z'|z'<;>cases z'
 obtain⟨w0,q0,m0⟩:=look 0 x0 (.ref e) rfl rfl l0;obtain⟨w1,q1,m1⟩:=look 1 x1 v1 rfl rfl l1;obtain⟨w2,q2,m2⟩:=look 2 x2 v2 rfl rfl l2;obtain rfl:w0=Value.ref e:=q0;have kk:=J.ok.kind;have kin:X.K.In s2.heap:=KX.keeps x.toInCall.keep;obtain⟨t,t1,t2,t3⟩:=mk.there;have ge:s2.heap.get? e=some {cls:= .ref C,data:= .fields #[.ref t,.none,.none,.none,.bool false,.none]}:=x.toInCall.keep _ _ t1
 have eL:e≠h1.objs.size:=bE (aN t1);have in0:s2.heap.Inst e C (λ_=>none):=⟨_,ge,rfl,(λc z=>by cases z),.inl ⟨rfl,λ_=>rfl⟩⟩
 refine sQ (aB9<|n8 (oR kk l1 hn m1<|n8 (oR kk l0 hn m0 ?_) d0) d1)
 refine xset kin hc hm hdct T.sa T.n1 in0 (ns:=[]) (λn z=>absurd rfl z) ae λh3 tk3 in3 kp3 ob3=> ?_
 obtain⟨o3,g3,c3,dt3,dd3⟩:=ob3 _ ge;have keep3: ∀b o,b≠e->s2.heap.get? b=some o->h3.get? b=some o:=λb o n q=>kp3 b o n (λo0 dx z1 z2=>by rw[ge]at z1;cases z1;cases z2) q
 have hn3:h3.Ns h1.objs.size m:=by
  obtain⟨o,es,ep,z1,z2⟩:=hn;exact⟨o,es,ep,keep3 _ _ (Ne.symm eL) z1,z2⟩
 have keep3': ∀b o,s.heap.get? b=some o->h3.get? b=some o:=λb o q=>keep3 b o (λz=>by rw[z,mk.new]at q;cases q) (x.toInCall.keep _ _<|mk.keeps b o q)
 have kin3:X.K.In h3:=I.kIn.keeps keep3';refine sQ (aB9<|n8 (oR kk l2 hn3 m2<|n8 (oR kk l0 hn3 m0 ?_) d0) d2);refine xset kin3 hc hm hdct T.sa T.n2 in3 (ns:=[f1]) (λn z=> ?_) ae λh4 tk4 in4 kp4 ob4=> ?_
 ·by_cases c:n=f1
  ·simp[c]
  ·rw[a6 c]at z;exact absurd rfl z
 obtain⟨o4,g4,c4,dt4,dd4⟩:=ob4 _ g3;refine mV ?_;obtain⟨o5,g5,_,_,dd5⟩:=in4;rw[g4]at g5;cases g5;rcases dd5 with⟨_,no⟩| ⟨d,ed,de,nd⟩
 ·have:=no f2;simp at this
 have dn:s.heap.get? d=none:=by
  cases q:s.heap.get? d with
  | none=>rfl
  | some o=>
   exfalso
   have a3:=aN (keep3' d o q);have a2:=aN (x.toInCall.keep _ _<|mk.keeps d o q);rcases dd4 d ed with z|z
   ·rcases dd3 d z with z|z
    ·cases z
    ·exact absurd (b9 a2 z) (cZ _)
   ·exact absurd (b9 a3 z) (cZ _)
 refine⟨rfl,J.os,J.bare,λb o q=> ?_,o4,t,d,w1,w2,g4,?_,?_,ed,de,dn,q1,q2,nd⟩
 ·refine kp4 b o (λz=>by rw[z,mk.new]at q;cases q) (λo0 dx z1 z2=> ?_) (keep3' b o q)
  rw[g3]at z1;cases z1;rcases dd3 dx z2 with z|z
  ·cases z
  ·intro z';have:=aN (x.toInCall.keep _ _<|mk.keeps b o q);rw[z']at this;exact absurd (b9 this z) (cZ _)
 ·rw[c4,c3]
 ·rw[dt4,dt3]
end
noncomputable def aA7 (K:Frag)(C fI:Addr)(bmB:List Value)(newId:String):Bool:=match K.lookup C with
 | some ⟨.type "type",_,.cls ck,sl⟩=>(match ck.mro,sl.toList with
  | .ref C2::tail,[_,_,_,_,some<|.builtin nid,_]=>C2==C&&nid==newId&& !ck.hasDel&&PySem.W.tailIn K bmB tail&&PySem.W.nsOkIn K ck.ns&&nsIn K ck.ns "__init__"==some (some<|.ref fI)
  | _,_=>false)
 | _=>false
theorem d27 {K:Frag}{h:Heap}{N:Addr}{mg:Str->Option Value}{n:Str}{v:Value}(X:K.In h)(G:h.Ns N mg)(e:nsIn K N n=some (some v)):mg n=some v:=by
 obtain⟨ob,ents,np,look0,dat,_,find0⟩:=G;unfold nsIn at e;split at e
 ·rename_i look
  have same:=X _ _ look;rw[look0]at same;cases same;cases dat;split at e
  ·rename_i en found
   cases e;rw[<-find0];unfold nsFind findBy;rw[<-Array.find?_toList,found];rfl
  ·split at e<;>cases e
 ·cases e
structure XClsI (h:Heap)(C fI:Addr)(bmB bm:List Value)(newId:String):Prop where
 ex: ∃(nm q:Str) (N:Addr) (bs:List Value) (hd:Bool) (sn:List Str) (sub:List Value) (ab:Bool) (col:Option Bool) (dd:Option Addr) (k0 k1 k2 k3 k5:Option Value) (mN:Str->Option Value),
  h.get? C=some (excClassObj nm q C N bs bm hd sn sub ab col dd k0 k1 k2 k3 k5 newId)/\h.Ns N mN/\mN "__init__"=some (.ref fI)
 tl:OwnTail h bmB bm
theorem bQ6 {K:Frag}{h:Heap}{C fI:Addr}{bmB:List Value}{newId:String}(X:K.In h)(q:aA7 K C fI bmB newId=true): ∃bm,XClsI h C fI bmB bm newId:=by
 unfold aA7 at q;split at q
 ·rename_i od ck slots look
  split at q
  ·rename_i C2 tail a0 a1 a2 a3 nid a5 em es
   simp only[dN,fW,aF5]at q;obtain⟨⟨⟨⟨⟨rfl,rfl⟩,nodel⟩,tk⟩,nk⟩,ni⟩:=q;obtain⟨c1,c2,c3,c4,c5,c6,c7,c8,c9,c10,c11⟩:=ck;dsimp only at em nodel nk ni;subst em nodel;obtain⟨sll⟩:=slots;simp only at es;subst es;have nsk:h.Ns c4 (h.nsMap c4):= .of_isNs (PySem.W.isNs_of_in X nk);exact⟨tail,⟨⟨_,_,_,_,_,_,_,_,_,_,_,_,_,_,_,_,X _ _ look,nsk,d27 X nsk ni⟩,PySem.W.tail_of_in X tk⟩⟩
  ·cases q
 ·cases q
section
variable {M:Model}{A:Around}{E:Value->Shared->Prop}{s:Shared}{env:Env}
variable {nm qn:Str}{C N:Addr}{bs bm:List Value}{hdd:Bool}{sn:List Str}{sub:List Value}{ab:Bool}{col:Option Bool}{dd:Option Addr}{k0 k1 k2 k3 k5:Option Value}{newId:String}
theorem xraise {x:Sem Value}{Q:Flow->Shared->Prop}(hbase:bm.contains (.type "BaseException")=true)(hh:A.handled=none)
  (h:wpAny M A x (λv s1=> ∃e oe vs,v= .ref e/\s1.heap.get? C=some (excClassObj nm qn C N bs bm hdd sn sub ab col dd k0 k1 k2 k3 k5 newId)/\s1.heap.get? e=some oe/\oe.cls= .ref C/\oe.data= .fields vs/\vs[1]? =some .none/\E (.ref e) s1) E s) :
  wpAny M A (raiseStmt env (some x) none) Q E s:=by
 have has:(Value.ref C::bm).contains (.type "BaseException")=true:=by rw[aF0,hbase,Bool.or_true]
 unfold raiseStmt;refine a8 (bD h (λv s1 z=> ?_) λ_ _ y=>y)
 obtain⟨e,oe,vs,rfl,hC,he,hcl,hdt,h1,hE⟩:=z;obtain⟨hp,gn,dr,tn,os⟩:=s1;obtain⟨oc,od,odt,osl⟩:=oe;dsimp only at hcl hdt;subst hcl hdt
 repeat (first
  | with_reducible refine mS he ?_
  | with_reducible refine mS hC ?_
  | (with_reducible refine xI hC ?_;rw[has])
  | wp_step)
 rw[h1];refine aG (aG ?_);exact wpAny_raiseNew_none hh hE
end
section
variable {P:Program}{w:World}{H:Hp}{h h':Heap}{a:Addr}{o:HO}{fs ex:List Addr}
theorem HOk.laidN (x:HOk P w H h)(k: ∀b u,h.get? b=some u->h'.get? b=some u)(hn:H a=none)(new:qF P w (upd H a o) h' a o):HOk P w (upd H a o) h':=λb u e=>by
 by_cases hb:b=a
 ·subst hb;rw[iB]at e;cases e;exact new
 ·rw[bL hb]at e;exact(x b u e).stay (λc v _ q=>k c v q) (λc q=>by rw[bL<|cP q hn];exact q) λc xs q=>by rw[bL<|cP q hn];exact q
theorem Un.laidN (k: ∀b u,h.get? b=some u->h'.get? b=some u)(hp:h.get? a=none)(hn:H a=none):Un fs ex H (upd H a o) h h' where
 keep:=λb u q _ _ _=>k b u q
 slot:=λb u q _ _ _=>⟨u.slots,k b u q⟩
 free:=λb u q n _=>by rw[bL (λz=>by rw[z,hp]at q;cases q)];exact n
 there:=λb u q _=>⟨u,k b u q⟩
 tups:=λb xs q=>by rw[bL<|cP q hn];exact q
 frzs:=λb u xs q=>by rw[bL<|cP q hn];exact q
 tbls:=λb ps q=>⟨#[],by rw[bL<|cP q hn,q];simp⟩
end
section
variable {X:Cx}{E:XK}{C fI:Addr}
def d28 (C:Addr)(f1 f2:Str)(E:XK)(ta:TA):TS:=λ_ σ H=>ta σ H λvs H1=> ∃v1 v2,vs=[v1,v2]/\ ∀d,H1 d=none->E (.ref C) (some d) (upd H1 d<|.xd [(f1,v1),(f2,v2)])
theorem cE6 {x:Str}{np cpos pos:Pos}{e1 e2:Expr}{ta:TA}{B newId initId:String}{bmB:List Value}{fd:FuncData}{f1 f2:Str}{k:Nat}(FB:ExcBaseFacts B newId initId bmB)(q:aA7 X.K C fI bmB newId=true)(T:bQ5 X.K C fI fd f1 f2)(hr:gM (k+1) X.A)(hg:Gl X x)(hm:X.mg x=some (.ref C))(hc:X.calm=true)(ha:PA X [e1,e2] ta)(th:b09 X E C)(hne:f1≠f2)
  (he:starEach [e1,e2] X.env=(false,eval e1 X.env)::starEach [e2] X.env:=by rfl) (hpl:(backTo cpos<|starEach [e2] X.env).any (·.1)=false:=by rfl) (hd:(x==("__debug__":Str))=false:=by decide) (hex:X.ex=[]:=by rfl) :
  PS X (.Raise (some<|.Call (.Name x np) [e1,e2] [] cpos) none pos) (d28 C f1 f2 E ta):=by
 intro pins s σ H D I h;obtain⟨bm,⟨⟨nm,qn,N,bs,hdd,sn,sub,ab,col,dd,k0,k1,k2,k3,k5,mN,hC,hN,hni⟩,tl⟩⟩:=bQ6 I.mod.kin q;have keepS: ∀{pins:List (Addr×Obj)} {σ:St} {H:Hp} {s2:Shared},Inv X pins σ H s2-> ∀b o,X.base.get? b=some o->s2.heap.get? b=some o:=λJ=>J.bk
 rw[arm_exec_Raise];refine a8 (pF<|xraise (C:=C) (nm:=nm) (qn:=qn) (N:=N) (bs:=bs) (bm:=bm) (hdd:=hdd) (sn:=sn) (sub:=sub) (ab:=ab) (col:=col) (dd:=dd) (k0:=k0) (k1:=k1) (k2:=k2) (k3:=k3) (k5:=k5) (newId:=newId) (tl.hasType FB.hasBase) (I.ok.hd hc) ?_);refine a8 (bD (wpAny_Call_ofName<|uL I hg hm ?_ hd) (λv s3 h3=>a8 (pF<|aG h3)) λ_ _ z=>z)
 have plain:(backTo cpos<|starEach [e1,e2] X.env).any (·.1)=false:=by
  rw[he];show(false||(backTo cpos<|starEach [e2] X.env).any (·.1))=false;rw[hpl];rfl
 have hh:=ha cpos pins s σ H _ I h;unfold callWith;rw[he]at hh plain⊢;refine a8 (iV<|aD9<|bD hh (λus s2 z=>a8 (pF ?_)) λ_ _ z=>z)
 obtain⟨vs,H1,I1,r1,w1,w2,rfl,hE⟩:=z;simp only[plain];have hC2:=keepS I1 _ _ hC;obtain⟨u1,u2,rfl⟩: ∃u1 u2,us=[u1,u2]:=by
  have e:=r1.length
  match us,e with
  | [a,b],_=>exact⟨a,b,rfl⟩
 obtain⟨q1,q2⟩:RelV w1 u1/\RelV w2 u2:=by
  cases r1 with
  | cons a r=>
   cases r with
   | cons b _=>exact⟨a,b⟩
 obtain⟨oc,od,_,_,_,_,_,_,_,_,_,_,osl,_,_,_,_,_,_,_,_,_,_,_,efd,lk,oce,_⟩:=T.ex;have gf:=I1.kIn _ _ lk;obtain⟨hp,gn,dr,tn,os⟩:=s2;refine a8 (wpAny_keeperOf_exc hC2 ?_);refine a8 (xcall FB (tl.keeps<|keepS I1) hC2 (hN.keeps<|keepS I1) hni gf oce (λh' a mk=> ?_) (by simp;decide))
 refine bD (cE5 T I1 hr mk q1 q2) (λr s' z=> ?_) λ_ _ z=>z
 obtain⟨rfl,z1,z2,z3,oe,t,d,y1,y2,z4,z5,z6,ed,de,dn,x1,x2,nd⟩:=z;refine⟨rfl,a8<|iV<|wpAny_point<|aG ?_⟩;have dH:H1 d=none:=I1.hok.there dn;have I2:Inv X pins σ (upd H1 d<|.xd [(f1,w1),(f2,w2)]) s':=by
  obtain⟨hp',gn',dr',tn',os'⟩:=s';obtain rfl:os'=os:=z1;refine I1.call (h':=hp') (g':=gn') (d':=dr') (t':=tn') (ch:=[]) (Un.laidN z3 dn dH) (I1.hok.laidN z3 dH ?_) z2 (λb z=>absurd z ae)
  refine⟨_,nd,λf=> ?_⟩
  simp only[cJ,List.lookup_nil]
  by_cases c1:f=f1
  ·subst c1;rw[sU,a6 hne,a7 rfl];exact x1
  ·rw[show(f==f1)=false from oU.mpr c1]
   by_cases c2:f=f2
   ·subst c2;rw[sU,a7 rfl];exact x2
   ·rw[show(f==f2)=false from oU.mpr c2,a6 c2,a6 c1]
    exact trivial
 refine⟨a,oe,_,rfl,z3 _ _ hC2,z4,z5,z6,rfl,?_⟩
 refine th pins σ _ s' a oe _ (.ref t) (some d) I2 z4 z5 z6 rfl rfl (by rw[bL<|Ne.symm de];exact I1.hok.there mk.new) ?_ (λd' e=>by cases e;exact⟨oe,z4,ed⟩) (hE d dH)
 cases r:X.s₀.heap.get? a with
 | none=>rfl
 | some o=>
  obtain⟨o',q'⟩:=I1.base.there a o r (by rw[hex];simp)
  rw[mk.new]at q';cases q'
end
end L2
end
section
namespace M
open PySem PySem.Spec PyProof.Rows L2
abbrev XP:=Str->List D->Prop
abbrev ΦX:=List D->(B->Prop)->XP->Prop
noncomputable def bD7 (n:Str):List Str:=if n="FallsApart" then ["left","right"]else if n="NotWhole" then ["prime","number"]else []
noncomputable def XR (K:Frag)(A:AS)(H:Hp)(n:Str)(ds:List D):Option Addr->Prop
 | none=>bD7 n=[]
 | some d=> ∃vs,¬A d/\H d=some (.xd<|(bD7 n).zip vs)/\(bD7 n).length=vs.length/\bG K A H ds vs
theorem XR.mono {K:Frag}{A A':AS}{H H':Hp}{n:Str}{ds:List D}(p:lY A H A' H'): ∀{o:Option Addr},XR K A H n ds o->XR K A' H' n ds o
 | none,h=>h
 | some d,⟨vs,h1,h2,h3,h4⟩=>⟨vs,(p d _ h1 h2).1,(p d _ h1 h2).2,h3,h4.mono p⟩
noncomputable def spX (K:Frag)(mg:Str->Option Value)(φ:ΦX):Sp:=λvs H Q E=> ∃A ds Q0 Ex,(∀a,A a->H a≠none)/\bG K A H ds vs/\φ ds Q0 Ex/\(∀b v H',Q0 b->gP H H'->tH K A H H' b v->Q v H')/\ ∀n C es o H',Ex n es->mg n=some (.ref C)->gP H H'->XR K A H' n es o->E (.ref C) o H'
structure FnX (P:Program)(w:World)(K:Frag)(mg:Str->Option Value)(base:Heap)(x:Str)(ps:List Str)(k:Nat)(φ:ΦX):Prop where
 ex: ∃f fd,qU P w K mg base (CXr P w base) k f fd ps (spX K mg φ)/\Binds K fd ps []/\keepIn K (.ref f)=true/\mg x=some (.ref f)
abbrev USX:=XP->US
def lSX (K:Frag)(mg:Str->Option Value)(E:XK)(t:USX):TS:=λD σ H=> ∃C ρ D0 Ex,EOk K C ρ σ H/\t Ex D0 ρ/\DOk K C D0 D/\ ∀n Cl es o H',Ex n es->mg n=some (.ref Cl)->gP C.H0 H'->XR K C.A0 H' n es o->E (.ref Cl) o H'
def bH5 (X:Cx)(E:XK)(st:Stmt)(t:USX):Prop:=PS X st (lSX X.K X.mg E t)
def zZ (X:Cx)(E:XK)(sts:List Stmt)(t:USX):Prop:=PSs X sts (lSX X.K X.mg E t)
section
variable {X:Cx}{E:XK}{st:Stmt}{sts:List Stmt}{t u:USX}{e:Expr}{es:List Expr}{pos:Pos}
theorem aK6 {t:US}(h:PUS X st t):bH5 X E st (λ_=>t):=nS h λD σ H ⟨C,ρ,D0,Ex,I,h,k,_⟩=>⟨C,ρ,D0,I,h,k⟩
theorem cP6 {t:US}(h:qW X sts t):zZ X E sts (λ_=>t):=aG2 h λD σ H ⟨C,ρ,D0,Ex,I,h,k,_⟩=>⟨C,ρ,D0,I,h,k⟩
theorem bH6 (h1:bH5 X E st t)(h2:zZ X E sts u):zZ X E (st::sts) (λEx=>aV (t Ex) (u Ex)):=
 aG2 (qG h1 h2) λD σ H ⟨C,ρ,D0,Ex,I,h,k,kx⟩=>⟨C,ρ,{D0 with nx:=u Ex D0},Ex,I,h,⟨λρ' σ' H' q I'=>⟨C,ρ',D0,Ex,I',q,k,kx⟩,k.rt,k.bk,k.ct⟩,kx⟩
theorem b11 (h1:bH5 X E st t):zZ X E [st] t:=a80 h1
theorem c21:zZ X E [] (λ_=>dZ):=cP6 bZ5
theorem cP7 {c:Expr}{a b:List Stmt}{tc:UT}(hc:PUT X c tc)(ha:zZ X E a t)(hb:zZ X E b u):bH5 X E (.If c a b pos) (λEx=>gH tc (t Ex) (u Ex)):=
 nS (d88 hc ha hb) λD σ H ⟨C,ρ,D0,Ex,I,h,k,kx⟩=>⟨C,ρ,_,I,h,λc ρ1 H1 q f s=>by
  have I1:=(I.frz f).same s;cases c with
  | true=>
   dsimp only at q⊢;rw[a7 rfl]at q⊢;exact⟨C,ρ1,D0,Ex,I1,q,k,kx⟩
  | false=>
   dsimp only at q⊢;rw[a6 ac]at q⊢
   exact⟨C,ρ1,D0,Ex,I1,q,k,kx⟩⟩
def bH7 (φ:ΦX)(t:UA)(Ex:XP):UE:=λρ Q=>t ρ λds ρ1=>φ ds (λb=>Q b ρ1) Ex
theorem spX_of {φ:ΦX}{C:C0}{ρ ρ1:Ev}{σ:L2.St}{H H1:Hp}{ds:List D}{vs:List V}{Q0:B->Prop}{Ex:XP}{Q:VK}(I:EOk X.K C ρ σ H)(f:Frz ρ ρ1)(s:gP H H1)(r:bG X.K (Av C ρ1 σ) H1 ds vs)(q:φ ds Q0 Ex)(kq: ∀b v H',Q0 b->gP H1 H'->tH X.K (Av C ρ1 σ) H1 H' b v->Q v H')(kx: ∀n Cl es o H',Ex n es->X.mg n=some (.ref Cl)->gP C.H0 H'->XR X.K C.A0 H' n es o->E (.ref Cl) o H'):spX X.K X.mg φ (vs++[]) H1 Q E:=by
 have I1:=(I.frz f).same s;rw[i7];exact⟨Av C ρ1 σ,ds,Q0,Ex,λa z=>I1.avSome z,r,q,kq,λn Cl es o H' ex hm s' x=>kx n Cl es o H' ex hm (I1.ext.trans s') (x.mono<|.sub (.refl _) λa z=> .inl z)⟩
theorem c77 {k k':Nat}{ps:List Str}{φ:ΦX}{x:Str}{p cpos:Pos}{t:UA}(F:FnX X.prog X.w X.K X.mg X.base x ps k φ)(hr:gM k' X.A)(hk:k<=k')(hp:v6 (CXr X.prog X.w X.base) X E)(hg:Gl X x)(ha:PUA X (e::es) t)(hdb:(x==("__debug__":Str))=false:=by decide)
  (he:starEach (e::es) X.env=(false,eval e X.env)::starEach es X.env:=by rfl) (hpl:(backTo cpos<|starEach es X.env).any (·.1)=false:=by rfl) (hs:swapsWith (.Call (.Name x p) (e::es) [] cpos) none pos.line X.env=pure false:=by rfl) :
  bH5 X E (.Expr (.Call (.Name x p) (e::es) [] cpos) pos) (λEx=>aK2 (bH7 φ t Ex)):=by
 obtain⟨f,fd,G,b,kp,m⟩:=F.ex;exact nS (a81 (c60 G (hr.mono hk) hg m kp b .nil hp ha hdb he hpl) hs) λD σ H ⟨C,ρ,D0,Ex,I,h,k,kx⟩=>⟨C,ρ,_,I,h,λds ρ1 vs H1 q f s r=>spX_of I f s r q (λb v H' q' s' r'=>k.nx _ _ _ q' (((I.frz f).same s).same s')) kx⟩
def bH8 (x:Str)(t:UA)(Ex:XP):US:=λ_ ρ=>t ρ λds _=>ds.length<=sizeLine/\Ex x []
theorem lRaise {x:Str}{C:Addr}{t:UA}(hm:X.mg x=some (.ref C))(hk:bD7 x=[])(D:b76)(σ:L2.St)(H:Hp)(h:lSX X.K X.mg E (λEx=>bH8 x t Ex) D σ H):cP4 C E (lA X.K t) D σ H:=by
 obtain⟨C0,ρ,D0,Ex,I,h,k,kx⟩:=h;exact⟨C0,ρ,_,I,h,λds ρ1 vs H1 q f s r=>⟨by rw[<-r.length];exact q.1,kx x C [] none H1 q.2 hm (I.ext.trans s) hk⟩⟩
def aK7 (x:Str)(t1 t2:UE)(Ex:XP):US:=λ_ ρ=>t1 ρ λa ρ1=>t2 ρ1 λb _=>Ex x [a.d,b.d]
theorem cP8 {C:Addr}{x:Str}{np cpos:Pos}{t:UA}{B newId initId:String}{bmB:List Value}(FB:ExcBaseFacts B newId initId bmB)(q:excIn X.K C bmB newId=true)(hg:Gl X x)(hm:X.mg x=some (.ref C))(hc:X.calm=true)(ha:PUA X (e::es) t)(th:b09 X E C)(hk:bD7 x=[])
  (he:starEach (e::es) X.env=(false,eval e X.env)::starEach es X.env:=by rfl) (hpl:(backTo cpos<|starEach es X.env).any (·.1)=false:=by rfl) (hd:(x==("__debug__":Str))=false:=by decide) (hex:X.ex=[]:=by rfl) :
  bH5 X E (.Raise (some<|.Call (.Name x np) (e::es) [] cpos) none pos) (λEx=>bH8 x t Ex):=nS (cP5 FB q hg hm hc ha th he hpl hd hex) (lRaise hm hk)
theorem bD8 {C fI:Addr}{x:Str}{np cpos:Pos}{e1 e2:Expr}{t1 t2:UE}{B newId initId:String}{bmB:List Value}{fd:FuncData}{f1 f2:Str}{k:Nat}(FB:ExcBaseFacts B newId initId bmB)(q:aA7 X.K C fI bmB newId=true)(T:bQ5 X.K C fI fd f1 f2)(hr:gM (k+1) X.A)(hg:Gl X x)(hm:X.mg x=some (.ref C))(hc:X.calm=true)(ha:PUA X [e1,e2] (a9 t1<|a9 t2 aK))(th:b09 X E C)(hk:bD7 x=[f1,f2])(hne:f1≠f2)
  (he:starEach [e1,e2] X.env=(false,eval e1 X.env)::starEach [e2] X.env:=by rfl) (hpl:(backTo cpos<|starEach [e2] X.env).any (·.1)=false:=by rfl) (hd:(x==("__debug__":Str))=false:=by decide) (hex:X.ex=[]:=by rfl) :
  bH5 X E (.Raise (some<|.Call (.Name x np) [e1,e2] [] cpos) none pos) (λEx=>aK7 x t1 t2 Ex):=by
 refine nS (cE6 FB q T hr hg hm hc ha th hne he hpl hd hex) λD σ H ⟨C0,ρ,D0,Ex,I,h,k,kx⟩=> ?_
 refine⟨C0,ρ,λds _=> ∃a b,ds=[a,b]/\Ex x ds,I,?_,λds ρ' vs H' ⟨a,b,q1,q2⟩ f s r=> ?_⟩
 ·have e9: ∀(z y:M.B) (ρ2:Ev),(∃a b,[z.d,y.d]=[a,b]/\Ex x [z.d,y.d])=Ex x [z.d,y.d]:=λz y ρ2=>propext ⟨λ⟨_,_,_,w⟩=>w,λw=>⟨_,_,rfl,w⟩⟩
  show t1 ρ λz ρ1=>t2 ρ1 λy ρ2=> ∃a b,[z.d,y.d]=[a,b]/\Ex x [z.d,y.d]
  have:=h;unfold aK7 at this;simp only[e9 _ _ ρ];exact this
 ·subst q1;obtain⟨v1,vr,rfl,r1,r2⟩:=r.uncons;obtain⟨v2,vr2,rfl,r3,r4⟩:=r2.uncons;cases r4.unnil;refine⟨v1,v2,rfl,λd hd=> ?_⟩
  have I1:=(I.frz f).same s;have s2:gP H' (upd H' d<|.xd [(f1,v1),(f2,v2)]):=λb o z=>by rw[bL<|cP z hd];exact z
  have na: ∀a,C0.A0 a->a≠d:=λa z e=>I1.avSome (.inl z) (by rw[e];exact hd)
  refine kx x C _ (some d) _ q2 hm (I1.ext.trans s2) ⟨[v1,v2],λz=>na d z rfl,?_,by rw[hk];rfl,(bG.cons r1<|.cons r3 .nil).mono λb o n z=>⟨λw=>n (.inl w),s2 b o z⟩⟩
  rw[iB,hk];rfl
theorem cP9 {P:Program}{w:World}{K:Frag}{mg:Str->Option Value}{base:Heap}{x qual:Str}{st:Stmt}{f:Addr}{fd:FuncData}{N ps:List Str}{k:Nat}{φ:ΦX}(F:Fun K x qual st f fd)(S:aZ N ps (aD st))
  (len: ∀ds Q Ex,φ ds Q Ex->ds.length=ps.length) {t:USX}
  (der: ∀(cdv:Value) (A:Around) (outer:List Env) (s:Shared) (H:Hp) (E:XK),gM k (A.deeper<|envOfC qual (aD st) s.heap.objs.size f cdv)->zZ (qV (CXr P w base) P w K mg base N qual (aD st) f cdv A outer s H E) E (dJ st) t)
  (rd: ∀ds Q Ex,φ ds Q Ex->t Ex {nx:=λ_=>Q (.pu .non),rt:=Q} (init N ds)) :
  qU P w K mg base (CXr P w base) (k+1) f fd ps (spX K mg φ):=by
 obtain⟨oc,od,kV,doc,pm,an,cdv,ct,osl,rfl,lk,hcd⟩:=F.ex;refine cJ7 lk hcd S (λvs H Q E h=> ?_) λA outer s H vs Q E hr h=> ?_
 ·obtain⟨A,ds,Q0,Ex,_,r,h,_⟩:=h;rw[<-r.length];exact len ds Q0 Ex h
 ·obtain⟨A',ds,Q0,Ex,hA,r,h,q,qx⟩:=h;refine⟨_,der cdv A outer s H E hr,⟨H,A'⟩,init N ds,_,Ex,aW6 hA r,rd ds Q0 Ex h,⟨λρ σ H' z I=> ?_,λb v H' z s r=>q b v H' z s r,λ_ _ _ z=>z.elim,λ_ _ _ z=>z.elim⟩,qx⟩
  exact q _ _ H' z I.ext (show Rep _ _ _ _ _ by simp only[Rep])
theorem FnX.mk' {P:Program}{w:World}{K:Frag}{mg:Str->Option Value}{base:Heap}{x qual:Str}{st:Stmt}{f:Addr}{fd:FuncData}{N ps:List Str}{k:Nat}{φ:ΦX}(F:Fun K x qual st f fd)(m:mg x=some (.ref f))(b:Binds K fd ps [])(S:aZ N ps (aD st))
  (len: ∀ds Q Ex,φ ds Q Ex->ds.length=ps.length) {t:USX}
  (der: ∀(cdv:Value) (A:Around) (outer:List Env) (s:Shared) (H:Hp) (E:XK),gM k (A.deeper<|envOfC qual (aD st) s.heap.objs.size f cdv)->zZ (qV (CXr P w base) P w K mg base N qual (aD st) f cdv A outer s H E) E (dJ st) t)
  (rd: ∀ds Q Ex,φ ds Q Ex->t Ex {nx:=λ_=>Q (.pu .non),rt:=Q} (init N ds)):FnX P w K mg base x ps (k+1) φ:=
 ⟨f,fd,cP9 F S len der rd,b,F.kp,m⟩
end
end M
end
section
namespace L2
open PySem PySem.Spec PyProof.Rows
section
variable {X:Cx}{pins:List (Addr×Obj)}{σ:St}{H:Hp}{s:Shared}{h':Heap}{e:Addr}
theorem Inv.past {g:Heap}(I:Inv X pins σ H s)(p:b84 (frs X.stack) e s.heap h')(hstk:X.stack=X.env::X.outer)(hfr:X.env.frame=some X.env.locals)(hex:X.ex=[])(gs: ∀b o,X.s₀.heap.get? b=some o-> ∃o',g.get? b=some o')(gp: ∀q∈X.pn++pins,∃o',g.get? q.1=some o')(ne:g.get? e=none)(nt: ∀T,Tr s.heap e T->g.get? T=none)(he:H e=none)(ht: ∀T,Tr s.heap e T->H T=none):Inv X pins σ H {s with heap:=h'}:=by
 have none0: ∀b,g.get? b=none->X.s₀.heap.get? b=none:=λb q=>by
  cases r:X.s₀.heap.get? b with
  | none=>rfl
  | some o=>obtain⟨o',q'⟩:=gs b o r;rw[q]at q';cases q'
 have fm: ∀b∈frs X.stack,b=X.env.locals\/b∈X.fs:=λb hb=>by
  rw[hstk]at hb;unfold Cx.fs;unfold frs at hb⊢;rw[jH,hfr]at hb;exact aS.mp hb
 have hL:X.s₀.heap.get? X.env.locals=none:=kM I.ok.above;have hd: ∀b∈X.fs,∀o,s.heap.get? b=some o-> ∀vs,o.data≠ .fields vs:=λb hb o q=>by
  have fl:=I.stack;rw[hstk]at fl;obtain⟨_,o',q',n⟩:=fl.mem (b:=b) (by
   unfold Cx.fs frs at hb;rw[jH,hfr];exact aS.mpr (.inr hb))
  rw[q]at q';cases q';exact n
 have hb0:=I.base;rw[hex]at hb0;have un:=hb0.past p fm hL (none0 e ne) (λT q=>none0 T (nt T q)) hd
 have cellS: ∀c v,s.heap.IsCell c v->h'.IsCell c v:=λc v ⟨o,q1,q2⟩=>by
  obtain⟨sl,q3⟩:=p.slot c o q1 (λvs z=>by rw[q2]at z;cases z)
  exact⟨_,q3,q2⟩
 refine⟨I.ok,I.os,I.bare,by rw[hex];exact un,?_,λx c q=> ?_,I.free,I.freeC,λq hq=> ?_,I.hok.past p I.stkFree he ht,I.len⟩
 ·obtain⟨m,hn,hl⟩:=I.loc;refine⟨m,p.slot.ns hn,λi x v a b c=> ?_⟩
  obtain⟨u,r,lo⟩:=hl i x v a b c;refine⟨u,r,?_⟩;rcases lo with z| ⟨z1,c,z2,z3⟩
  ·exact .inl z
  ·exact .inr ⟨z1,c,z2,cellS c _ z3⟩
 ·obtain⟨v,z⟩:=I.cell x c q;exact⟨v,cellS c v z⟩
 ·obtain⟨z1,z2,z3,z4,z5⟩:=I.pin q hq;obtain⟨o',g1⟩:=gp q hq;refine⟨p.keep q.1 q.2 z1 (λz=> ?_) (λz=>by rw[z,ne]at g1;cases g1) (λz=>by rw[nt _ z]at g1;cases g1),z2,z3,z4,z5⟩
  rcases fm _ z with y|y
  ·exact z3 y
  ·exact z4 y
end
noncomputable abbrev Cx.inX (X:Cx)(e:Addr):Cx:={X with A:=X.A.mark (some<|.ref e),calm:=false,xe:=λ_ _=>False}
theorem Cx.Ok.inX {X:Cx}(ok:X.Ok)(e:Addr):(X.inX e).Ok:=
 ⟨ok.mod,ok.kind,ok.glob,ok.blt,ok.above,ok.inj,ok.has,ok.cab,(λz=>by cases z),ok.frames,ok.stk,ok.exf,ok.bs,ok.bsz,ok.noex,ok.exfs,ok.funs,ok.frf⟩
section
variable {X:Cx}{pins:List (Addr×Obj)}{σ:St}{H:Hp}{s:Shared}{e:Addr}
theorem Inv.inX (I:Inv X pins σ H s)(e:Addr):Inv (X.inX e) pins σ H s:=⟨I.ok.inX e,I.os,I.bare,I.base,I.loc,I.cell,I.free,I.freeC,I.pin,I.hok,I.len⟩
theorem Cx.Ok.outX {X:Cx}{Y:Cx}(okY:Y.Ok){e:Addr}(ok:(X.inX e).Ok)(hd:X.calm=true->X.A.handled=none):X.Ok:=
 ⟨ok.mod,ok.kind,ok.glob,ok.blt,ok.above,ok.inj,ok.has,ok.cab,hd,ok.frames,ok.stk,ok.exf,ok.bs,ok.bsz,ok.noex,ok.exfs,ok.funs,ok.frf⟩
theorem Inv.outX (I:Inv (X.inX e) pins σ H s)(hd:X.calm=true->X.A.handled=none):Inv X pins σ H s:=⟨I.ok.outX I.ok hd,I.os,I.bare,I.base,I.loc,I.cell,I.free,I.freeC,I.pin,I.hok,I.len⟩
theorem SP.outX {D:b76}{f:Flow}{s':Shared}(h:SP (X.inX e) pins D f s')(hd:X.calm=true->X.A.handled=none):SP X pins D f s':=by
 cases f with
 | next=>obtain⟨σ',H',I,q⟩:=h;exact⟨σ',H',I.outX hd,q⟩
 | brk=>obtain⟨σ',H',I,q⟩:=h;exact⟨σ',H',I.outX hd,q⟩
 | cont=>obtain⟨σ',H',I,q⟩:=h;exact⟨σ',H',I.outX hd,q⟩
 | ret u=>obtain⟨v,σ',H',I,r,q⟩:=h;exact⟨v,σ',H',I.outX hd,r,q⟩
theorem cQ0 {M:Model}{A:Around}{E:Value->Shared->Prop}{hp:Heap}{gn:Array GenState}{dr:Drawn}{tn:Nat}{os:OsState}{C R:Addr}{oe:Obj}{Q:Bool->Shared->Prop}
  {nm qn:Str} {N:Addr} {bs bm:List Value} {hdd:Bool} {sn:List Str} {sub:List Value} {ab:Bool} {col:Option Bool} {dd:Option Addr} {k0 k1 k2 k3 k5:Option Value} {newId:String}
  {nm' qn':Str} {N':Addr} {bs' bm':List Value} {hdd':Bool} {sn':List Str} {sub':List Value} {ab':Bool} {col':Option Bool} {dd':Option Addr} {k0' k1' k2' k3' k5':Option Value} {newId':String}
  (hC:hp.get? C=some (excClassObj nm qn C N bs bm hdd sn sub ab col dd k0 k1 k2 k3 k5 newId)) (hR:hp.get? R=some (excClassObj nm' qn' R N' bs' bm' hdd' sn' sub' ab' col' dd' k0' k1' k2' k3' k5' newId'))
  (he:hp.get? e=some oe) (hcl:oe.cls= .ref C) (hb:bm'.contains (.type "BaseException")=true) (hr:(Value.ref C::bm).contains (.ref R)=true) (hq:Q true ⟨hp,gn,dr,tn,os⟩) :
  wpAny M A (excMatches (.ref e)<|.ref R) Q E ⟨hp,gn,dr,tn,os⟩:=by
 have t1:(Value.ref R::bm').contains (.type "BaseException")=true:=by rw[aF0,hb,Bool.or_true]
 have t2:=tc_notTuple;unfold excMatches
 repeat (first
  | (with_reducible refine mS he ?_;rw[hcl])
  | with_reducible refine mS hR ?_
  | (with_reducible refine xI hR ?_;rw[t1])
  | (with_reducible refine xI hC ?_;rw[hr])
  | wp_step)
 exact hq
end
theorem bD6.past {g h h':Heap}{fs:List Addr}{e:Addr}(n:bD6 g e h)(p:b84 fs e h h')(gh: ∀b o,g.get? b=some o-> ∃o',h.get? b=some o')(hf: ∀b∈fs,∀o,h'.get? b=some o-> ∀vs,o.data≠ .fields vs):bD6 g e h':=by
 refine⟨n.he,λT q=> ?_⟩
 rcases p.tr T q with z|z|z|z
 ·obtain⟨o,vs,q1,q2⟩:=p.rcd T q;exact absurd q2 (hf T z o q1 vs)
 ·rw[z];exact n.he
 ·exact n.ht T z
 ·cases r:g.get? T with
  | none=>rfl
  | some o=>obtain⟨o',q'⟩:=gh T o r;rw[z]at q';cases q'
theorem b12 {g h h':Heap}{fs:List Addr}{e:Addr}(n:bD6 g e h)(p:b84 fs e h h')(gh: ∀b o,g.get? b=some o-> ∃o',h.get? b=some o')(hf: ∀b∈fs,∀o,h.get? b=some o-> ∀vs,o.data≠ .fields vs): ∀b o,g.get? b=some o-> ∃o',h'.get? b=some o':=λb o q=>by
 obtain⟨o',q'⟩:=gh b o q
 by_cases c:b∈fs
 ·obtain⟨sl,z⟩:=p.slot b o' q' (hf b c o' q');exact⟨_,z⟩
 ·exact⟨o',p.keep b o' q' c (λz=>by rw[z,n.he]at q;cases q) λz=>by rw[n.ht b z]at q;cases q⟩
theorem d29 {h base:Heap}{l:List Env}(f:h.FunFrames base l): ∀b∈frs l,∀o,h.get? b=some o-> ∀vs,o.data≠ .fields vs:=λb hb o q=>by
 obtain⟨_,o',q',n⟩:=f.mem (b:=b) hb;rw[q]at q';cases q';exact n
def aK8 (CX:CXT)(X:Cx)(E:XK)(pins:List (Addr×Obj))(σ:St):Prop:= ∀(H:Hp) (s:Shared) (e:Value) (s':Shared),Inv X pins σ H s->CX X.stack H s E e s'->X.xe e s'
def aP0 (K:Frag)(R C:Addr)(bmB:List Value)(newId:String):Prop:=(excIn K C bmB newId=true\/ ∃fI,aA7 K C fI bmB newId=true)/\ ∃cd,clsIn K C=some cd/\cd.mro.contains (.ref R)=true
theorem underX {K:Frag}{h:Heap}{R C:Addr}{bmB:List Value}{newId:String}(X:K.In h)(u:aP0 K R C bmB newId): ∃(nm q:Str) (N:Addr) (bs bm:List Value) (hd:Bool) (sn:List Str) (sub:List Value) (ab:Bool) (col:Option Bool) (dd:Option Addr) (k0 k1 k2 k3 k5:Option Value),
  h.get? C=some (excClassObj nm q C N bs bm hd sn sub ab col dd k0 k1 k2 k3 k5 newId)/\(Value.ref C::bm).contains (.ref R)=true:=by
 obtain⟨a,cd,hc,hr⟩:=u;have has: ∃(nm q:Str) (N:Addr) (bs bm:List Value) (hd:Bool) (sn:List Str) (sub:List Value) (ab:Bool) (col:Option Bool) (dd:Option Addr) (k0 k1 k2 k3 k5:Option Value),h.get? C=some (excClassObj nm q C N bs bm hd sn sub ab col dd k0 k1 k2 k3 k5 newId):=by
  rcases a with a| ⟨fI,a⟩
  ·obtain⟨bm,⟨⟨nm,qn,N,bs,hdd,sn,sub,ab,col,dd,k0,k1,k2,k3,k5,mN,hC,_⟩,_⟩⟩:=bH4 X a;exact⟨nm,qn,N,bs,bm,hdd,sn,sub,ab,col,dd,k0,k1,k2,k3,k5,hC⟩
  ·obtain⟨bm,⟨⟨nm,qn,N,bs,hdd,sn,sub,ab,col,dd,k0,k1,k2,k3,k5,mN,hC,_⟩,_⟩⟩:=bQ6 X a;exact⟨nm,qn,N,bs,bm,hdd,sn,sub,ab,col,dd,k0,k1,k2,k3,k5,hC⟩
 obtain⟨nm,qn,N,bs,bm,hdd,sn,sub,ab,col,dd,k0,k1,k2,k3,k5,hC⟩:=has;refine⟨nm,qn,N,bs,bm,hdd,sn,sub,ab,col,dd,k0,k1,k2,k3,k5,hC,?_⟩;unfold clsIn at hc;split at hc
 ·rename_i look
  have same:=X _ _ look;rw[hC]at same;cases hc
  injection same with same
  injection same with _ _ same _
  injection same with same
  rw[<-same]at hr;exact hr
 ·cases hc
section
variable {X:Cx}
def tTry (K:Frag)(R:Addr)(bmB:List Value)(newId:String)(tb:XK->TS)(th:TS):TS:=λD σ H=> ∃E,tb E D σ H/\ ∀C o H',E (.ref C) o H'->aP0 K R C bmB newId/\th D σ H'
theorem ps_try {body:List Stmt}{b0:Stmt}{suite:List Stmt}{r:Str}{rp hpos pos:Pos}{R:Addr}{B newId initId:String}{bmB:List Value}{tb:XK->TS}{th:TS}(FB:ExcBaseFacts B newId initId bmB)(hstk:X.stack=X.env::X.outer)(hfr:X.env.frame=some X.env.locals)(hex:X.ex=[])(hc:X.calm=true)
  (hbody: ∀(xe:Value->Shared->Prop) (E:XK) (pins:List (Addr×Obj)) (s:Shared) (σ:St) (H:Hp) (D:b76),Inv (X.wish xe) pins σ H s->aK8 (CXr X.prog X.w X.base) (X.wish xe) E pins σ->tb E D σ H->wpAny (model X.prog X.w) X.A (execs body X.env) (SP (X.wish xe) pins D) xe s)
  (hsuite: ∀a,PSs (X.inX a) (b0::suite) th) (hg:Gl X r) (hm:X.mg r=some (.ref R)) (hR:excIn X.K R bmB newId=true) (hd:(r==("__debug__":Str))=false:=by decide) :
  PS X (.Try body [.ExceptHandler (some<|.Name r rp) none (b0::suite) hpos] [] [] pos) (tTry X.K R bmB newId tb th):=by
 rintro pins s σ H D I ⟨E,hb,hx⟩;refine wpAny_Try_except ?_;have goX:aK8 (CXr X.prog X.w X.base) (X.wish λe s1=>wpAny (model X.prog X.w) X.A (noteFrame e X.env) (λ_ s2=>wpAny (model X.prog X.w) X.A (setFlight e none) (λ_ s3=>wpAny (model X.prog X.w) X.A (handleBy e X.env [.ExceptHandler (some<|.Name r rp) none (b0::suite) hpos]) (SP X pins D) X.xe s3) X.xe s2) X.xe s1) E pins σ:=by
  rintro H1 s1 e s' J ⟨a,C,o',H',rfl,ho,hbr,un,hok,⟨⟨a0,fl⟩,fe,ft⟩,nw,_,hE⟩;have J0:=J.unwish;have J1:Inv X pins σ H' s':=J0.call' ho un hok hbr (λb z=>absurd z ae)
  obtain⟨under,hth⟩:=hx C o' H' hE;have fl':FlyingW X.base X.stack a (.ref C) a0 s'.heap:=fl;have frs':=J1.ok.frames;have g0: ∀b o,s1.heap.get? b=some o-> ∃o',s'.heap.get? b=some o':=λb o q=>un.there b o q ae
  have gs: ∀b o,X.s₀.heap.get? b=some o-> ∃o',s1.heap.get? b=some o':=λb o q=>J0.base.there b o q (by rw[hex];simp)
  have gp: ∀q∈X.pn++pins,∃o',s1.heap.get? q.1=some o':=λq hq=>⟨_,(J0.pin q hq).1⟩
  show wpAny _ _ (noteFrame (.ref a) X.env) _ _ s'
  rw[hstk]at fl' frs';refine cP2 frs' hfr fl' λh2 held p2=> ?_
  rw[<-hstk]at p2 held fl';have J2:=J1.past (g:=s1.heap) p2 hstk hfr hex gs gp nw.he nw.ht fe ft;have n2:=nw.past p2 g0 (d29 held.2.2.1);have g2:=b12 nw p2 g0 (d29 fl'.2.2.1);have t2:=aX1 J1.hok p2 J1.stkFree fe ft;refine bQ3 held λh3 fl3 p3=> ?_
  have J3:=J2.past (g:=s1.heap) p3 hstk hfr hex gs gp n2.he n2.ht fe t2;have n3:=n2.past p3 g2 (d29 fl3.2.2.1);have g3:=b12 n2 p3 g2 (d29 held.2.2.1);have t3:=aX1 J2.hok p3 J2.stkFree fe t2;obtain⟨oe,he,hcl⟩:=fl3.there;obtain⟨nm,qn,N,bs,bm,hdd,sn,sub,ab,col,dd,k0,k1,k2,k3,k5,hC,hin⟩:=underX J3.kIn under
  obtain⟨bm',⟨⟨nm',qn',N',bs',hdd',sn',sub',ab',col',dd',k0',k1',k2',k3',k5',mN',hRo,_⟩,tl'⟩⟩:=bH4 J3.kIn hR;refine wpAny_handleBy_cons (codeAny_handlers_test<|uL (X:=X.inX a) (J3.inX a) hg hm ?_ hd) (by intro q;cases q)
  refine cQ0 hC hRo he hcl (tl'.hasType FB.hasBase) hin ?_
  refine codeAny_handlers_suite (bQ3 fl3 λh4 fl4 p4=> ?_)
  have J4:=J3.past (g:=s1.heap) p4 hstk hfr hex gs gp n3.he n3.ht fe t3;exact bD (hsuite a pins _ σ H' D (J4.inX a) hth) (λf s2 q=>q.outX λ_=>J4.ok.hd hc) λ_ _ z=>z.elim
 refine bD (hbody _ E pins s σ H D (I.wish _) goX hb) (λf s1 q=> ?_) λ_ _ z=>z
 have q':=q.unwish;cases f with
 | next=>exact mV q'
 | ret v=>exact q'
 | brk=>exact q'
 | cont=>exact q'
end
end L2
end
section
namespace L2
open PySem PySem.Spec PyProof.Rows
section
variable {X:Cx}{CX:CXT}{k:Nat}{f C:Addr}{fd:FuncData}{ps:List Str}{sp:Sp}{dvs:List V}{ds:List Value}{E:XK}{x:Str}{p pos:Pos}{e:Expr}{es:List Expr}{t:TA}
theorem cE7 {pins:List (Addr×Obj)}{σ:St}{H:Hp}{s:Shared}{Q:VK}{us:List Value}{vs:List V}(M:Mk X.K C f)(F:qU X.prog X.w X.K X.mg X.base CX k f fd ps sp)(hr:gM (k+1) X.A)(hb:Binds X.K fd ps [])
  (hx:aK8 CX X E pins σ) (I:Inv X pins σ H s) (r:Vals vs us)
  (h: ∀x dx,H x=none->H dx=none->dx≠x->sp (.ref x::vs) (upd (upd H dx<|.own x) x<|.ins C dx []) (λv H2=>v= .non/\Q (.ref x) H2) E) :
  wpAny (model X.prog X.w) X.A (call (.ref C) us) (EP X pins σ Q) X.xe s:=by
 have hq:=h (s.heap.objs.size+1) s.heap.objs.size (I.hok.fresh<|tD _) (I.hok.fresh<|aB _) (bE<|pC _);have I2:=Inv.made (C:=C) I;have r2:Vals (V.ref (s.heap.objs.size+1)::vs) (Value.ref (s.heap.objs.size+1)::us):= .cons rfl r;have hl:(Value.ref (s.heap.objs.size+1)::us++[]).length=ps.length:=by
  have e:=r2.length;rw[F.len _ _ _ _ hq]at e;rw[i7];exact e.symm
 have bd:=hb (s:={s with heap:=(s.heap.push {cls:= .type "dict",data:= .dict #[]}).push (instObj C s.heap.objs.size)}) (Value.ref (s.heap.objs.size+1)::us) I2.kIn hl;rw[i7]at bd;refine tE (bN7 (f:=f) I.kIn M.makes M.init (fW.mp M.fn) (t6 (F.run _ X.stack _ _ ⟨Value.ref (s.heap.objs.size+1)::us,[]⟩ (Value.ref (s.heap.objs.size+1)::us) _ _ E (hr.make C us [])
  (I2.env0.make C us []) bd r2 hq) λr s' hq'=> ?_))
 cases r with
 | error e=>exact hx _ _ e s' I2 hq'
 | ok fl=>
  cases fl with
  | ret u=>
   obtain⟨v,H',I3,rv,ev,q3⟩:=I2.after hq';subst ev;exact⟨rv,⟨V.ref<|s.heap.objs.size+1,H',I3,rfl,q3⟩⟩
  | next=>exact False.elim hq'
  | brk=>exact False.elim hq'
  | cont=>exact False.elim hq'
theorem d30 {pins:List (Addr×Obj)}{σ:St}{H:Hp}{s:Shared}{Q:VK}(M:Mk X.K C f)(F:qU X.prog X.w X.K X.mg X.base CX k f fd ps sp)(hr:gM (k+1) X.A)(hg:Gl X x)(hm:X.mg x=some (.ref C))(hb:Binds X.K fd ps [])(hx:aK8 CX X E pins σ)
  (ha:PA X (e::es) t) (I:Inv X pins σ H s) (h:c59 C sp [] E t σ H Q) (hdb:(x==("__debug__":Str))=false) (he:starEach (e::es) X.env=(false,eval e X.env)::starEach es X.env) (hpl:(backTo pos<|starEach es X.env).any (·.1)=false) :
  wpAny (model X.prog X.w) X.A (eval (.Call (.Name x p) (e::es) [] pos) X.env) (EP X pins σ Q) X.xe s:=by
 refine oW (uL I hg hm ?_ hdb)
 refine aE8 (h₀:=X.base) I.ok.mod.kin M.kp (thn (ha pos pins s σ H _ I h) λus s1 ⟨vs,H1,I1,r,q⟩=>⟨I1.kIn,?_⟩) he hpl
 exact cE7 M F hr hb hx I1 r λx dx a b c=>by have:=q x dx a b c;rw[i7]at this;exact this
end
end L2
namespace M
open PySem PySem.Spec PyProof.Rows L2
section
variable {X:Cx}{e:Expr}{es:List Expr}{pos:Pos}{te:UE}{K:Frag}{A:AS}{H:Hp}
def bH9 (f:Str)(t:UE):UE:=λρ Q=>t ρ λb ρ1=>match b.d with
 | .obj _ ks l=>(match(ks.zip l).lookup f with
  | some d=>Q (.pu d) ρ1
  | none=>False)
 | _=>False
theorem bG.field {f:Str}{d:D}: ∀{ks:List Str} {l:List D} {vs:List V},bG K A H l vs->(ks.zip l).lookup f=some d-> ∃v,(ks.zip vs).lookup f=some v/\Rep K A H d v/\f∈ks
 | [],_,_,_,h=>by simp at h
 | _::_,[],_,_,h=>by simp at h
 | q::ks,a::l,vs,r,h=>by
  obtain⟨v,vr,rfl,r1,r2⟩:=r.uncons;rw[xJ,cJ]at h;rw[xJ,cJ];cases c:f==q with
  | true=>
   rw[c]at h;cases h;exact⟨v,rfl,r1,by rw[fW.mp c];simp⟩
  | false=>
   rw[c]at h;obtain⟨w,h1,h2,h3⟩:=bG.field r2 h;exact⟨w,h1,h2,b6 _ h3⟩
theorem bI0 {f:Str}(he:PU X e te)(hb:attributeBase e f X.env (eval e X.env)=eval e X.env:=by rfl):PU X (.Attribute e f pos) (bH9 f te):=
 iJ (pe_fld he hb) λσ H Q ⟨C,ρ,Q0,I,h,k⟩=>⟨C,ρ,_,I,h,λb ρ1 v H1 q fz s r=>by
  have rr:=r.rep λa z=>I.avF fz z
  cases ed:b.d with
  | obj C' ks l=>
   rw[ed]at rr q;dsimp only at q;cases el:(ks.zip l).lookup f with
   | none=>rw[el]at q;exact q.elim
   | some d=>
    rw[el]at q;simp only[Rep]at rr;obtain⟨a,dx,vs,rfl,n,c,hl,rl,ok⟩:=rr;obtain⟨w,h1,h2,h3⟩:=rl.field el;exact⟨a,C',dx,ks.zip vs,w,rfl,c,ok.1,ok.2 f h3,h1,k _ ρ1 w H1 q fz s h2⟩
  | _=>rw[ed]at q;exact q.elim⟩
abbrev ΦM:=List D->(List D->Prop)->XP->Prop
noncomputable def spI (K:Frag)(mg:Str->Option Value)(C:Addr)(ks:List Str)(φ:ΦM):Sp:=λvs H Q E=> ∃(x dx:Addr) (vs':List V) (A:AS) (ds:List D) (Q0:List D->Prop) (Ex:XP),vs=V.ref x::vs'/\H x=some (.ins C dx [])/\H dx=some (.own x)/\ ¬A x/\ ¬A dx/\(∀a,A a->H a≠none)/\bG K (λb=>A b\/b=x) H ds vs'/\φ ds Q0 Ex/\
 (∀l ws H',Q0 l->(∀b o,b≠x->H b=some o->H' b=some o)->H' x=some (.ins C dx<|ks.zip ws)->ks.length=ws.length->bG K (λb=>A b\/b=x) H' l ws->Q .non H')/\
 ∀n Cl es o H',Ex n es->mg n=some (.ref Cl)->(∀b o,b≠x->H b=some o->H' b=some o)->XR K A H' n es o->E (.ref Cl) o H'
structure MkX (P:Program)(w:World)(K:Frag)(mg:Str->Option Value)(base:Heap)(x:Str)(k:Nat)(ks:List Str)(φ:ΦM):Prop where
 ex: ∃C f fd ps,Mk K C f/\OkC K C ks/\qU P w K mg base (CXr P w base) k f fd ps (spI K mg C ks φ)/\Binds K fd ps []/\mg x=some (.ref C)
theorem d98 {C:Addr}{ks:List Str}{φ:ΦM}{t:UA}{E:XK}{C0:C0}{ρ:Ev}{σ:L2.St}{Q:VK}{Q0:Ev->List D->Prop}{Ex:Ev->XP}(ok:OkC X.K C ks)(I:EOk X.K C0 ρ σ H)(h:t ρ λds ρ1=>φ ds (Q0 ρ1) (Ex ρ1))
  (kq: ∀l ρ1 v H',Q0 ρ1 l->Frz ρ ρ1->gP H H'->Rep X.K (Av C0 ρ1 σ) H' (.obj C ks l) v->Q v H') (kx: ∀n Cl ρ1 es o H',Ex ρ1 n es->X.mg n=some (.ref Cl)->EOk X.K C0 ρ1 σ H'->XR X.K (Av C0 ρ1 σ) H' n es o->E (.ref Cl) o H') :
  c59 C (spI X.K X.mg C ks φ) [] E (lA X.K t) σ H Q:=by
 refine⟨C0,ρ,_,I,h,λds ρ1 vs H1 q f s r x dx nx nd ne=> ?_⟩
 have I1:=(I.frz f).same s;have hA: ∀a,Av C0 ρ1 σ a->H1 a≠none:=λa z=>I1.avSome z
 have s3:gP H1 (upd (upd H1 dx<|.own x) x<|.ins C dx []):=λb o z=>by
  rw[bL<|cP z nx,bL<|cP z nd];exact z
 have back: ∀H',(∀b o,b≠x->upd (upd H1 dx<|.own x) x (.ins C dx []) b=some o->H' b=some o)->gP H1 H':=λH' z b o q'=>z b o (cP q' nx) (s3 b o q')
 rw[i7];refine⟨x,dx,vs,Av C0 ρ1 σ,ds,Q0 ρ1,Ex ρ1,rfl,iB,by rw[bL ne];exact iB,λz=>hA x z nx,λz=>hA dx z nd,λa z q'=> ?_,r.mono<|lY.fresh s3 nx,q,λl ws H' q0 kp hx hl rl=>⟨rfl,?_⟩,λn Cl es o H' ex hm kp xr=> ?_⟩
 ·cases e':H1 a with
  | none=>exact hA a z e'
  | some o=>rw[s3 a o e']at q';cases q'
 ·refine kq l ρ1 _ H' q0 f (s.trans<|back H' kp) ?_
  simp only[Rep];exact⟨x,dx,ws,rfl,λz=>hA x z nx,hx,hl,rl.mono<|.sub (.refl _) λa z=> .inl z,ok⟩
 ·exact kx n Cl ρ1 es o H' ex hm (I1.same<|back H' kp) xr
def b13 (ks:List Str)(φ:ΦM)(t:UA):UE:=λρ Q=>t ρ λds ρ1=>φ ds (λl=> ∀C,Q (.pu<|.obj C ks l) ρ1) λ_ _=>False
theorem c78 {k k':Nat}{ks:List Str}{φ:ΦM}{x:Str}{p:Pos}{t:UA}(F:MkX X.prog X.w X.K X.mg X.base x k ks φ)(hr:gM (k'+1) X.A)(hk:k<=k')(hg:Gl X x)(ha:PUA X (e::es) t)(hdb:(x==("__debug__":Str))=false:=by decide)
  (he:starEach (e::es) X.env=(false,eval e X.env)::starEach es X.env:=by rfl) (hpl:(backTo pos<|starEach es X.env).any (·.1)=false:=by rfl):PU X (.Call (.Name x p) (e::es) [] pos) (b13 ks φ t):=by
 obtain⟨C,f,fd,ps,M,ok,G,b,m⟩:=F.ex;have hp:v6 (CXr X.prog X.w X.base) X (λ_ _ _=>False):=by
  rintro pins σ H s e s' I ⟨_,_,_,_,_,_,_,_,_,_,_,_,z⟩;exact z.elim
 refine iJ (cY9 M (G.mono hk) hr hg m b .nil hp ha hdb he hpl) λσ H Q ⟨C0,ρ,Q0,I,h,k⟩=> ?_
 exact d98 (Q0:=λρ1 l=> ∀C,Q0 (.pu<|.obj C ks l) ρ1) (Ex:=λ_ _ _=>False) ok I h (λl ρ1 v H' q f s r=>k _ ρ1 v H' (q C) f s r) λn Cl ρ1 es o H' z=>z.elim
def cQ1 (i:Nat)(ks:List Str)(φ:ΦM)(t:UA)(names:List Str)(th:US):US:=λE ρ=>t ρ λds ρ1=>φ ds (λl=> ∀C,E.nx<|ρ1.set i<|some<|.pu<|.obj C ks l) λn _=>n∈names/\th E ρ1
theorem d31 {k k':Nat}{ks:List Str}{φ:ΦM}{x y r:Str}{p cpos apos py rp hpos:Pos}{t:UA}{b0:Stmt}{suite:List Stmt}{th:US}{R:Addr}{B newId initId:String}{bmB:List Value}(i:Nat)(names:List Str)(FB:ExcBaseFacts B newId initId bmB)(F:MkX X.prog X.w X.K X.mg X.base x k ks φ)(hr:gM (k'+1) X.A)(hk:k<=k')(hstk:X.stack=X.env::X.outer)(hfr:X.env.frame=some X.env.locals)(hex:X.ex=[])(hc:X.calm=true)
  (hg:Gl X x) (ha: ∀xe,PUA (X.wish xe) (e::es) t) (hN:X.N.Nodup) (hi:X.N[i]? =some y) (hy:Loc X.env.scope y) (hsuite: ∀a,qW (X.inX a) (b0::suite) th) (hgr:Gl X r) (hmr:X.mg r=some (.ref R)) (hR:excIn X.K R bmB newId=true) (hu: ∀n∈names,∀C,X.mg n=some (.ref C)->aP0 X.K R C bmB newId)
  (hl: ∀pins σ H s,Inv X pins σ H s->i<σ.length) (hdb:(x==("__debug__":Str))=false:=by decide) (hd:(r==("__debug__":Str))=false:=by decide)
  (he:starEach (e::es) X.env=(false,eval e X.env)::starEach es X.env:=by rfl) (hpl:(backTo cpos<|starEach es X.env).any (·.1)=false:=by rfl) (hs:swapsWith (.Call (.Name x p) (e::es) [] cpos) (some<|.Name y py) apos.line X.env=pure false:=by rfl) (hf:X.fn y=true\/X.env.scope.names.lookup y=some .local:=by walk_at "z") :
  PUS X (.Try [.Assign [.Name y py] (.Call (.Name x p) (e::es) [] cpos) apos] [.ExceptHandler (some<|.Name r rp) none (b0::suite) hpos] [] [] pos) (cQ1 i ks φ t names th):=by
 obtain⟨C,f,fd,ps,M,ok,G,b,m⟩:=F.ex;intro pins s σ H D J q;refine ps_try (R:=R) (tb:=λE=>cX8 (c59 C (spI X.K X.mg C ks φ) [] E<|lA X.K t) (a14 i)) (th:=lS X.K th) FB hstk hfr hex hc (λxe E pins s σ H D I pa h=> ?_) hsuite hgr hmr hR hd pins s σ H D J ?_
 ·refine sQ (wpAny_Assign_Name (thn (d30 (X:=X.wish xe) M (G.mono hk) hr hg m b pa (ha xe) I h hdb he hpl) λv s1 ⟨y',H1,I1,r1,q1⟩=> ?_) hs)
  exact aJ2 (X:=X.wish xe) I1 hN hi hy r1 (λs2 I2=>mV ⟨_,H1,I2,q1⟩) hf
 ·obtain⟨C0,ρ,D0,I,h,k⟩:=q;refine⟨λcls _ H'=> ∃n Cl ρ1,cls=Value.ref Cl/\X.mg n=some (.ref Cl)/\n∈names/\th D0 ρ1/\EOk X.K C0 ρ1 σ H',?_,?_⟩
  ·exact d98 (Q0:=λρ1 l=> ∀C,D0.nx<|ρ1.set i<|some<|.pu<|.obj C ks l) (Ex:=λρ1 n _=>n∈names/\th D0 ρ1) ok I h
    (λl ρ1 v H' q f s1 r=>k.nx _ _ _ (q C) ((I.frz f).store s1 (show tH X.K (Av C0 ρ1 σ) H H' (.pu<|.obj C ks l) v from r)<|hl pins σ H s J)) λn Cl ρ1 es o H' z hm' I' _=>⟨n,Cl,ρ1,rfl,hm',z.1,z.2,I'⟩
  ·rintro Cl o H' ⟨n,Cl',ρ1,e1,hm',hn,ht,I'⟩;cases e1;exact⟨hu n hn Cl hm',C0,ρ1,D0,I',ht,k⟩
end
end M
end
section
namespace M
open PySem PySem.Spec PyProof.Rows L2
section
variable {K:Frag}{C:C0}{ρ ρ':Ev}{σ:L2.St}{H H':Hp}
theorem EOk.poke {x:Addr}{o:HO}(I:EOk K C ρ σ H)(ax:C.A0 x)(hx: ∀vs,C.H0 x≠some (.lst vs)):EOk K ⟨λb=>if b=x then some o else C.H0 b,C.A0⟩ ρ σ (upd H x o):=by
 have ne: ∀a,C.H0 a=none->a≠x:=λa z e=>by subst e;exact I.a0 a ax z
 have P:lY (Av C ρ σ) H (Av ⟨λb=>if b=x then some o else C.H0 b,C.A0⟩ ρ σ) (upd H x o):=λb u nb e=>⟨nb,by rw[bL λz=>nb (by subst z;exact .inl ax)];exact e⟩
 refine⟨I.len,?_,?_,I.inj,?_,?_,?_⟩
 ·intro i d h;obtain⟨v,h1,h2⟩:=I.pu i d h;exact⟨v,h1,h2.mono P⟩
 ·intro i l h;obtain⟨a,vs,h1,h2,h3,h4⟩:=I.ow i l h;have na:=ne a h3;exact⟨a,vs,h1,by rw[bL na];exact h2,by show(if a=x then some o else C.H0 a)=none;rw[a6 na];exact h3,h4.mono P⟩
 ·intro i l h;obtain⟨a,vs,h1,h2,h3,h4⟩:=I.bo i l h;have na:a≠x:=λz=>by subst z;exact hx vs h3
  exact⟨a,vs,h1,h2,by show(if a=x then some o else C.H0 a)=_;rw[a6 na];exact h3,h4.mono P⟩
 ·intro b u h
  by_cases c:b=x
  ·subst c;have h':(if b=b then some o else C.H0 b)=some u:=h;rw[a7 rfl]at h';rw[iB];exact h'
  ·have h':(if b=x then some o else C.H0 b)=some u:=h;rw[a6 c]at h';rw[bL c];exact I.ext b u h'
 ·intro a z;show(if a=x then some o else C.H0 a)≠none;split
  ·simp
  ·exact I.a0 a z
theorem b14 {x Cl dx:Addr}{fs:List (Str×V)}{f:Str}{te:UE}{Q0:B->Ev->Prop}{D:b76}(I:EOk K C ρ σ H)(ax:C.A0 x)(hx:H x=some (.ins Cl dx fs))(h0:ρ[0]? =some (some<|.pu<|.adr x))(cl:Cls K Cl)(na:a15 K Cl f)(hf:fs.length<1000)(h:te ρ Q0)
  (k: ∀b ρ1 w H',Q0 b ρ1->ρ1[0]? =some (some<|.pu<|.adr x)->(∀a o,a≠x->H a=some o->H' a=some o)->H' x=some (.ins Cl dx<|uH f w fs)->(∃C1:C0,C1.A0=C.A0/\EOk K C1 ρ1 σ H')->Rep K C.A0 H' b.d w->(∀d v,Rep K C.A0 H d v->Rep K C.A0 H' d v)->D.nx σ H') :
  cJ2 K (a08 0) (lE K te) f D σ H:=by
 refine⟨C,ρ,Q0,I,h,λb ρ1 w H1 q fz s r=> ?_⟩
 have I1:=(I.frz fz).same s;have h1:ρ1[0]? =some (some<|.pu<|.adr x):=by
  rcases fz.2 0 with z| ⟨l,z,_⟩
  ·rw[z];exact h0
  ·rw[h0]at z;cases z
 obtain⟨v,e1,e2⟩:=I1.pu 0 _ h1;simp only[Rep]at e2;subst e2;have hx1:=s _ _ hx;have nl: ∀vs,C.H0 x≠some (.lst vs):=λvs z=>by
  have:=I.ext x _ z;rw[hx]at this;cases this
 have P:lY C.A0 H1 C.A0 (upd H1 x<|.ins Cl dx<|uH f w fs):=lY.upd ax;refine⟨.ref x,e1,x,Cl,dx,fs,rfl,hx1,cl,na,hf,k b ρ1 w _ q h1 (λa o ne e=>by rw[bL ne];exact s a o e) iB ⟨⟨λb=>if b=x then some (.ins Cl dx<|uH f w fs)else C.H0 b,C.A0⟩,rfl,I1.poke (o:= .ins Cl dx (uH f w fs)) ax nl⟩ ?_ λd v r'=> ?_⟩
 ·exact((r.rep λa z=>I.avF fz z).mono<|.sub (.refl _) λa z=> .inl z).mono P
 ·exact(r'.mono<|.same s).mono P
end
section
variable {X:Cx}{E:XK}{st:Stmt}{sts:List Stmt}{t u:USX}{tS:TS}
theorem d32 (h1:bH5 X E st t)(h2:PSs X sts tS):PSs X (st::sts) (λD=>lSX X.K X.mg E t {D with nx:=tS D}):=qG h1 h2
theorem aX2 (h1:bH5 X E st t)(h2:PSs X sts (λD=>lSX X.K X.mg E u {D with nx:=tS D})):PSs X (st::sts) (λD=>lSX X.K X.mg E (λEx=>aV (t Ex) (u Ex)) {D with nx:=tS D}):=
 aG2 (qG h1 h2) λD σ H ⟨C,ρ,D0,Ex,I,h,k,kx⟩=>⟨C,ρ,{D0 with nx:=u Ex D0},Ex,I,h,⟨λρ' σ' H' q I'=>⟨C,ρ',D0,Ex,I',q,k,kx⟩,k.rt,k.bk,k.ct⟩,kx⟩
def tS3 (K:Frag)(f1 f2 f3:Str)(t1 t2 t3:UE):TS:=tSeq (cJ2 K (a08 0) (lE K t1) f1) (tSeq (cJ2 K (a08 0) (lE K t2) f2)<|cJ2 K (a08 0) (lE K t3) f3)
end
theorem cQ2 {P:Program}{w:World}{K:Frag}{mg:Str->Option Value}{base:Heap}{x qual:Str}{st:Stmt}{f Cl:Addr}{fd:FuncData}{N ps:List Str}{k:Nat}{φ:ΦM}{f1 f2 f3:Str}{t1 t2 t3:UE}(F:Fun K x qual st f fd)(S:aZ N ps (aD st))(ok:OkC K Cl [f1,f2,f3])(n1:f1≠f2)(n2:f1≠f3)(n3:f2≠f3)
  (len: ∀ds Q Ex,φ ds Q Ex->ds.length+1=ps.length) (hN:N≠[]) {t:USX}
  (der: ∀(cdv:Value) (A:Around) (outer:List Env) (s:Shared) (H:Hp) (E:XK),gM k (A.deeper<|envOfC qual (aD st) s.heap.objs.size f cdv)->
   PSs (qV (CXr P w base) P w K mg base N qual (aD st) f cdv A outer s H E) (dJ st) (λD=>lSX K mg E t {D with nx:=tS3 K f1 f2 f3 t1 t2 t3 D}))
  (rd: ∀a ds Q Ex,φ ds Q Ex->t Ex {nx:=λρ=>ρ[0]? =some (some<|.pu<|.adr a)/\t1 ρ λb1 ρ1=>t2 ρ1 λb2 ρ2=>t3 ρ2 λb3 _=>Q [b1.d,b2.d,b3.d],rt:=λ_=>False} (init N (.adr a::ds))) :
  qU P w K mg base (CXr P w base) (k+1) f fd ps (spI K mg Cl [f1,f2,f3] φ):=by
 obtain⟨oc,od,kV,doc,pm,an,cdv,ct,osl,rfl,lk,hcd⟩:=F.ex;refine cJ7 lk hcd S (λvs H Q E h=> ?_) λA outer s H vs Q E hr h=> ?_
 ·obtain⟨x,dx,vs',A,ds,Q0,Ex,rfl,_,_,_,_,_,r,h,_⟩:=h;have:=len ds Q0 Ex h;rw[gJ,<-r.length];exact this
 ·obtain⟨x,dx,vs',A',ds,Q0,Ex,rfl,hx,hdx,nx,nd,hA,r,h,q,qx⟩:=h;have hA2: ∀a,(A' a\/a=x)->H a≠none:=λa z=>by
   rcases z with z|rfl
   ·exact hA a z
   ·rw[hx];simp
  have r2:bG K (λb=>A' b\/b=x) H (.adr x::ds) (.ref x::vs'):= .cons (by simp only[Rep]) r
  refine⟨_,der cdv A outer s H E hr,⟨H,λb=>A' b\/b=x⟩,init N (.adr x::ds),_,Ex,aW6 hA2 r2,rd x ds Q0 Ex h,⟨λρ σ H' z I=> ?_,λ_ _ _ z=>z.elim,λ_ _ _ z=>z.elim,λ_ _ _ z=>z.elim⟩,λn Cl' es o H' ex hm sm xr=>qx n Cl' es o H' ex hm (λb o _ e=>sm b o e) (xr.mono<|.sub (.refl _) λa z=> .inl z)⟩
  obtain⟨z0,z⟩:=z;have hx':H' x=some (.ins Cl dx []):=I.ext x _ hx;refine b14 (C:=⟨H,λb=>A' b\/b=x⟩) I (.inr rfl) hx' z0 ok.1 (ok.2 f1 ae) ac z ?_
  rintro b1 ρ1 w1 H1 z1 z0 k1 x1 ⟨C1,a1,I1⟩ r1 m1;refine b14 (C:=C1) I1 (by rw[a1];exact .inr rfl) x1 z0 ok.1 (ok.2 f2 ae) (show 1<1000 by decide) z1 ?_
  rintro b2 ρ2 w2 H2 z2 z0 k2 x2 ⟨C2,a2,I2⟩ r2 m2;refine b14 (C:=C2) I2 (by rw[a2,a1];exact .inr rfl) x2 z0 ok.1 (ok.2 f3 ae) (by simp[uH,n1]) z2 ?_
  rintro b3 ρ3 w3 H3 z3 z0 k3 x3 ⟨C3,a3,I3⟩ r3 m3;rw[a1]at m2 r2;rw[a2,a1]at m3 r3;refine q [b1.d,b2.d,b3.d] [w1,w2,w3] H3 z3 (λb o ne e=>k3 b o ne (k2 b o ne<|k1 b o ne<|I.ext b o e)) ?_ rfl (.cons (m3 _ _<|m2 _ _ r1)<|.cons (m3 _ _ r2)<|.cons r3 .nil)
  rw[x3];simp[uH,n1,n2,n3]
noncomputable def bI1 (s:Stmt):List Stmt:=match s with
 | .ClassDef _ _ _ b _ _ _ _ _ _ _=>b
 | _=>[]
section
variable {P:Program}{w:World}{K:Frag}{mg:Str->Option Value}{base:Heap}
theorem c79 {C fI:Addr}{od an:Option Addr}{osl:Array (Option Value)}{kV doc pm cdv ct:Value}{nm qual:Str}{st:Stmt}{x0 x1 x2 f1 f2:Str}{p1 p2 p3 p4 p5 p6 p7 p8:Pos}
  (l:K.lookup fI=some ⟨.type "function",od,.func<|fnOf nm qual (jS st) (dJ st) (aD st) .none kV doc pm an cdv ct,osl⟩) (c:codeIn K cdv qual=true) (k:keepIn K (.ref fI)=true)
  (hb:dJ st=[.Assign [.Attribute (.Name x0 p1) f1 p2] (.Name x1 p3) p4,.Assign [.Attribute (.Name x0 p5) f2 p6] (.Name x2 p7) p8]) (S:aZ [x0,x1,x2] [x0,x1,x2] (aD st))
  (l0:(aD st).names.lookup x0=some .local) (l1:(aD st).names.lookup x1=some .local) (l2:(aD st).names.lookup x2=some .local) (d0:(x0==("__debug__":Str))=false) (d1:(x1==("__debug__":Str))=false) (d2:(x2==("__debug__":Str))=false)
  (bd: ∀(kV doc pm:Value) (an:Option Addr) (cdv ct:Value) (us:List Value),us.length=[x0,x1,x2].length->bindArgs (fnOf nm qual (jS st) (dJ st) (aD st) .none kV doc pm an cdv ct) ⟨us,[]⟩=pure ([x0,x1,x2].zip us))
  {cd:ClassData} (hc:clsIn K C=some cd) (hm:tP cd.mro=true) (hd:cd.hasDict=true) (sa:findIn K (.ref C) "__setattr__"=some (some<|.builtin "object.__setattr__")) (n1:findIn K (.ref C) f1=some none) (n2:findIn K (.ref C) f2=some none) :
  bQ5 K C fI (fnOf nm qual (jS st) (dJ st) (aD st) .none kV doc pm an cdv ct) f1 f2:=
 ⟨⟨_,od,nm,qual,jS st,aD st,kV,doc,pm,an,cdv,ct,osl,x0,x1,x2,p1,p2,p3,p4,p5,p6,p7,p8,by rw[hb],l,rfl,c,S,l0,l1,l2,d0,d1,d2,(aZ1 (st:=st) l c k).binds bd⟩,⟨cd,hc,hm,hd⟩,sa,n1,n2⟩
theorem aP1 {R C:Addr}{bmB:List Value}{newId:String}{cd:ClassData}(h:excIn K C bmB newId=true\/ ∃fI,aA7 K C fI bmB newId=true)(hc:clsIn K C=some cd)(hm:cd.mro.contains (.ref R)=true):aP0 K R C bmB newId:=⟨h,cd,hc,hm⟩
theorem Fn.mkA {x y qual:Str}{st:Stmt}{f:Addr}{fd:FuncData}{N ps:List Str}{k:Nat}{φ:Φ}(F:Fun K y qual st f fd)(m:mg x=some (.ref f))(b:Binds K fd ps [])(S:aZ N ps (aD st))
  (len: ∀ds Q,φ ds Q->ds.length=ps.length) {t:US}
  (der: ∀(cdv:Value) (A:Around) (outer:List Env) (s:Shared) (H:Hp) (E:XK),gM k (A.deeper<|envOfC qual (aD st) s.heap.objs.size f cdv)->qW (qV CX0 P w K mg base N qual (aD st) f cdv A outer s H E).nox (dJ st) t)
  (rd: ∀ds Q,φ ds Q->t {nx:=λ_=>Q (.pu .non),rt:=Q} (init N ds)):Fn P w K mg base x ps (k+1) φ:=
 ⟨f,fd,c67 F S len λcdv A outer s H E hr=>⟨t,der cdv A outer s H E hr,rd⟩,b,F.kp,m⟩
end
end M
end
section
open PySem L2 M
local macro_rules| `(tactic| walk_at "u")=> `(tactic| simp only[uRev,gRev,uSlT,gSlT,c05,uPop,c71,c73,d25,b83,D.isN,gMaxL,bP6,uLookF,uRevL,uLookE,uAppZ,c13,bH8,aK7,bH7,aV,cE,dE,uRetN,tI,gH,cQ,uOp,uC,aC,aS4,aO,aZ3,uV,uIx,gIx,gN,mC,aP,a9,aK,lD,gF,aZ7,qK,jA,jU,M.gSub,j9,b79,oE,d03,gI2,nB,j2,isB,B.d,b78,uOr,a96,c64,uOrV,cK6,cR,dZ,uPar,bO5,uSl,wF,yH,gSl,cL7,gMax,gMin,gToInt,fO,a83,b80,g1,g2,d04,bC1,uIf,b00,gSum,aK2,cC9,rL,fB,rK,kG,aJ7,bC9,cN3,d16,cN2,iL,d08,tL,aG6,d09,bind_some,Option.bind_none,Option.map_some,Option.map_none,Option.join,
 oM,x9,aY5,aY6,gJ,List.length_nil,fS,mY,kS,aF5,aD0,cF,dQ,reduceCtorEq])
namespace M
def a29:Φ:=λds Q=> ∃c k p:Int,ds=[.int c,.int k,.int p]/\0<=k/\k<4294967296/\0<p/\ ∀r:Int,0<=r->r<p->Q (.pu<|.int r)
def b15:US:=(aV (cE 3<|uOp oE (uOp j9 (uOp jU (uOp jU (uOp jU (aC 0)<|uOp j9 (uOp j9 (uC<|.int 7)<|aC 1)<|aC 1)<|uOp j9 (uC<|.int 13)<|aC 1)<|uC<|.int 5)<|uC<|.int 48271)<|uC<|.int 2147483647)<|aV (cE 3<|uOp oE (uOp j9 (aC 3)<|aC 3)<|uC<|.int 2147483629)<|dE<|uOp oE (uOp j9 (aC 3)<|uC<|.int 39373)<|aC 2)
theorem dY (i:Int){j:Int}(h:0<j):i.fmod j=i%j:=Int.fmod_eq_emod_of_nonneg i (Int.le_of_lt h)
theorem wK (i:Int){j:Int}(h:0<j):i.fdiv j=i/j:=Int.fdiv_eq_ediv_of_nonneg i (Int.le_of_lt h)
theorem cmR {i j:Int}(h1: -18446744073709551616<j)(h2:j<18446744073709551616):bY2 i j\/(Sm i/\Sm j):= .inl (.inr ⟨h1,h2⟩)
theorem cmL {i j:Int}(h1: -18446744073709551616<i)(h2:i<18446744073709551616):bY2 i j\/(Sm i/\Sm j):= .inl (.inl ⟨h1,h2⟩)
theorem cQ3: ∀ds Q,a29 ds Q->b15 {nx:=λ_=>Q (.pu .non),rt:=Q} (init ["c","k","p","f"] ds):=by
 rintro ds Q ⟨c,k,p,rfl,h0,h1,hp,h⟩;unfold b15;show(aV _ _:US) _ [some<|.pu<|.int c,some<|.pu<|.int k,some<|.pu<|.int p,none];walk_at "u";rw[dY _ (by decide:(0:Int)<2147483647),dY _ (by decide:(0:Int)<2147483629),dY _ hp]
 refine⟨cmL ac ac,cmR aa aa,cmL ac ac,cmR ac ac,ac,cmR aa aa,ac,cmR ac ac,aa,?_⟩
 exact h _ (cM _ aa) (cV _ hp)
theorem bV {ui:UI}{g:UG}{tb:US}{D:UD}{ρ:Ev}(n:Nat)(it:Nat->M.D)(ρ1:Ev)(hui: ∀Q:Nat->(Nat->M.D)->Ev->Prop,Q n it ρ1->ui ρ Q)(Pv:Nat->Ev->Prop)(h0:Pv 0 ρ1)
  (hs: ∀i ρ,i<n->Pv i ρ->g (.pu<|it i) ρ λρ2=>tb {D with nx:=Pv (i+1),ct:=Pv (i+1),bk:=D.nx} ρ2) (hd: ∀ρ,Pv n ρ->D.nx ρ):kI ui g tb D ρ:=hui _ ⟨Pv,h0,hs,hd⟩
theorem c80 {ws:List Int}{i:Nat}(h:i<ws.length):atI (ws.map D.int) (0+(i:Int))=some (.int ws[i]):=by
 rw[d5];exact cD (by rw[bI,aJ h];rfl)
def Below (xs ws:List Int):Prop:=xs.length=ws.length/\ ∀(j:Nat) (x w:Int),xs[j]? =some x->ws[j]? =some w->0<=x/\x<w
theorem cpl {i j:Int}(h1:0<=j)(h2:j<=1000000)(h3:i.natAbs<2^64):cY2 i j:=⟨h1,h2,h3⟩
def qL:Φ:=λds Q=> ∃(c:Int) (ws:List Int) (p:Int),ds=[.int c,.lst<|ws.map .int,.int p]/\ws.length<=1000/\0<p/\(∀w∈ws,0<w/\w<18446744073709551616)/\ ∀xs:List Int,Below xs ws->Q (.ow<|xs.map .int)
def b16:US:=(aV (cE 3<|uC<|.int 0)<|aV (gH (cQ<|uOp (nB λi j=>decide (j<=i)) (aC 0)<|uOp d03 (uC<|.int 10)<|uC<|.int 18) (cE 3<|uOp M.gSub (aC 0)<|uOp d03 (uC<|.int 10)<|uC<|.int 18) dZ)<|aV (cE 4<|lD aK)<|aV (kI (kG<|a9 (gN<|aO 1) aK) (cR 5)<|gH (cQ<|uOp (nB λi j=>decide (j<i)) (aC 3)<|uC<|.int 1) (aV (aZ7 4<|uOp oE (aC 3)<|uIx (aO 1)<|aC 5)<|cE 3<|uOp b79 (aC 3)<|uIx (aO 1)<|aC 5)<|aZ7 4<|uOp oE (aP a29<|a9 (aC 0)<|a9 (aC 5)<|a9 (aC 2) aK)<|uIx (aO 1)<|aC 5)<|tI 4)
theorem bQ7 {i:Int}(h1: -18446744073709551616<i)(h2:i<18446744073709551616):Sm i:=by
 unfold Sm;have h3:i.natAbs<18446744073709551616:=aa
 exact b9 h3 af
theorem b17 {xs ws:List Int}{x:Int}(h: ∀(j:Nat) (x w:Int),xs[j]? =some x->ws[j]? =some w->0<=x/\x<w)(hl:xs.length<ws.length)(h0:0<=x)(h1:x<ws[xs.length]) :
  ∀(j:Nat) (y w:Int),(xs++[x])[j]? =some y->ws[j]? =some w->0<=y/\y<w:=by
 intro j y w e1 e2
 by_cases hj:j<xs.length
 ·rw[wY hj]at e1;exact h j y w e1 e2
 ·rw[sG ad]at e1
  by_cases hj':j=xs.length
  ·subst hj';simp at e1;subst e1;rw[aJ hl]at e2;cases e2;exact⟨h0,h1⟩
  ·have:j-xs.length≠0:=ad
   cases e:j-xs.length with
   | zero=>lia
   | succ n=>rw[e]at e1;simp at e1
theorem cQ4: ∀ds Q,qL ds Q->b16 {nx:=λ_=>Q (.pu .non),rt:=Q} (init ["c","w","p","l","f","k"] ds):=by
 rintro ds Q ⟨c,ws,p,rfl,hlen,hp,hw,h⟩;unfold b16;have tail: ∀left:Int,(aV (cE 4<|lD aK) (aV (kI (kG<|a9 (gN<|aO 1) aK) (cR 5)<|gH (cQ<|uOp (nB λi j=>decide (j<i)) (aC 3)<|uC<|.int 1) (aV (aZ7 4<|uOp oE (aC 3)<|uIx (aO 1)<|aC 5)<|cE 3<|uOp b79 (aC 3)<|uIx (aO 1)<|aC 5)<|aZ7 4<|uOp oE (aP a29<|a9 (aC 0)<|a9 (aC 5)<|a9 (aC 2) aK)<|uIx (aO 1)<|aC 5)<|tI 4):US)
   {nx:=λ_=>Q (.pu .non),rt:=Q} [some<|.pu<|.int c,some<|.pu<|.lst<|ws.map .int,some<|.pu<|.int p,some<|.pu<|.int left,none,none]:=by
  intro left;rw[aV];walk_at "u";refine⟨ac,?_⟩
  refine bV ws.length (λi=> .int (0+i)) [some<|.pu<|.int c,some<|.pu<|.lst<|ws.map .int,some<|.pu<|.int p,some<|.pu<|.int left,some<|.ow [],none] ?_
   (λi ρ=> ∃(l:Int) (xs:List Int) (kk:Option B),ρ=[some<|.pu<|.int c,some<|.pu<|.lst<|ws.map .int,some<|.pu<|.int p,some<|.pu<|.int l,some<|.ow<|xs.map .int,kk]/\xs.length=i/\ ∀(j:Nat) (x w:Int),xs[j]? =some x->ws[j]? =some w->0<=x/\x<w)
   ⟨left,[],none,rfl,rfl,λj x w e=>by simp at e⟩ ?_ ?_
  ·intro Q q;simp only[kG];walk_at "u";rw[aH];refine⟨⟨ad,ad⟩,?_⟩
   rw[eM];exact q
  ·rintro i ρ hi ⟨l,xs,kk,rfl,hl,hb⟩;subst hl;obtain⟨w0,w1⟩:=hw _ (dO hi);walk_at "u";refine⟨ac,?_⟩
   by_cases hc:1<l
   ·rw[a7 hc];simp only[c80 hi];rw[dY _ w0,wK _ w0];refine⟨ad,?_,⟨ad,bQ7 ad w1⟩,_,xs++[l%ws[xs.length]],_,by rw[cN];rfl,ae,b17 hb hi (cM _ ad)<|cV _ w0⟩
    rw[aH];exact b9 hi (aT hlen ac)
   ·rw[a6 hc];refine⟨c,(0+(xs.length:Int)),p,rfl,ad,ad,hp,λr r0 r1=> ?_⟩
    simp only[c80 hi];rw[dY _ w0];refine⟨ad,?_,l,xs++[r%ws[xs.length]],_,by rw[cN];rfl,ae,b17 hb hi (cM _ ad)<|cV _ w0⟩
    rw[aH];exact b9 hi (aT hlen ac)
  ·rintro ρ ⟨l,xs,kk,rfl,hl,hb⟩;walk_at "u";exact h xs ⟨hl,hb⟩
 show(aV _ _:US) _ [some<|.pu<|.int c,some<|.pu<|.lst<|ws.map .int,some<|.pu<|.int p,none,none,none]
 refine(show cY2 10 18/\(if decide ((10:Int)^(18:Int).toNat<=c)=true then _ else _)from⟨cpl ac ac ac,?_⟩)
 split
 ·exact⟨cpl ac ac ac,tail _⟩
 ·exact tail _
theorem a30 {d:D}{l:List D}:atI (d::l) 0=some d:=cD (j:=0) rfl
theorem cQ5 {ys:List Int}{i:Nat}(h:i< (ys.map D.int).length): ∃z,(ys.map D.int).getD i .non= .int z:=by
 rw[aH]at h;exact⟨ys[i],by rw[aI,bI,aJ h];rfl⟩
theorem bQ8 (k:Nat)(z:Int):(replicate k [D.int z]).flatten=(replicate k z).map .int:=by
 induction k with
 | zero=>rfl
 | succ k ih=>rw[jI,mQ,ih,jI];rfl
def aK9:Φ:=λds Q=> ∃(ns:List Int) (k:Int),ds=[.rol<|ns.map .int,.int k]/\ns.length<=63/\0<=k/\k<4294967296/\ ∀r:Int,Q (.pu<|.int r)
def bI2:US:=(aV (gH (cQ<|uOp (j2 false) (gN<|aO 0)<|uC<|.int 0) (dE<|uOp j9 (uC<|.int 7919)<|uOp jU (aC 1)<|uC<|.int 1) dZ)<|aV (gH (cQ<|uOp (nB λi j=>decide (i<j)) (aC 1)<|gN<|aO 0) (dE<|uIx (aO 0)<|aC 1) dZ)<|dE<|uOp jU (uIx (aO 0)<|uOp oE (aC 1)<|gN<|aO 0)<|uOp j9 (uC<|.int 104729)<|aC 1)
theorem cQ6 {ns:List Int}{k:Int}(h0:0<=k)(h1:k<ns.length): ∃z,atI (ns.map D.int) k=some (.int z):=by
 obtain⟨i,rfl⟩: ∃i:Nat,k=(i:Int):=⟨k.toNat,ad⟩
 have hi:i<ns.length:=ad
 exact⟨ns[i],cD (by rw[bI,aJ hi];rfl)⟩
theorem d33: ∀ds Q,aK9 ds Q->bI2 {nx:=λ_=>Q (.pu .non),rt:=Q} (init ["s","k"] ds):=by
 rintro ds Q ⟨ns,k,rfl,hl,k0,k1,h⟩;unfold bI2;show(aV _ _:US) _ [some<|.pu<|.rol<|ns.map .int,some<|.pu<|.int k];walk_at "u";rw[aH];split
 ·exact⟨cmL ac ac,h _⟩
 ·split
  ·obtain⟨z,hz⟩:=cQ6 (ns:=ns) k0 ad
   rw[hz];exact h z
  ·refine⟨ad,?_⟩
   rw[dY _ ad]
   obtain⟨z,hz⟩:=cQ6 (ns:=ns) (k:=k%ns.length) (cM _ ad) (cV _ ad)
   rw[hz];exact⟨cmL ac ac,h _⟩
def wL:Φ:=λds Q=> ∃i:Int,ds=[.int i]/\Q (.pu<|.bl true)
def b18:US:=(dE<|c64 (aP b80<|a9 (aC 0)<|a9 (uC<|.ty "int") aK)<|cK6<|aP b80<|a9 (aC 0)<|a9 (uC<|.ty "bool") aK)
theorem cQ7: ∀ds Q,wL ds Q->b18 {nx:=λ_=>Q (.pu .non),rt:=Q} (init ["f"] ds):=by
 rintro ds Q ⟨i,rfl,h⟩;unfold b18;show(dE _:US) _ [some<|.pu<|.int i];walk_at "u"
 simpa using h
theorem c22:bootBuiltins "abs"=some (.builtin "abs"):=af
theorem bt_max:bootBuiltins "max"=some (.builtin "max"):=af
theorem bt_min:bootBuiltins "min"=some (.builtin "min"):=af
theorem gY:bootBuiltins "isinstance"=some (.builtin "isinstance"):=af
theorem bt_int:bootBuiltins "int"=some (.type "int"):=af
theorem d34:bootBuiltins "bool"=some (.type "bool"):=af
theorem gR:bootBuiltins "tuple"=some (.type "tuple"):=af
theorem a86:bootBuiltins "list"=some (.type "list"):=af
theorem mJ (t:UE)(D:UD)(ρ:Ev):dE t D ρ=t ρ (λb _=>D.rt b):=rfl
theorem gS (φ:Φ)(t:UA)(ρ:Ev)(Q:B->Ev->Prop):aP φ t ρ Q=t ρ λds ρ1=>φ ds λb=>Q b ρ1:=rfl
theorem gT (t:UE)(u:UA)(ρ:Ev)(Q:List D->Ev->Prop):a9 t u ρ Q=t ρ λx ρ1=>u ρ1 λxs ρ2=>Q (x.d::xs) ρ2:=rfl
theorem aU (t u:US)(D:UD)(ρ:Ev):aV t u D ρ=t {D with nx:=u D} ρ:=rfl
theorem yP (i:Nat)(t:UE)(D:UD)(ρ:Ev):cE i t D ρ=t ρ λb ρ1=>D.nx (ρ1.set i<|some b):=rfl
theorem fG {js:List Nat}{cap:List (Option Nat)}{last t0:Nat}{ui:UI}{te:UE}{ρ:Ev}{Q:B->Ev->Prop}(n:Nat)(it:Nat->D)(ρ1:Ev)(hui: ∀Q:Nat->(Nat->D)->Ev->Prop,Q n it ρ1->ui ρ Q)(hn:n<=1000000)
  (G:Option B->List D->Ev) (x0:Option B) (h0:tL (aG6 ρ1 js) cap last=G x0 []) (h1: ∀x l b,(G x l).set t0 (some b)=G (some b) l) (h1': ∀x l,t0< (G x l).length) (h2: ∀x l (Q:List D->Prop),Q l->qK (G x l) last Q) (h3: ∀x l l',(G x l).set last (some<|.ow l')=G x l')
  (f:Nat->D) (hte: ∀i l (Q':B->Ev->Prop),i<n->Q' (.pu<|f i) (G (some<|.pu<|it i) l)->te (G (some<|.pu<|it i) l) Q') (hq:Q (.ow<|(List.range n).map f) (aG6 ρ1 js)) :
  gC js cap last ui (cR t0) (λρ Q=>Q true ρ) te ρ Q:=by
 refine hui _ ⟨λi ρ'=> ∃x,ρ'=G x ((List.range i).map f),⟨x0,h0⟩,?_,?_⟩
 ·rintro i ρ' hi ⟨x,rfl⟩;refine⟨h1' _ _,?_⟩;rw[h1];dsimp only;rw[a7 rfl];refine hte i _ _ hi (h2 _ _ _ ⟨?_,some<|.pu<|it i,?_⟩)
  ·rw[aH,sP];exact b9 hi (aT hn ac)
  ·rw[h3,jN,cN];rfl
 ·rintro ρ' ⟨x,rfl⟩;exact h2 _ _ _ hq
noncomputable def aX (r:List Int):D:= .tup (r.map .int)
noncomputable def c23 (t:List (List Int)):D:= .tup (t.map aX)
theorem c24 (l:List D)(i:Nat)(h:i<=l.length):cutD l none (some (i:Int))=l.take i:=by
 unfold cutD;rw[HT.sIx_none,HT.sIx_nat,sV h];simp
theorem bQ9 (l:List D)(i:Nat)(h:i<=l.length):cutD l (some (i:Int)) none=l.drop i:=by
 unfold cutD;rw[HT.sIx_none,HT.sIx_nat,sV h];rw[xB (by rw[sS];exact aB _)]
def yQ:Φ:=λds Q=> ∃(t:List (List Int)) (i:Nat),ds=[c23 t,.int (i:Int)]/\i<t.length/\2<=t.length/\t.length<=1000/\(∀r∈t,1<=r.length)/\Q (.pu<|c23<|(t.eraseIdx i).map List.tail)
def yR:US:=(dE<|aP fO<|a9 (gC [] [none,none] 1 (iL<|uOp jU (uSl (aO 0) yH<|wF<|aC 1)<|uSl (aO 0) (wF<|uOp jU (aC 1)<|uC<|.int 1) yH) (cR 0) (λρ Q=>Q true ρ)<|uSl (aO 0) (wF<|uC<|.int 1) yH) aK)
theorem bI3: ∀ds Q,yQ ds Q->yR {nx:=λ_=>Q (.pu .non),rt:=Q} (init ["t","i"] ds):=by
 rintro ds Q ⟨t,i,rfl,hi,h2,h1000,hr,h⟩;unfold yR;show(dE _:US) _ [some<|.pu<|c23 t,some<|.pu<|.int (i:Int)];have hl:(t.map aX).length=t.length:=aH _;have e1:cutD (t.map aX) none (some (i:Int))=(t.take i).map aX:=by rw[c24 _ _ ad,sY]
 have e2:cutD (t.map aX) (some<|(i:Int)+1) none=(t.drop<|i+1).map aX:=by
  have:=bQ9 (t.map aX) (i+1) ad
  rw[map_drop]
  exact_mod_cast this
 have e3:(t.take i).map aX++(t.drop<|i+1).map aX=(t.eraseIdx i).map aX:=by rw[<-cN,<-List.eraseIdx_eq_take_drop_succ]
 have le:(t.eraseIdx i).length=t.length-1:=List.length_eraseIdx_of_lt hi;rw[mJ,gS,gT];refine fG (t0:=0) ((t.eraseIdx i).map aX).length (λk=>((t.eraseIdx i).map aX).getD k .non) [some<|.pu<|c23 t,some<|.pu<|.int (i:Int)] ?_ (by rw[aH];lia)
  (λx l=>[x,some<|.ow l]) none rfl (λ_ _ _=>rfl) (λ_ _=>cY _) (λ_ _ _ q=>q) (λ_ _ _=>rfl) (λk=>aX (((t.eraseIdx i).getD k []).tail)) ?_ ?_
 ·intro Q' q;simp only[iL,c23];walk_at "u";refine⟨?_,?_,?_,?_⟩
  ·rw[hl,HT.sIx_none,HT.sIx_nat];lia
  ·rw[hl,HT.sIx_none];have:HT.sIx t.length 0 (some<|(i:Int)+1)=min (i+1) t.length:=by exact_mod_cast HT.sIx_nat t.length 0 (i+1)
   rw[this];lia
  ·rw[e1,e2,aH,aH,sR,sS];exact aT (show _<=2000 by lia) ac
  ·rw[e1,e2,e3];exact q
 ·intro k l Q' hk q;rw[aH]at hk;have ek:((t.eraseIdx i).map aX).getD k .non=aX ((t.eraseIdx i).getD k []):=by
   rw[aI,aI,bI,aJ hk];rfl
  have hm:1<=((t.eraseIdx i).getD k []).length:=by
   rw[aI,aJ hk];exact hr _ (aC7<|dO hk)
  rw[ek]at q⊢;generalize (t.eraseIdx i).getD k []=r at hm q;simp only[aX]at q⊢;walk_at "u";have lr:(r.map D.int).length=r.length:=aH _;have ec:cutD (r.map D.int) (some 1) none=r.tail.map D.int:=by
   have:=bQ9 (r.map D.int) 1 ad
   rw[show((1:Nat):Int)=1 from rfl]at this
   rw[this,<-map_drop,List.drop_one]
  refine⟨?_,by rw[ec];exact q⟩
  rw[lr];have:HT.sIx r.length 0 (some 1)=min 1 r.length:=HT.sIx_nat r.length 0 1;rw[this];lia
 ·have em:(List.range ((t.eraseIdx i).map aX).length).map (λk=>aX (((t.eraseIdx i).getD k []).tail))=((t.eraseIdx i).map List.tail).map aX:=by
   rw[aH];apply mT
   ·simp
   ·intro k h1 h2;simp at h1;simp[h1,aI]
  rw[em];exact h
noncomputable def iM:Nat->List (List Int)->Int
 | 0,_=>0
 | n+1,t=>if t.length=1 then(t.getD 0 []).getD 0 0 else((List.range t.length).map λi=>(if i%2=0 then 1 else -1)*(t.getD i []).getD 0 0*iM n ((t.eraseIdx i).map List.tail)).sum
structure Sq (n:Nat)(t:List (List Int)):Prop where
 pos:1<=t.length
 le:t.length<=n
 row: ∀r∈t,r.length=t.length
 small: ∀r∈t,∀x∈r,x.natAbs<2^2000
def gG (n:Nat):Φ:=λds Q=> ∃t:List (List Int),ds=[c23 t]/\Sq n t/\Q (.pu<|.int<|iM n t)
def b19 (gG:Φ):US:=(aV (gH (cQ<|uOp (j2 false) (gN<|aO 0)<|uC<|.int 1) (dE<|uIx (uV<|uIx (aO 0)<|uC<|.int 0)<|uC<|.int 0) dZ)<|aV (cE 1<|uC<|.int 0)<|aV (cE 2<|uC<|.int 1)<|aV (kI (kG<|a9 (gN<|aO 0) aK) (cR 3)<|aV (bO5 1 (gI2 λi j Q=>Q (.pu<|.int<|i+j))<|uOp j9 (uOp j9 (aC 2)<|uIx (uV<|uIx (aO 0)<|aC 3)<|uC<|.int 0)<|aP gG<|a9 (aP yQ<|a9 (aC 0)<|a9 (aC 3) aK) aK)<|cE 2<|jA<|aC 2)<|tI 1)
theorem a87 (n:Nat): ∀ds Q,gG n ds Q->ds.length=1:=by rintro ds Q ⟨a,rfl,_⟩;rfl
theorem Sq.less {n:Nat}{t:List (List Int)}{i:Nat}(h:Sq (n+1) t)(h2:t.length≠1)(hi:i<t.length):Sq n ((t.eraseIdx i).map List.tail):=by
 have le:(t.eraseIdx i).length=t.length-1:=List.length_eraseIdx_of_lt hi;have hp:=h.pos;have hl:=h.le;refine⟨by rw[aH];lia,by rw[aH];lia,λr hr=> ?_,λr hr x hx=> ?_⟩
 ·obtain⟨r',hr',rfl⟩:=fT.mp hr;rw[aH,List.length_tail,h.row r'<|aC7 hr',le]
 ·obtain⟨r',hr',rfl⟩:=fT.mp hr;exact h.small r' (aC7 hr') x (List.mem_of_mem_tail hx)
theorem aP2 (f:Nat->Int)(b:Nat): ∀n:Nat,(∀i,i<n->(f i).natAbs<=b)->(((List.range n).map f).sum).natAbs<=n*b
 | 0,_=>ae
 | n+1,h=>by
  rw[jN,cN,List.sum_append];have h1:=aP2 f b n λi hi=>h i (kO hi)
  have h2:=h n (pC n);have h3:((List.map f [n]).sum)=f n:=ae
  rw[h3,succ_mul];omega
theorem bD9: ∀(n:Nat) (t:List (List Int)),n<=4->Sq n t->(iM n t).natAbs<=2^(2010*n)
 | 0,t,_,h=>by have:=h.pos;have:=h.le;lia
 | n+1,t,hn,h=>by
  have entry: ∀i,i<t.length->((t.getD i []).getD 0 0).natAbs<=2^2000:=λi hi=>by
   have eg:t.getD i []=t[i]:=by rw[aI,aJ hi];rfl
   rw[eg];have hr:=h.row _ (dO hi);have hp:=h.pos;have h0:0< (t[i]).length:=ad
   rw[aI,aJ h0];exact pG (h.small _ (dO hi) _<|dO h0)
  unfold iM;split
  ·have:=entry 0 (by have:=h.pos;lia)
   exact aT this (oS ac ad)
  ·rename_i h1
   refine aT (aP2 _ (2^2000*2^(2010*n)) _ λi hi=> ?_) ?_
   ·rw[gL,gL];have e1:(if i%2=0 then(1:Int)else -1).natAbs=1:=by split<;>rfl
    rw[e1,Nat.one_mul];exact iU (entry i hi) (bD9 n _ ad<|h.less h1 hi)
   ·have hl:=h.le;have e:2^(2010*(n+1))=2^10*(2^2000*2^(2010*n)):=by
     rw[<-jQ,<-jQ];congr 1;lia
    rw[e];exact sK _ ad
theorem Sm.pow {i:Int}{k:Nat}(h:i.natAbs<=2^k)(hk:k<9000):Sm i:=kN h (Nat.pow_lt_pow_right ac hk)
theorem c81 {t:List (List Int)}{i:Nat}(h:i<t.length):atI (t.map aX) (0+(i:Int))=some (aX<|t.getD i []):=by
 rw[d5];refine cD ?_;rw[bI,aJ h,aI,aJ h];rfl
theorem b20 {r:List Int}(h:0<r.length):atI (r.map D.int) 0=some (.int<|r.getD 0 0):=by
 refine cD (j:=0) ?_
 rw[bI,aJ h,aI,aJ h];rfl
theorem aL0 (n:Nat)(hn:n<4): ∀ds Q,gG (n+1) ds Q->b19 (gG n) {nx:=λ_=>Q (.pu .non),rt:=Q} (init ["t","o","s","i"] ds):=by
 rintro ds Q ⟨t,rfl,sq,h⟩;have hp:=sq.pos;have hle:=sq.le;have lt:(t.map aX).length=t.length:=aH _;have lrow: ∀i,i<t.length->0< (t.getD i []).length:=λi hi=>by
  rw[aI,aJ hi];have:=sq.row _ (dO hi);show 0< (t[i]).length
  lia
 unfold b19;show(aV _ _:US) _ [some<|.pu<|.tup<|t.map aX,none,none,none];walk_at "u";rw[lt];split
 ·rename_i h1
  have h1':t.length=1:=ad
  have:=c81 (t:=t) (i:=0) ad
  rw[show(0:Int)+((0:Nat):Int)=0 from rfl]at this
  rw[this];simp only[aX];rw[b20<|lrow 0 ad]
  unfold iM at h;rw[a7 h1']at h;exact h
 ·rename_i h1
  have h1':t.length≠1:=ad
  unfold iM at h;rw[a6 h1']at h;refine bV t.length (λi=> .int (0+i)) [some<|.pu<|.tup<|t.map aX,some<|.pu<|.int 0,some<|.pu<|.int 1,none] ?_ (λi ρ=> ∃x,ρ=[some<|.pu<|.tup<|t.map aX,some<|.pu<|.int ((List.range i).map λi=>(if i%2=0 then 1 else -1)*(t.getD i []).getD 0 0*iM n ((t.eraseIdx i).map List.tail)).sum,some<|.pu<|.int<|if i%2=0 then 1 else -1,x]) ?_ ?_ ?_
  ·intro Q' q;simp only[kG];walk_at "u";rw[lt];refine⟨⟨ad,ad⟩,?_⟩
   rw[eM];exact q
  ·exact⟨none,rfl⟩
  ·rintro i ρ hi ⟨x,rfl⟩;walk_at "u";refine⟨ac,?_⟩
   rw[c81 hi];simp only[aX];rw[b20<|lrow i hi];have sg:Sm (if i%2=0 then(1:Int)else -1):=by split<;>exact bQ7 ac ac
   have eg:t.getD i []=t[i]:=by rw[aI,aJ hi];rfl
   have en:((t.getD i []).getD 0 0).natAbs<=2^2000:=by
    have h0:=lrow i hi;rw[eg]at h0⊢;rw[aI,aJ h0];exact pG (sq.small _ (dO hi) _<|dO h0)
   have se:Sm ((t.getD i []).getD 0 0):=Sm.pow en ac
   refine⟨.inr ⟨sg,se⟩,t,i,by rw[d5];rfl,hi,ad,ad,λr hr=>by rw[sq.row r hr];exact hp,?_⟩
   refine⟨_,rfl,sq.less h1' hi,?_⟩
   have sd:Sm (iM n<|(t.eraseIdx i).map List.tail):=Sm.pow (bD9 n _ ad<|sq.less h1' hi) ad
   have sp:Sm ((if i%2=0 then(1:Int)else -1)*(t.getD i []).getD 0 0):=by
    refine Sm.pow (k:=2000) ?_ ac
    rw[gL];have e1:(if i%2=0 then(1:Int)else -1).natAbs=1:=by split<;>rfl
    rw[e1,Nat.one_mul];exact en
   walk_at "u"
   refine⟨.inr ⟨sp,sd⟩,some<|.pu<|.int<|0+(i:Int),?_⟩
   have e2: -(if i%2=0 then(1:Int)else -1)=(if(i+1)%2=0 then 1 else -1):=by
    by_cases q:i%2=0
    ·rw[a7 q,a6 ad]
    ·rw[a6 q,a7 ad];rfl
   rw[e2,jN,cN,List.sum_append];simp
  ·rintro ρ ⟨x,rfl⟩;walk_at "u";exact h
noncomputable def kX (p:List Int)(k:Nat)(sums:List Int):Int:=
 -(((List.range<|min (k-1)<|p.length-1).map λi=>p.getD (p.length-1-(i+1)) 0*sums.getD (k-(i+1)) 0).sum+(if k<=p.length-1 then(k:Int)*p.getD (p.length-1-k) 0 else 0))
noncomputable def eU (p:List Int):Nat->List Int
 | 0=>[((p.length-1:Nat):Int)]
 | k+1=>eU p k++[kX p (k+1)<|eU p k]
theorem tQ (p:List Int): ∀k,(eU p k).length=k+1
 | 0=>rfl
 | k+1=>by unfold eU;rw[cU,tQ p k];rfl
structure aX3 (p:List Int):Prop where
 lo:3<=p.length
 hi:p.length<=5
 small: ∀x∈p,x.natAbs<=499
theorem iD {l:List Int}{b:Nat}(h: ∀x∈l,x.natAbs<=b)(i:Nat):(l.getD i 0).natAbs<=b:=by
 rw[aI];cases e:l[i]? with
 | none=>exact d6 _
 | some x=>exact h x (sJ e)
theorem yS {p:List Int}(hp:aX3 p): ∀k,k<=6-> ∀x∈eU p k,x.natAbs<=2^(15*k+3)
 | 0,_,x,hx=>by
  have:=hp.hi;have e:x=((p.length-1:Nat):Int):=by simpa[eU]using hx
  rw[e,Int.natAbs_natCast];have:(2:Nat)^(15*0+3)=8:=rfl;omega
 | k+1,hk,x,hx=>by
  have ih:=yS hp k aa
  have ep:(2:Nat)^(15*(k+1)+3)=32768*2^(15*k+3):=by
   rw[show 15*(k+1)+3=15+(15*k+3)by omega,jQ]
  have hb:8<=2^(15*k+3):=by
   rw[jQ];have:1<=2^(15*k):=Nat.one_le_two_pow;omega
  unfold eU at hx;rcases bS.mp hx with hx|hx
  ·have:=ih x hx;omega
  ·have e:x=kX p (k+1) (eU p k):=by simpa using hx
   rw[e];unfold kX;rw[Int.natAbs_neg];have hl:=hp.hi;have s1:=aP2 (λi=>p.getD (p.length-1-(i+1)) 0*(eU p k).getD (k+1-(i+1)) 0) (499*2^(15*k+3)) (min (k+1-1)<|p.length-1) λi _=>by
    rw[gL];exact iU (iD hp.small _) (iD ih _)
   have s2:(if k+1<=p.length-1 then((k+1:Nat):Int)*p.getD (p.length-1-(k+1)) 0 else 0).natAbs<=4*499:=by
    split
    ·rw[gL,Int.natAbs_natCast];exact iU aa (iD hp.small _)
    ·exact d6 _
   have s3:min (k+1-1) (p.length-1)*(499*2^(15*k+3))<=4*(499*2^(15*k+3)):=sK _ aa
   have s4:=xL (((List.range<|min (k+1-1)<|p.length-1).map λi=>p.getD (p.length-1-(i+1)) 0*(eU p k).getD (k+1-(i+1)) 0).sum) (if k+1<=p.length-1 then((k+1:Nat):Int)*p.getD (p.length-1-(k+1)) 0 else 0)
   omega
def tT:Φ:=λds Q=> ∃(p:List Int) (m:Nat),ds=[aX p,.int (m:Int)]/\aX3 p/\1<=m/\m<=7/\Q (.ow<|(eU p<|m-1).map .int)
def tU:US:=(aV (cE 2<|uOp M.gSub (gN<|aO 0)<|uC<|.int 1)<|aV (cE 3<|lD<|a9 (aC 2) aK)<|aV (kI (aJ7<|a9 (uC<|.int 1)<|a9 (aC 1) aK) (cR 4)<|aV (cE 5<|aP gSum<|a9 (gC [2,4] [none,some 0,some 2,some 3,some 4,none] 5 (aJ7<|a9 (uC<|.int 1)<|a9 (uOp jU (aP gMin<|a9 (uOp M.gSub (aC 4)<|uC<|.int 1)<|a9 (aC 2) aK)<|uC<|.int 1) aK) (cR 0) (λρ Q=>Q true ρ)<|uOp j9 (uIx (aO 1)<|uOp M.gSub (aC 2)<|aC 0)<|uIx (aO 3)<|uOp M.gSub (aC 4)<|aC 0) aK)<|aV (gH (cQ<|uOp (nB λi j=>decide (i<=j)) (aC 4)<|aC 2) (bO5 5 (gI2 λi j Q=>Q (.pu<|.int<|i+j))<|uOp j9 (aC 4)<|uIx (aO 0)<|uOp M.gSub (aC 2)<|aC 4) dZ)<|aZ7 3<|jA<|aC 5)<|tI 3)
theorem a31 {ns:List Int}{k:Nat}(h:k<ns.length):atI (ns.map D.int) (k:Int)=some (.int<|ns.getD k 0):=by
 refine cD ?_
 rw[bI,aJ h,aI,aJ h];rfl
theorem b21: ∀ds Q,tT ds Q->tU {nx:=λ_=>Q (.pu .non),rt:=Q} (init ["p","m","n","s","k","t"] ds):=by
 rintro ds Q ⟨p,m,rfl,hp,m1,m7,h⟩;have hlo:=hp.lo;have hhi:=hp.hi;have lp:(p.map D.int).length=p.length:=aH _;unfold tU;show(aV _ _:US) _ [some<|.pu<|.tup<|p.map .int,some<|.pu<|.int (m:Int),none,none,none,none];rw[aU,yP];walk_at "u";rw[lp];refine⟨ac,?_⟩
 have en:(p.length:Int)-1=((p.length-1:Nat):Int):=ad
 rw[en];refine bV (m-1) (λi=> .int (1+i)) [some<|.pu<|.tup<|p.map .int,some<|.pu<|.int (m:Int),some<|.pu<|.int ((p.length-1:Nat):Int),some<|.ow<|(eU p 0).map .int,none,none] ?_
  (λi ρ=> ∃x4 x5,ρ=[some<|.pu<|.tup<|p.map .int,some<|.pu<|.int (m:Int),some<|.pu<|.int ((p.length-1:Nat):Int),some<|.ow<|(eU p i).map .int,x4,x5]) ⟨none,none,rfl⟩ ?_ ?_
 ·intro Q' q;simp only[aJ7];walk_at "u";refine⟨ad,?_⟩
  rw[show((m:Int)-1).toNat=m-1 by lia]
  exact q
 ·rintro i ρ hi ⟨x4,x5,rfl⟩;have bn:=yS hp i ad
  refine⟨by show 4<6;decide,?_⟩
  dsimp only[List.set_cons_succ,List.set_cons_zero];rw[aU,yP,gS,gT];refine fG (t0:=0) (min i<|p.length-1) (λj=> .int (1+j)) [some<|.pu<|.tup<|p.map .int,some<|.pu<|.int (m:Int),some<|.pu<|.int ((p.length-1:Nat):Int),some<|.ow<|(eU p i).map .int,some<|.pu<|.int<|1+(i:Int),x5] ?_ ad
   (λx l=>[x,some<|.pu<|.tup<|p.map .int,some<|.pu<|.int ((p.length-1:Nat):Int),some<|.bo<|(eU p i).map .int,some<|.pu<|.int<|1+(i:Int),some<|.ow l]) none rfl (λ_ _ _=>rfl) (λ_ _=>cY _) (λ_ _ _ q=>q) (λ_ _ _=>rfl)
   (λj=> .int (p.getD (p.length-1-(j+1)) 0*(eU p i).getD (i+1-(j+1)) 0)) ?_ ?_
  ·intro Q' q;simp only[aJ7];walk_at "u";have e:(if((p.length-1:Nat):Int)<1+(i:Int)-1 then((p.length-1:Nat):Int)else 1+(i:Int)-1)=((min i (p.length-1):Nat):Int):=by split<;>lia
   rw[e];refine⟨ad,?_⟩
   rw[show(((min i (p.length-1):Nat):Int)+1-1).toNat=min i (p.length-1)by lia]
   exact q
  ·intro j l Q' hj q;have hj1:j<i:=ad
   have hj2:j<p.length-1:=ad
   walk_at "u"
   rw[show((p.length-1:Nat):Int)-(1+(j:Int))=((p.length-1-(j+1):Nat):Int)by lia,show 1+(i:Int)-(1+(j:Int))=((i+1-(j+1):Nat):Int)by lia]
   rw[a31 ad,a31 (by rw[tQ];lia)]
   exact⟨.inr ⟨Sm.pow (k:=9) (aT (iD hp.small _) ac) ac,Sm.pow (iD bn _) ad⟩,q⟩
  ·have es:((List.range<|min i<|p.length-1).map λj=>D.int (p.getD (p.length-1-(j+1)) 0*(eU p i).getD (i+1-(j+1)) 0))=((List.range<|min i<|p.length-1).map λj=>p.getD (p.length-1-(j+1)) 0*(eU p i).getD (i+1-(j+1)) 0).map D.int:=by
    rw[fA];rfl
   rw[es];generalize hT:((List.range<|min i<|p.length-1).map λj=>p.getD (p.length-1-(j+1)) 0*(eU p i).getD (i+1-(j+1)) 0)=T
   walk_at "u"
   rw[cD0];dsimp only;have last: ∀z:Int,z= -(kX p (i+1)<|eU p i)->(eU p i).map D.int++[D.int<|-z]=(eU p<|i+1).map D.int:=λz hz=>by
    rw[hz]
    conv=>rhs;unfold eU
    rw[cN];simp
   have lz:((eU p i).map D.int).length<sizeLine:=by
    rw[aH,tQ];exact b9 (show _<100 by lia) ac
   by_cases hk:i+1<=p.length-1
   ·rw[a7 ad]
    rw[show((p.length-1:Nat):Int)-(1+(i:Int))=((p.length-1-(i+1):Nat):Int)by lia,a31 ad]
    have hz1:T.sum+(1+(i:Int))*p.getD (p.length-1-(i+1)) 0= -(kX p (i+1)<|eU p i):=by
     unfold kX;rw[Int.neg_neg,a7 hk,<-hT];rw[show i+1-1=i from rfl,show((i+1:Nat):Int)=1+(i:Int)by lia]
    dsimp only;rw[last _ hz1];exact⟨.inr ⟨bQ7 ad ad,Sm.pow (k:=9) (aT (iD hp.small _) ac) ac⟩,lz,_,_,rfl⟩
   ·rw[a6 ad]
    have hz1:T.sum= -(kX p (i+1)<|eU p i):=by
     unfold kX;rw[Int.neg_neg,a6 hk,<-hT,i9];rfl
    rw[last _ hz1];exact⟨lz,_,_,rfl⟩
 ·rintro ρ ⟨x4,x5,rfl⟩;walk_at "u";exact h
theorem c25: ∀ds Q,¬gG 0 ds Q:=by
 rintro ds Q ⟨t,rfl,sq,_⟩;have:=sq.pos;have:=sq.le;omega
theorem b22 {js:List Nat}{cap:List (Option Nat)}{last t0 t1:Nat}{ui:UI}{te:UE}{ρ:Ev}{Q:B->Ev->Prop}(n:Nat)(i1 i2:Nat->D)(ρ1:Ev)(hui: ∀Q:Nat->(Nat->D)->Ev->Prop,Q n (λi=> .tup [i1 i,i2 i]) ρ1->ui ρ Q)(hn:n<=1000000)
  (G:Option B->Option B->List D->Ev) (x0 y0:Option B) (h0:tL (aG6 ρ1 js) cap last=G x0 y0 []) (h1: ∀x y l b c,((G x y l).set t0<|some b).set t1 (some c)=G (some b) (some c) l) (h1': ∀x y l,t0< (G x y l).length/\t1< (G x y l).length)
  (h2: ∀x y l (Q:List D->Prop),Q l->qK (G x y l) last Q) (h3: ∀x y l l',(G x y l).set last (some<|.ow l')=G x y l')
  (f:Nat->D) (hte: ∀i l (Q':B->Ev->Prop),i<n->Q' (.pu<|f i) (G (some<|.pu<|i1 i) (some<|.pu<|i2 i) l)->te (G (some<|.pu<|i1 i) (some<|.pu<|i2 i) l) Q') (hq:Q (.ow<|(List.range n).map f) (aG6 ρ1 js)) :
  gC js cap last ui (rL<|fB t0<|fB t1 rK) (λρ Q=>Q true ρ) te ρ Q:=by
 refine hui _ ⟨λi ρ'=> ∃x y,ρ'=G x y ((List.range i).map f),⟨x0,y0,h0⟩,?_,?_⟩
 ·rintro i ρ' hi ⟨x,y,rfl⟩;refine⟨(h1' _ _ _).1,by rw[dU];exact(h1' _ _ _).2,rfl,?_⟩
  rw[h1];dsimp only;rw[a7 rfl];refine hte i _ _ hi (h2 _ _ _ _ ⟨?_,some<|.pu<|i1 i,some<|.pu<|i2 i,?_⟩)
  ·rw[aH,sP];exact b9 hi (aT hn ac)
  ·rw[h3,jN,cN];rfl
 ·rintro ρ' ⟨x,y,rfl⟩;exact h2 _ _ _ _ hq
noncomputable def rwF (n:Nat)(f:Nat->Int):List Int:=(List.range n).map f
theorem a88 (n:Nat)(f:Nat->Int):(rwF n f).length=n:=by simp[rwF]
theorem d35 {n i:Nat}{f:Nat->Int}(h:i<n):(rwF n f)[i]? =some (f i):=by simp[rwF,h]
theorem bH (n:Nat)(f:Nat->Int):((rwF n f).map D.int).length=n:=by simp[rwF]
theorem wM {n i:Nat}{f:Nat->Int}(h:i<n):((rwF n f).map D.int)[i]? =some (.int<|f i):=by simp[rwF,h]
theorem nW {n i:Nat}{f:Nat->Int}(h:i<n):((rwF n f).map D.int).getD i .non= .int (f i):=by rw[aI,wM h];rfl
theorem qX {n i:Nat}{f:Nat->Int}(h:i<n):atI ((rwF n f).map D.int) (i:Int)=some (.int<|f i):=cD (wM h)
theorem aX4 {n j:Nat}{f:Nat->Int}{v:Int}(h:j<n):((rwF n f).map D.int).set j (.int v)=(rwF n λx=>if x=j then v else f x).map D.int:=by
 apply List.ext_getElem?
 intro k
 by_cases hk:k<n
 ·rw[wM hk]
  by_cases e:j=k
  ·subst e;rw[iX (by rw[bH];exact hk),a7 rfl]
  ·rw[get_set_ne e,wM hk,a6 λz=>e z.symm]
 ·rw[oQ (by rw[dU,bH];omega),oQ (by rw[bH];omega)]
theorem jZ {n:Nat}{f g:Nat->Int}(h: ∀i,i<n->f i=g i):rwF n f=rwF n g:=by
 unfold rwF;apply aE5;intro i hi;exact h i (dW.mp hi)
theorem c26 (r:List Int):r=rwF r.length (λj=>r.getD j 0):=by
 apply List.ext_getElem?
 intro k
 by_cases hk:k<r.length
 ·rw[d35 hk,aJ hk,aI,aJ hk];rfl
 ·rw[oQ aa,oQ (by rw[a88];omega)]
theorem bR0 (n:Nat)(f:Nat->Int):(List.range n).map (λk=>D.int (f k))=(rwF n f).map D.int:=by
 unfold rwF;rw[fA];rfl
theorem bI4 {n i:Nat}(h:i<n):ixN n (i:Int)=some i:=by
 unfold ixN;have h2:(i:Int)< (n:Int):=aa
 simp[h,h2]
theorem cQ8 (g:D->D->(B->Prop)->Prop)(ta tb:UE)(ρ:Ev)(Q:B->Ev->Prop):uOp g ta tb ρ Q=ta ρ λx ρ1=>tb ρ1 λy ρ2=>g x.d y.d λb=>Q b ρ2:=rfl
theorem d36 (c:UT)(t u:US)(E:UD)(ρ:Ev):gH c t u E ρ=c ρ λb ρ1=>if b=true then t E ρ1 else u E ρ1:=rfl
theorem c82 {ρ:Ev}{i:Nat}{d:D}{Q:B->Ev->Prop}(h:ρ[i]? =some (some<|.pu d)):aC i ρ Q=Q (.pu d) ρ:=by unfold aC aS4;rw[h]
theorem bR1: ∀r:List Int,pdL (r.map D.int)=some (r.map PyData.int)
 | []=>by simp[pdL]
 | a::r=>by simp[pdL,pd,bR1 r]
theorem cQ9 (r:List Int):pd (aX r)=some (.tuple<|r.map .int):=by simp[aX,pd,bR1]
theorem bR2: ∀r:List Int,PyData.depthAll (r.map PyData.int)=0
 | []=>by simp[PyData.depthAll]
 | a::r=>by simp[PyData.depthAll,PyData.depth,bR2 r]
theorem d37 (r:List Int):(PyData.tuple<|r.map .int).depth<=60:=by simp[PyData.depth,bR2]
theorem d38 (a b:List Int):(PyData.tuple<|a.map .int).eqv (.tuple<|b.map .int)=decide (a=b):=by simp only[PyData.eqv];exact PySem.W.ked_eqvAll a b
theorem bR3 {neg:Bool}{a b:List Int}{Q:B->Prop}(h:Q (.pu<|.bl<|neg ^^ decide (a=b))):cM9 neg (aX a) (aX b) Q:=⟨_,_,cQ9 a,cQ9 b,d37 a,by rw[d38];exact h⟩
noncomputable def fK (f:Nat->Int):Nat->Nat
 | 0=>0
 | n+1=>if f n=0 then fK f n else n+1
theorem rS (f:Nat->Int): ∀n,fK f n<=n
 | 0=>aB _
 | n+1=>by
  unfold fK;split
  ·have:=rS f n;lia
  ·exact aB _
theorem aP3 (f:Nat->Int): ∀n,fK f n=0\/f (fK f n-1)≠0
 | 0=> .inl rfl
 | n+1=>by
  unfold fK;split
  ·exact aP3 f n
  ·rename_i h
   exact .inr (by simpa using h)
theorem aP4 (f:Nat->Int): ∀n m,fK f n<=m->m<n->f m=0
 | n+1,m,h1,h2=>by
  unfold fK at h1;split at h1
  ·rename_i h
   by_cases e:m=n
   ·rw[e];exact h
   ·exact aP4 f n m h1 ad
  ·lia
theorem rT {f:Nat->Int}{k:Nat}: ∀{n:Nat},k<=n->(∀m,k<=m->m<n->f m=0)->(k=0\/f (k-1)≠0)->fK f n=k
 | 0,h,_,_=>by have:k=0:=ad
               rw[this];rfl
 | n+1,h,hz,hl=>by
  unfold fK
  by_cases e:k=n+1
  ·subst e;rw[a6];rcases hl with h0|h0
   ·lia
   ·simpa using h0
  ·rw[a7<|hz n ad ad]
   exact rT ad (λm h1 h2=>hz m h1 ad) hl
theorem b23 {f g:Nat->Int}: ∀{n:Nat},(∀m,m<n->f m=g m)->fK f n=fK g n
 | 0,_=>rfl
 | n+1,h=>by
  unfold fK;rw[h n<|pC n,b23 λm hm=>h m (kO hm)]
theorem bR4 (n k:Nat)(f:Nat->Int)(h:k<=n):(rwF n f).take k=rwF k f:=by
 unfold rwF;rw[<-sY,List.take_range,sV h]
def a32:Φ:=λds Q=> ∃(n:Nat) (f:Nat->Int),ds=[aX<|rwF n f]/\n<=1000/\Q (.pu<|aX<|rwF (fK f n) f)
def b24:US:=(aV (cE 1<|gN<|aO 0)<|aV (aZ4 (b78 (cQ<|uOp (nB λi j=>decide (j<i)) (aC 1)<|uC<|.int 0)<|cQ<|uOp (j2 false) (uIx (aO 0)<|uOp M.gSub (aC 1)<|uC<|.int 1)<|uC<|.int 0)<|bO5 1 (gI2 λi j Q=>Q (.pu<|.int<|i-j))<|uC<|.int 1)<|dE<|uSlT (aC 0) yH<|wF<|aC 1)
theorem cR0: ∀ds Q,a32 ds Q->b24 {nx:=λ_=>Q (.pu .non),rt:=Q} (init ["r","s"] ds):=by
 rintro ds Q ⟨n,f,rfl,hn,h⟩;unfold b24;simp only[aX];show(aV _ _:US) _ [some<|.pu<|.tup<|(rwF n f).map .int,none];rw[aU];walk_at "u";rw[bH];refine⟨λm ρ=>ρ=[some<|.pu<|.tup<|(rwF n f).map .int,some<|.pu<|.int (m:Int)]/\m<=n/\fK f m=fK f n,⟨n,rfl,aB _,rfl⟩,?_⟩
 rintro m ρ ⟨rfl,hm,hc⟩;walk_at "u";have fin:fK f m=m->Q (.pu<|.tup<|cutD ((rwF n f).map D.int) none<|some (m:Int)):=λe=>by
  rw[c24 _ _ (by rw[bH];exact hm),<-sY,bR4 _ _ _ hm]
  rw[<-hc,e]at h;exact h
 split
 ·rename_i h0
  obtain⟨m',rfl⟩: ∃m',m=m'+1:=⟨m-1,ad⟩
  rw[show((m'+1:Nat):Int)-1=(m':Int)by lia,qX<|show m'<n by lia]
  dsimp only;split
  ·rename_i h1
   refine⟨m',ad,?_,ad,?_⟩
   ·simp
   ·rw[<-hc];show _=if f m'=0 then fK f m' else m'+1;rw[a7 h1]
  ·rename_i h1
   refine fin ?_
   show(if f m'=0 then fK f m' else m'+1)=m'+1
   rw[a6 h1]
 ·have:m=0:=ad
  subst this;exact fin rfl
noncomputable def shF (b:Nat->Int)(n m:Nat):Int:=if n<=m then b (m-n)else 0
noncomputable def divS (b:Nat->Int)(d n:Nat)(f:Nat->Int):Nat->Int:=λm=>f m-f (n+d)*shF b n m
noncomputable def divL (b:Nat->Int)(d:Nat):Nat->(Nat->Int)->Nat->Int
 | 0,f=>f
 | n+1,f=>divL b d n (divS b d n f)
noncomputable def divQ (b:Nat->Int)(d:Nat):Nat->(Nat->Int)->Nat->Int
 | 0,_=>λ_=>0
 | n+1,f=>λx=>if x=n then f (n+d)else divQ b d n (divS b d n f) x
structure c27 (L d a e:Nat)(f b:Nat->Int):Prop where
 L9:L<=100
 d9:d<=100
 one:b d=1
 beyond: ∀j,d<j->b j=0
 fb: ∀m,m<L->(f m).natAbs<=2^a
 bb: ∀j,(b j).natAbs<=2^e
 room:a+(e+1)*L<8000
 e8:e<8000
theorem b25 {b f:Nat->Int}{d n a e L:Nat}(hn:n+d<L)(hf: ∀m,m<L->(f m).natAbs<=2^a)(hb: ∀j,(b j).natAbs<=2^e): ∀m,m<L->(divS b d n f m).natAbs<=2^(a+(e+1)):=by
 intro m hm;unfold divS;have h1:=hf m hm;have h2:=hf (n+d) hn;have h3:(shF b n m).natAbs<=2^e:=by
  unfold shF;split
  ·exact hb _
  ·simp
 have h4:(f (n+d)*shF b n m).natAbs<=2^a*2^e:=by rw[gL];exact iU h2 h3
 have h5:=Int.natAbs_sub_le (f m) (f (n+d)*shF b n m);have e1:2^(a+(e+1))=2^a*2^e+2^a*2^e:=by rw[<-sZ,pow_succ,jQ];lia
 have h6:2^a<=2^a*2^e:=Nat.le_mul_of_pos_right _ (Nat.pow_pos ac)
 lia
theorem bE0 (k:Nat):(replicate k [D.int 0]).flatten=(rwF k λ_=>0).map .int:=by
 rw[bQ8]
 congr 1
 apply mT<;>simp[rwF]
def gA:Φ:=λds Q=> ∃(L d a e:Nat) (f b:Nat->Int),ds=[aX<|rwF L f,aX<|rwF (d+1) b]/\c27 L d a e f b/\
 Q (.pu<|.tup [aX<|rwF (fK (divQ b d (L-d) f)<|L-d)<|divQ b d (L-d) f,aX<|rwF (fK (divL b d (L-d) f) L)<|divL b d (L-d) f])
def uP:US:=(dE<|gF<|a9 (aP a32<|a9 (aP fO<|a9 (aC 5) aK) aK)<|a9 (aP a32<|a9 (aP fO<|a9 (aC 4) aK) aK) aK)
def uQ:US:=(aV (kI (cN3<|a9 (aC 3) aK) (cR 6)<|aV (cE 7<|uIx (aO 4)<|uOp jU (aC 6)<|aC 2)<|aV (bC1 5 (aC 7)<|aC 6)<|kI (cN2<|a9 (aC 1) aK) (rL<|fB 8<|fB 9 rK)<|cM8 4 (λi j=>i-j) (uOp jU (aC 6)<|aC 8)<|uOp j9 (aC 7)<|aC 9) uP)
def pM:US:=(aV (cE 2<|uOp M.gSub (gN<|aO 1)<|uC<|.int 1)<|aV (cE 3<|aP gMax<|a9 (uC<|.int 0)<|a9 (uOp M.gSub (gN<|aO 0)<|aC 2) aK)<|aV (cE 4<|aP a83<|a9 (aC 0) aK)<|aV (cE 5<|uOp j9 (lD<|a9 (uC<|.int 0) aK)<|aC 3) uQ)
theorem aP5: ∀ds Q,gA ds Q->pM {nx:=λ_=>Q (.pu .non),rt:=Q} (init ["f","g","d","s","l","q","a","m","j","c"] ds):=by
 rintro ds Q ⟨L,d,a,e,f,b,rfl,ok,h⟩;have L9:=ok.L9;have d9:=ok.d9;have room:=ok.room;unfold pM;simp only[aX]at h⊢;show(aV _ _:US) _ [some<|.pu<|.tup<|(rwF L f).map .int,some<|.pu<|.tup<|(rwF (d+1) b).map .int,none,none,none,none,none,none,none,none];walk_at "u";rw[bH,bH];obtain⟨N,hN⟩: ∃N:Nat,N=L-d:=⟨_,rfl⟩;have e1:((d+1:Nat):Int)-1=(d:Int):=ad
 have e2:(if(L:Int)-(d:Int)>0 then(L:Int)-(d:Int)else 0)=(N:Int):=by split<;>lia
 rw[e1,e2,eM,bE0];refine⟨ac,⟨ad,ad,aT (show 1*N<=100 by lia) ac⟩,?_⟩
 unfold uQ;rw[aU];rw[<-hN]at h;refine bV N (λk=> .int (((N:Int))-1-k)) [some<|.pu<|.tup<|(rwF L f).map .int,some<|.pu<|.tup<|(rwF (d+1) b).map .int,some<|.pu<|.int (d:Int),some<|.pu<|.int (N:Int),some<|.ow<|(rwF L f).map .int,some<|.ow<|(rwF N λ_=>0).map .int,none,none,none,none] ?_
  (λk ρ=> ∃g q z6 z7 z8 z9,ρ=[some<|.pu<|.tup<|(rwF L f).map .int,some<|.pu<|.tup<|(rwF (d+1) b).map .int,some<|.pu<|.int (d:Int),some<|.pu<|.int (N:Int),some<|.ow<|(rwF L g).map .int,some<|.ow<|(rwF N q).map .int,z6,z7,z8,z9]/\
   divL b d (N-k) g=divL b d N f/\(∀x,x<N->divQ b d N f x=if x<N-k then divQ b d (N-k) g x else q x)/\ ∀m,m<L->(g m).natAbs<=2^(a+(e+1)*k))
  ⟨f,λ_=>0,none,none,none,none,rfl,rfl,λx hx=>by rw[sub_zero,a7 hx],λm hm=>by simpa using ok.fb m hm⟩ ?_ ?_
 ·intro Q' q;walk_at "u";refine⟨⟨ad,ad⟩,?_⟩
  rw[eM];exact q
 ·rintro k ρ hk ⟨g,q,z6,z7,z8,z9,rfl,hL,hQ,hb⟩;obtain⟨i,hi⟩: ∃i:Nat,i=N-1-k:=⟨_,rfl⟩;have ei:(N:Int)-1-(k:Int)=(i:Int):=ad
  have hiN:i<N:=ad
  have hid:i+d<L:=ad
  rw[ei];have c1:(i:Int)+(d:Int)=((i+d:Nat):Int):=ad
  walk_at "u"
  rw[c1,qX hid];dsimp only;rw[bH,bI4 hiN];dsimp only;rw[aX4 hiN];refine⟨ae,?_⟩
  have smg:Sm (g<|i+d):=Sm.pow (hb _ hid) (by
   have:(e+1)*k<=(e+1)*L:=i5 _ ad
   lia)
  refine bV (d+1) (λj=> .tup [.int (j:Int),((rwF (d+1) b).map D.int).getD j .non]) [some<|.pu<|.tup<|(rwF L f).map .int,some<|.pu<|.tup<|(rwF (d+1) b).map .int,some<|.pu<|.int (d:Int),some<|.pu<|.int (N:Int),some<|.ow<|(rwF L g).map .int,some<|.ow<|(rwF N λx=>if x=i then g (i+d)else q x).map .int,some<|.pu<|.int (i:Int),some<|.pu<|.int<|g<|i+d,z8,z9] ?_
   (λj ρ=> ∃z8 z9,ρ=[some<|.pu<|.tup<|(rwF L f).map .int,some<|.pu<|.tup<|(rwF (d+1) b).map .int,some<|.pu<|.int (d:Int),some<|.pu<|.int (N:Int),some<|.ow<|(rwF L λm=>if m<i+j then divS b d i g m else g m).map .int,some<|.ow<|(rwF N λx=>if x=i then g (i+d)else q x).map .int,some<|.pu<|.int (i:Int),some<|.pu<|.int<|g<|i+d,z8,z9]) ⟨z8,z9,?_⟩ ?_ ?_
  ·intro Q' qq;walk_at "u";rw[bH];exact qq
  ·have:(rwF L λm=>if m<i+0 then divS b d i g m else g m)=rwF L g:=by
    apply jZ
    intro m hm
    by_cases c:m<i+0
    ·rw[a7 c];unfold divS shF;rw[a6 ad]
     lia
    ·rw[a6 c]
   rw[this]
  ·rintro j ρ hj ⟨z8,z9,rfl⟩;rw[nW hj];have hij:i+j<L:=ad
   have c2:(i:Int)+(j:Int)=((i+j:Nat):Int):=ad
   simp only[cM8];walk_at "u";rw[c2,bH];refine⟨ae,ae,trivial,_,i+j,g<|i+j,rfl,bI4 hij,by rw[wM hij,a6 ad],.inr ⟨smg,Sm.pow (ok.bb j) (by have:=ok.e8;lia)⟩,_,rfl,some<|.pu<|.int (j:Int),some<|.pu<|.int<|b j,?_⟩
   rw[aX4 hij];have:(rwF L λx=>if x=i+j then g (i+j)-g (i+d)*b j else if x<i+j then divS b d i g x else g x)=rwF L λm=>if m<i+(j+1)then divS b d i g m else g m:=by
    apply jZ
    intro m hm
    by_cases c:m=i+j
    ·subst c;rw[a7 rfl,a7 ad]
     unfold divS shF;rw[a7 ad,show i+j-i=j by lia]
    ·rw[a6 c]
     by_cases c3:m<i+j
     ·rw[a7 c3,a7 ad]
     ·rw[a6 c3,a6 ad]
   rw[this]
  ·rintro ρ ⟨z8,z9,rfl⟩;have eg:(rwF L λm=>if m<i+(d+1)then divS b d i g m else g m)=rwF L (divS b d i g):=by
    apply jZ
    intro m hm
    by_cases c:m<i+(d+1)
    ·rw[a7 c]
    ·rw[a6 c];unfold divS shF;rw[a7 ad,ok.beyond _ ad]
     lia
   rw[eg];have en:N-k=i+1:=ad
   have en2:N-(k+1)=i:=ad
   rw[en]at hL hQ;refine⟨_,_,_,_,_,_,rfl,by rw[en2];exact hL,λx hx=> ?_,?_⟩
   ·rw[en2,hQ x hx]
    by_cases c:x<i
    ·rw[a7 c,a7 ad]
     show(if x=i then _ else divQ b d i (divS b d i g) x)=_
     rw[a6 ad]
    ·rw[a6 c]
     by_cases c2:x=i
     ·subst c2;rw[a7 ad,a7 rfl]
      show(if x=x then _ else _)=_
      rw[a7 rfl]
     ·rw[a6 ad,a6 c2]
   ·have:=b25 hid hb ok.bb;rw[show a+(e+1)*(k+1)=a+(e+1)*k+(e+1)by rw[xZ];lia]
    exact this
 ·rintro ρ ⟨g,q,z6,z7,z8,z9,rfl,hL,hQ,hb⟩;dsimp only;unfold uP;rw[n6]at hL hQ;have hg:g=divL b d N f:=hL;have hq: ∀x,x<N->divQ b d N f x=q x:=λx hx=>by rw[hQ x hx,a6 ad]
  walk_at "u"
  refine⟨N,q,rfl,ad,?_⟩
  refine⟨L,g,rfl,ad,?_⟩
  walk_at "u"
  refine⟨ac,?_⟩
  have e3:fK (divQ b d N f) N=fK q N:=b23 λm hm=>hq m hm
  have e4:rwF (fK q N) (divQ b d N f)=rwF (fK q N) q:=jZ λm hm=>hq m (by have:=rS q N;lia)
  rw[e3,e4,<-hg]at h;exact h
noncomputable def conv (u b:Nat->Int):Nat->Nat->Int
 | 0,_=>0
 | n+1,m=>conv u b n m+u n*shF b n m
theorem lF {u b:Nat->Int}{d:Nat}(hb: ∀j,d<j->b j=0): ∀(n m:Nat),n+d<=m->conv u b n m=0
 | 0,m,_=>rfl
 | n+1,m,h=>by
  show conv u b n m+u n*shF b n m=0
  rw[lF hb n m ad]
  unfold shF;rw[a7 ad,hb _ ad]
  lia
theorem bR5 {u b low:Nat->Int}{d:Nat}(h1:b d=1)(hb: ∀j,d<j->b j=0)(hl: ∀m,d<=m->low m=0): ∀(n:Nat),divL b d n (λm=>conv u b n m+low m)=low/\ ∀x,x<n->divQ b d n (λm=>conv u b n m+low m) x=u x
 | 0=>⟨by funext m;show 0+low m=low m;lia,λx hx=>ad⟩
 | n+1=>by
  have top:conv u b (n+1) (n+d)+low (n+d)=u n:=by
   show conv u b n (n+d)+u n*shF b n (n+d)+low (n+d)=u n
   rw[lF hb n _<|aB _,hl _ ad]
   unfold shF;rw[a7 ad,show n+d-n=d by lia,h1]
   lia
  have st:divS b d n (λm=>conv u b (n+1) m+low m)=λm=>conv u b n m+low m:=by
   funext m
   show(conv u b (n+1) m+low m)-(conv u b (n+1) (n+d)+low (n+d))*shF b n m=_
   rw[top];show conv u b n m+u n*shF b n m+low m-u n*shF b n m=_
   lia
  obtain⟨i1,i2⟩:=bR5 (u:=u) h1 hb hl n;refine⟨?_,λx hx=> ?_⟩
  ·show divL b d n (divS b d n _)=low
   rw[st];exact i1
  ·show(if x=n then _ else divQ b d n (divS b d n _) x)=u x
   rw[st]
   by_cases c:x=n
   ·rw[a7 c,c];exact top
   ·rw[a6 c];exact i2 x ad
theorem a33 {n:Nat}{f:Nat->Int}(h:0<n):atI ((rwF n f).map D.int) (-1)=some (.int<|f<|n-1):=by
 unfold L2.atI;have e:ixN ((rwF n f).map D.int).length (-1)=some (n-1):=by
  unfold ixN;rw[bH,a6 ac,a7 ad]
  congr 1
  lia
 rw[e];exact wM ad
theorem c28 {f:Nat->Int}{n:Nat}(hf: ∀m,n<=m->f m=0): ∀m,fK f n<=m->f m=0:=λm hm=>by
 by_cases c:m<n
 ·exact aP4 f n m hm c
 ·exact hf m ad
noncomputable def md (p:Int)(f:Nat->Int):Nat->Int:=λj=>f j%p
noncomputable def b26 (c p:Int):Nat->Int
 | 0=>1
 | n+1=>b26 c p n*c%p
theorem b27 {c p:Int}(hp:2<=p): ∀n,0<=b26 c p n/\b26 c p n<p
 | 0=>⟨by show(0:Int)<=1;lia,by show(1:Int)<p;lia⟩
 | n+1=>⟨cM _ ad,cV _ ad⟩
structure Pr (p:Int):Prop where
 lo:2<=p
 hi:p<200
 inv: ∀c:Int,0<c->c<p->b26 c p (p.toNat-2)*c%p=1
def Cg (p:Int)(f g:Nat->Int):Prop:= ∀m,f m%p=g m%p
theorem Cg.divS {p:Int}{b f g:Nat->Int}{d n:Nat}(h:Cg p f g):Cg p (divS b d n f) (divS b d n g):=λm=>by
 show(f m-f (n+d)*shF b n m)%p=(g m-g (n+d)*shF b n m)%p
 have h1:=h m;have h2:f (n+d)*shF b n m%p=g (n+d)*shF b n m%p:=by rw[dX,h<|n+d,<-dX]
 rw[t7,h1,h2,<-t7]
theorem Cg.divL {p:Int}{b:Nat->Int}{d:Nat}: ∀(n:Nat) {f g:Nat->Int},Cg p f g->Cg p (divL b d n f) (divL b d n g)
 | 0,_,_,h=>h
 | n+1,_,_,h=>Cg.divL n h.divS
theorem Cg.divQ {p:Int}{b:Nat->Int}{d:Nat}: ∀(n:Nat) {f g:Nat->Int},Cg p f g->Cg p (divQ b d n f) (divQ b d n g)
 | 0,_,_,h=>λ_=>rfl
 | n+1,f,g,h=>λx=>by
  show(if x=n then f (n+d)else M.divQ b d n (M.divS b d n f) x)%p=(if x=n then g (n+d)else M.divQ b d n (M.divS b d n g) x)%p
  by_cases c:x=n
  ·rw[a7 c,a7 c];exact h _
  ·rw[a6 c,a6 c];exact Cg.divQ n h.divS x
theorem aS9 {b:Nat->Int}{d:Nat}: ∀(n:Nat) (f:Nat->Int) (x:Nat),n<=x->divQ b d n f x=0
 | 0,_,_,_=>rfl
 | n+1,f,x,h=>by
  show(if x=n then f (n+d)else divQ b d n (divS b d n f) x)=0
  rw[a6 ad]
  exact aS9 n _ x ad
theorem aX5 {p:Int}{u u' b b':Nat->Int}(h: ∀i j,u' i*b' j%p=u i*b j%p): ∀n,Cg p (conv u' b' n) (conv u b n)
 | 0,_=>rfl
 | n+1,m=>by
  show(conv u' b' n m+u' n*shF b' n m)%p=(conv u b n m+u n*shF b n m)%p
  have h1:=aX5 h n m;have h2:u' n*shF b' n m%p=u n*shF b n m%p:=by
   unfold shF
   by_cases c:n<=m
   ·rw[a7 c,a7 c];exact h _ _
   ·rw[a6 c,a6 c,bJ,bJ]
  rw[fU,h1,h2,<-fU]
theorem bR6 {u b:Nat->Int}{d U:Nat}(hb: ∀j,d<j->b j=0):conv u b (U+1) (U+d)=u U*b d:=by
 show conv u b U (U+d)+u U*shF b U (U+d)=_
 rw[lF hb U _<|aB _];unfold shF;rw[a7 ad,show U+d-U=d by lia]
 lia
theorem cR1 {p t:Int}{B0 u low A:Nat->Int}{d U n:Nat}(hp:2<=p)(hB: ∀j,d<j->B0 j=0)(hU:U=0\/u (U-1)≠0)(uR: ∀j,0<=u j/\u j<p)(uz: ∀j,U<=j->u j=0)(lz: ∀j,d<=j->low j=0)(lR: ∀j,0<=low j/\low j<p)
  (ht:t*B0 d%p=1) (hA: ∀m,A m=(conv u B0 U m+low m)%p) (hn:U+d<=n) :
  let b:=λj=>t*B0 j%p
  let LA:=fK A n
  LA<=U+d/\(∀j,t*divQ b d (LA-d) A j%p=u j)/\(∀j,divL b d (LA-d) A j%p=low j)/\(∀m,LA<=m->divL b d (LA-d) A m%p=0):=by
 intro b LA;have b1:b d=1:=ht;have bz: ∀j,d<j->b j=0:=λj hj=>by
  show t*B0 j%p=0
  rw[hB j hj,bJ,cB]
 have tc: ∀x:Int,t*(B0 d*x)%p=x%p:=λx=>by
  rw[<-kT,dX,ht,yA,iW]
 have cg:Cg p A (λm=>conv (λi=>B0 d*u i) b U m+low m):=λm=>by
  rw[hA m,iW];have:=aX5 (p:=p) (u:=u) (b:=B0) (u':=λi=>B0 d*u i) (b':=b) (λi j=>by
   show B0 d*u i*(t*B0 j%p)%p=u i*B0 j%p
   rw[dX,iW,<-dX];have e:B0 d*u i*(t*B0 j)=t*(B0 d*(u i*B0 j)):=by
    simp only[t9,Int.mul_left_comm,kT]
   rw[e,tc]) U m
  show(conv u B0 U m+low m)%p=(conv (λi=>B0 d*u i) b U m+low m)%p
  rw[fU,<-this,<-fU]
 obtain⟨e1,e2⟩:=bR5 (u:=λi=>B0 d*u i) (low:=low) b1 bz lz U
 have Az: ∀m,U+d<=m->A m=0:=λm hm=>by
  rw[hA m,lF hB U m hm,lz m ad]
  exact cB _
 have hL:(U=0/\LA<=d)\/(0<U/\LA=U+d):=by
  have hle:LA<=U+d:=by
   rcases aP3 A n with h|h
   ·show fK A n<=U+d
    lia
   ·exact wZ λq=>h (Az _ (by show U+d<=LA-1;lia))
  by_cases c:U=0
  ·exact .inl ⟨c,ad⟩
  ·refine .inr ⟨ad,?_⟩
   refine rT hn (λm m1 m2=>Az m m1) (.inr λq=> ?_)
   obtain⟨U',rfl⟩: ∃U',U=U'+1:=⟨U-1,ad⟩
   rw[show U'+1+d-1=U'+d by lia,hA,bR6 hB,lz _ ad,i9]at q
   have h1:=tc (u U');rw[dX,show B0 d*u U'=u U'*B0 d from t9 _ _,q,bJ,cB,cW (uR _).1 (uR _).2]at h1
   rcases hU with h|h
   ·lia
   ·exact h (by simpa using h1.symm)
 have hN:LA-d=U:=ad
 have r: ∀j,divL b d U A j%p=low j:=λj=>by
  rw[Cg.divL U cg j,e1,cW (lR j).1 (lR j).2]
 refine⟨ad,λj=> ?_,λj=>by rw[hN];exact r j,λm hm=> ?_⟩
 ·rw[hN]
  by_cases c:j<U
  ·have h1:=Cg.divQ (b:=b) (d:=d) U cg j;rw[e2 j c]at h1;rw[dX,h1,<-dX];show t*(B0 d*u j)%p=u j;rw[tc,cW (uR _).1 (uR _).2]
  ·rw[aS9 U A j ad,uz j ad,bJ,cB]
 ·rw[hN];rcases hL with⟨h1,h2⟩| ⟨h1,h2⟩
  ·subst h1;show A m%p=0;rw[c28 (λm hm=>Az m ad) m hm]
   exact cB _
  ·rw[r m];exact lz m ad
def iZ:Φ:=λds Q=> ∃(n:Nat) (f:Nat->Int) (p:Int),ds=[aX<|rwF n f,.int p]/\n<=1000/\0<p/\Q (.pu<|aX<|rwF (fK (md p f) n)<|md p f)
def vB:US:=(dE<|aP a32<|a9 (aP fO<|a9 (gC [1] [none,some 1,none] 2 (iL<|aC 0) (cR 0) (λρ Q=>Q true ρ)<|uOp oE (aC 0)<|aC 1) aK) aK)
theorem d39 (Q:B->Ev->Prop)(n:Nat)(f:Nat->Int)(p:Int)(hn:n<=1000)(hp:0<p)(k:Nat->D)(nR:Ev)(x0:D)(hx:x0=aX (rwF n f)\/x0= .lst ((rwF n f).map .int))(h:Q (.ow<|(rwF n<|md p f).map .int) (some (.pu x0)::some (.pu<|.int p)::nR)) :
  (gC [1] [none,some 1,none] 2 (iL<|aC 0) (cR 0) (λρ Q=>Q true ρ) (uOp oE (aC 0)<|aC 1):UE) (some (.pu x0)::some (.pu<|.int p)::nR) Q:=by
 refine fG (t0:=0) n (λk=>((rwF n f).map D.int).getD k .non) (some (.pu x0)::some (.pu<|.int p)::nR) ?_ ad (λx l=>[x,some<|.pu<|.int p,some<|.ow l]) none rfl (λ_ _ _=>rfl) (λ_ _=>cY _) (λ_ _ _ q=>q) (λ_ _ _=>rfl) (λk=> .int (md p f k)) ?_ ?_
 ·intro Q' q;rcases hx with rfl|rfl
  ·simp only[aX]at q⊢;walk_at "u";rw[bH];exact q
  ·walk_at "u"
   rw[bH];exact q
 ·intro k l Q' hk q;rw[nW hk]at q⊢;walk_at "u";refine⟨ad,?_⟩
  rw[dY _ hp];exact q
 ·rw[bR0];exact h
theorem b85: ∀ds Q,iZ ds Q->vB {nx:=λ_=>Q (.pu .non),rt:=Q} (init ["r","p"] ds):=by
 rintro ds Q ⟨n,f,p,rfl,hn,hp,h⟩;unfold vB;show(dE _:US) _ [some<|.pu<|aX<|rwF n f,some<|.pu<|.int p];rw[mJ,gS,gT,gS,gT];refine d39 _ n f p hn hp (λ_=> .non) [] _ (.inl rfl) ?_
 walk_at "u"
 exact⟨n,md p f,rfl,hn,h⟩
theorem aL1 {u b:Nat->Int}{U:Nat}: ∀n,(∀j,U<=j->j<n->u j=0)->U<=n-> ∀m,conv u b n m=conv u b U m
 | 0,h,h2,m=>by rw[show U=0 by lia]
 | n+1,h,h2,m=>by
  by_cases c:U=n+1
  ·rw[c]
  ·show conv u b n m+u n*shF b n m=_
   rw[h n ad ad,aL1 n (λj a c=>h j a ad) ad m]
   lia
theorem md_nat {p:Int}(h1:2<=p)(h2:p<200)(f:Nat->Int)(j:Nat):(md p f j).natAbs<=2^8:=by
 unfold md;have a1:=cM (f j) (show p≠0 by lia)
 have a2:=cV (f j) (show 0<p by lia)
 show _<=256
 lia
def uS:Φ:=λds Q=> ∃(n:Nat) (f:Nat->Int) (k p:Int),ds=[aX<|rwF n f,.int k,.int p]/\n<=1000/\0<=k/\k<200/\0<p/\Q (.pu<|aX<|rwF (fK (λj=>k*f j%p) n) λj=>k*f j%p)
def a34:US:=(dE<|aP iZ<|a9 (aP fO<|a9 (gC [1] [none,some 1,none] 2 (iL<|aC 0) (cR 0) (λρ Q=>Q true ρ)<|uOp j9 (aC 1)<|aC 0) aK)<|a9 (aC 2) aK)
theorem bR7: ∀ds Q,uS ds Q->a34 {nx:=λ_=>Q (.pu .non),rt:=Q} (init ["f","k","p"] ds):=by
 rintro ds Q ⟨n,f,k,p,rfl,hn,k0,k9,hp,h⟩;unfold a34;show(dE _:US) _ [some<|.pu<|aX<|rwF n f,some<|.pu<|.int k,some<|.pu<|.int p];rw[mJ,gS,gT,gS,gT]
 refine fG (t0:=0) n (λi=>((rwF n f).map D.int).getD i .non) [some<|.pu<|aX<|rwF n f,some<|.pu<|.int k,some<|.pu<|.int p] ?_ ad (λx l=>[x,some<|.pu<|.int k,some<|.ow l]) none rfl (λ_ _ _=>rfl) (λ_ _=>cY _) (λ_ _ _ q=>q) (λ_ _ _=>rfl) (λi=> .int (k*f i)) ?_ ?_
 ·intro Q' q;simp only[aX]at q⊢;walk_at "u";rw[bH];exact q
 ·intro i l Q' hk q;rw[nW hk]at q⊢;walk_at "u";exact⟨cmL ad ad,q⟩
 ·rw[bR0];walk_at "u";exact⟨n,λi=>k*f i,p,rfl,hn,hp,h⟩
def qY:Φ:=λds Q=> ∃c p:Int,ds=[.int c,.int p]/\0<=c/\c<p/\2<=p/\p<200/\Q (.pu<|.int<|b26 c p<|p.toNat-2)
def qZ:US:=(aV (cE 2<|uC<|.int 1)<|aV (kI (kG<|a9 (uOp M.gSub (aC 1)<|uC<|.int 2) aK) (cR 3)<|cE 2<|uOp oE (uOp j9 (aC 2)<|aC 0)<|aC 1)<|tI 2)
theorem aU7: ∀ds Q,qY ds Q->qZ {nx:=λ_=>Q (.pu .non),rt:=Q} (init ["c","p","v","s"] ds):=by
 rintro ds Q ⟨c,p,rfl,c0,c1,p2,p9,h⟩;unfold qZ;show(aV _ _:US) _ [some<|.pu<|.int c,some<|.pu<|.int p,none,none];walk_at "u";refine bV (p.toNat-2) (λk=> .int (0+k)) [some<|.pu<|.int c,some<|.pu<|.int p,some<|.pu<|.int 1,none] ?_
  (λk ρ=> ∃z,ρ=[some<|.pu<|.int c,some<|.pu<|.int p,some<|.pu<|.int<|b26 c p k,z]) ⟨none,rfl⟩ ?_ ?_
 ·intro Q' q;walk_at "u";refine⟨⟨ad,ad⟩,?_⟩
  rw[show(p-2).toNat=p.toNat-2 by lia]
  exact q
 ·rintro k ρ hk ⟨z,rfl⟩;have:=b27 (c:=c) p2 k;walk_at "u";refine⟨ae,cmL ad ad,ad,some<|.pu<|.int<|0+(k:Int),?_⟩
  rw[dY _ ad]
  rfl
 ·rintro ρ ⟨z,rfl⟩;walk_at "u";exact h
def r6:Φ:=λds Q=> ∃(n k d:Nat) (f g:Nat->Int) (p:Int),ds=[aX<|rwF n f,aX<|rwF k g,.int p]/\n<=50/\k<=50/\Pr p/\(∀j,k<=j->g j=0)/\d<k/\(∀j,d<j->md p g j=0)/\md p g d≠0/\
 ∀t,t*md p g d%p=1->0<=t->t<p->
  let b:=λj=>t*md p g j%p
  let LA:=fK (md p f) n
  let q:=divQ b d (LA-d) (md p f)
  let r:=divL b d (LA-d) (md p f)
  Q (.pu<|.tup [aX<|rwF (fK (λj=>t*q j%p)<|fK q<|LA-d) λj=>t*q j%p,aX<|rwF (fK (md p r)<|fK r LA)<|md p r])
def wN:US:=(dE<|gF<|a9 (aP uS<|a9 (aC 5)<|a9 (aC 4)<|a9 (aC 2) aK)<|a9 (aP iZ<|a9 (aC 6)<|a9 (aC 2) aK) aK)
def pN:US:=(aV (cC9 (aP gA<|a9 (aP iZ<|a9 (aC 0)<|a9 (aC 2) aK)<|a9 (aP uS<|a9 (aC 3)<|a9 (aC 4)<|a9 (aC 2) aK) aK)<|rL<|fB 5<|fB 6 rK) wN)
def r8:US:=(aV (cE 3<|aP iZ<|a9 (aC 1)<|a9 (aC 2) aK)<|aV (cE 4<|aP qY<|a9 (uIx (aO 3)<|jA<|uC<|.int 1)<|a9 (aC 2) aK) pN)
theorem aU8: ∀ds Q,r6 ds Q->r8 {nx:=λ_=>Q (.pu .non),rt:=Q} (init ["a","b","p","l","t","q","r"] ds):=by
 rintro ds Q ⟨n,k,d,f,g,p,rfl,hn,hk,pp,gz,dk,dz,d0,h⟩;have p2:=pp.lo;have p9:=pp.hi;unfold r8;show(aV _ _:US) _ [some<|.pu<|aX<|rwF n f,some<|.pu<|aX<|rwF k g,some<|.pu<|.int p,none,none,none,none];have ed:fK (md p g) k=d+1:=rT ad (λm m1 m2=>dz m ad) (.inr<|by simpa using d0)
 have c1:=cM (g d) (show p≠0 by lia)
 have c2:=cV (g d) (show 0<p by lia)
 have c3:0<md p g d:=by
  have:md p g d=g d%p:=rfl
  lia
 have tR:=b27 (c:=md p g d) p2 (p.toNat-2);have ht:=pp.inv _ c3 c2;generalize et:b26 (md p g d) p (p.toNat-2)=t at tR ht;have bA: ∀j,0<=t*md p g j%p/\t*md p g j%p<p:=λj=>⟨cM _ ad,cV _ ad⟩
 have hc:fK (λj=>t*md p g j%p) (d+1)=d+1:=rT (aB _) (λm a b=>ad) (.inr (by
  show t*md p g d%p≠0
  rw[ht];decide))
 have LA9:=rS (md p f) n;have low:aX (rwF (fK (md p g) k)<|md p g)= .tup ((rwF (d+1)<|md p g).map .int):=by rw[ed];rfl
 walk_at "u"
 refine⟨k,g,p,rfl,ad,ad,?_⟩
 rw[low];walk_at "u";rw[a33 ad]
 walk_at "u"
 refine⟨md p g d,p,rfl,ad,c2,p2,p9,?_⟩
 rw[et];show pN _ [some<|.pu<|aX<|rwF n f,some<|.pu<|aX<|rwF k g,some<|.pu<|.int p,some<|.pu<|aX<|rwF (d+1)<|md p g,some<|.pu<|.int t,none,none];unfold pN;walk_at "u";refine⟨n,f,p,rfl,ad,ad,?_⟩
 refine⟨d+1,md p g,t,p,rfl,ad,ad,ad,ad,?_⟩
 rw[hc];refine⟨fK (md p f) n,d,8,8,md p f,λj=>t*md p g j%p,rfl,⟨ad,ad,ht,λj hj=>by
  show t*md p g j%p=0
  rw[dz j hj,bJ,cB],λm _=>md_nat p2 p9 f m,λj=>by
   have:=bA j;show(t*md p g j%p).natAbs<=256
   lia,ad,ac⟩,?_⟩
 have hh:=h t ht tR.1 tR.2;have q9:=rS (divQ (λj=>t*md p g j%p) d (fK (md p f) n-d)<|md p f) (fK (md p f) n-d)
 have r9:=rS (divL (λj=>t*md p g j%p) d (fK (md p f) n-d)<|md p f) (fK (md p f) n)
 simp only[]at hh;walk_at "u";refine⟨ae,ae,trivial,?_⟩
 unfold wN;walk_at "u";refine⟨_,_,t,p,rfl,ad,ad,ad,ad,?_⟩
 refine⟨_,_,p,rfl,ad,ad,?_⟩
 walk_at "u"
 exact⟨ac,hh⟩
noncomputable def prB (i k:Nat):Bool:=if(2:Int)+(i:Int)=2+(k:Int)then true else !decide (((2:Int)+(i:Int))%(2+(k:Int))=0)
noncomputable def prC (i:Nat):Bool:=((List.range 13).map<|prB i).all id
noncomputable def prL:List Int:=((List.range 198).filter prC).map λi:Nat=>(2:Int)+(i:Int)
theorem bR8 {c p:Nat}(hp:2<=p): ∀n,b26 (c:Int) (p:Int) n=((c^n%p:Nat):Int)
 | 0=>by
  show(1:Int)=_
  rw[Nat.pow_zero,Nat.mod_eq_of_lt ad]
  rfl
 | n+1=>by
  show b26 (c:Int) (p:Int) n*(c:Int)%(p:Int)=_
  rw[bR8 hp n,<-aG0,<-Int.natCast_emod,pow_succ,Nat.mod_mul_mod]
theorem pr_all:prL.all (λp=>decide (2<=p)&&decide (p<200)&&(List.range p.toNat).all λc=>decide (c=0)||decide (c^(p.toNat-2)%p.toNat*c%p.toNat=1))=true:=af
theorem yT {p:Int}(h:p∈prL):Pr p:=by
 have h1:=cX.mp pr_all p h;simp only[dN,fS,cX,dW,xU]at h1;obtain⟨⟨a,b⟩,c⟩:=h1;refine⟨a,b,λx x0 x1=> ?_⟩
 obtain⟨q,rfl⟩: ∃q:Nat,p=(q:Int):=⟨p.toNat,ad⟩
 obtain⟨y,rfl⟩: ∃y:Nat,x=(y:Int):=⟨x.toNat,ad⟩
 have h2:=c y ad
 rw[eM]at h2⊢;rw[bR8 ad,<-aG0,<-Int.natCast_emod]
 rcases h2 with h2|h2
 ·lia
 ·rw[h2];rfl
noncomputable def T_SMALL_PRIMES:List Int:=[2,3,5,7,11,13,17,19,23,29,31,37,41,43,47,53,59,61,67,71,73,79,83,89,97,101,103,107,109,113,127,131,137,139,149,151,157,163,167,173,179,181,191,193,197,199]
theorem tp_ok: ∀p∈T_SMALL_PRIMES,2<=p/\p<200:=af
theorem cR2:T_SMALL_PRIMES.Pairwise (λa b=>a<b):=af
theorem b28:T_SMALL_PRIMES.length=46:=rfl
def kH:Φ:=λds Q=>ds=[]/\Q (.ow<|T_SMALL_PRIMES.map .int)
def nX:US:=(dE<|aP a83<|a9 (uC<|.tup<|T_SMALL_PRIMES.map .int) aK)
theorem aL2: ∀ds Q,kH ds Q->nX {nx:=λ_=>Q (.pu .non),rt:=Q} (init [] ds):=by
 rintro ds Q ⟨rfl,h⟩;unfold nX;show(dE _:US) _ [];walk_at "u";exact h
theorem bI5:prL=T_SMALL_PRIMES:=af
noncomputable def ps (f:Nat->Int)(z:Int):Nat->Int
 | 0=>0
 | n+1=>ps f z n+f n*z^n
noncomputable def hor (f:Nat->Int)(n:Nat)(z:Int):Nat->Int
 | 0=>0
 | k+1=>hor f n z k*z+f (n-1-k)
theorem cR3 (f:Nat->Int)(n:Nat)(z:Int): ∀k,k<=n->hor f n z k*z^(n-k)+ps f z (n-k)=ps f z n
 | 0,_=>by show(0:Int)*_+_=_;rw[iA,d5];rfl
 | k+1,h=>by
  have ih:=cR3 f n z k ad
  obtain⟨m,hm⟩: ∃m,n-k=m+1:=⟨n-k-1,ad⟩
  have e1:n-(k+1)=m:=ad
  have e2:n-1-k=m:=ad
  rw[hm]at ih;show(hor f n z k*z+f (n-1-k))*z^(n-(k+1))+ps f z (n-(k+1))=_;rw[e1,e2,<-ih];show _=hor f n z k*z^(m+1)+(ps f z m+f m*z^m);rw[kU,yB];have e3:hor f n z k*z*z^m=hor f n z k*(z^m*z):=by rw[kT,t9 z]
  lia
theorem c83 (f:Nat->Int)(n:Nat)(z:Int):hor f n z n=ps f z n:=by
 have:=cR3 f n z n (aB _);rw[n6]at this;have e:hor f n z n*z^0+ps f z 0=hor f n z n:=by
  show hor f n z n*z^0+0=_
  rw[fV,kW,i9]
 lia
theorem aP6 {f:Nat->Int}{n a b:Nat}{z:Int}(hf: ∀j,(f j).natAbs<=2^a)(hz:z.natAbs<=2^b): ∀k,(hor f n z k).natAbs<=2^(a+(b+1)*k)
 | 0=>by simp[hor]
 | k+1=>by
  show(hor f n z k*z+f (n-1-k)).natAbs<=_
  have ih:=aP6 (n:=n) hf hz k;have h1:(hor f n z k*z).natAbs<=2^(a+(b+1)*k)*2^b:=by rw[gL];exact iU ih hz
  have h2:=hf (n-1-k);have h3:=xL (hor f n z k*z) (f<|n-1-k);have e1:2^(a+(b+1)*(k+1))=2^(a+(b+1)*k)*2^b+2^(a+(b+1)*k)*2^b:=by
   rw[xZ,<-sZ,<-sZ,pow_succ,jQ 2 (a+(b+1)*k) b];lia
  have h4:2^a<=2^(a+(b+1)*k)*2^b:=by
   rw[<-jQ];exact oS ac ad
  lia
theorem cR4 (f g:Nat->Int)(z:Int): ∀n,ps (λj=>f j+g j) z n=ps f z n+ps g z n
 | 0=>rfl
 | n+1=>by
  show ps (λj=>f j+g j) z n+(f n+g n)*z^n=ps f z n+f n*z^n+(ps g z n+g n*z^n)
  rw[cR4 f g z n,yB]
  lia
theorem cR5 (c:Int)(f:Nat->Int)(z:Int): ∀n,ps (λj=>c*f j) z n=c*ps f z n
 | 0=>by show(0:Int)=c*0;rw[bJ]
 | n+1=>by
  show ps (λj=>c*f j) z n+c*f n*z^n=c*(ps f z n+f n*z^n)
  rw[cR5 c f z n,yC,kT]
theorem bI6 {f:Nat->Int}{z:Int}{n:Nat}: ∀m,n<=m->(∀j,n<=j->j<m->f j=0)->ps f z m=ps f z n
 | 0,h,_=>by rw[show n=0 by lia]
 | m+1,h,hz=>by
  by_cases c:n=m+1
  ·rw[c]
  ·show ps f z m+f m*z^m=_
   rw[hz m ad ad,iA,i9]
   exact bI6 m ad λj a b=>hz j a ad
theorem bE1 (b:Nat->Int)(z:Int)(U:Nat): ∀n,n<=U->ps (shF b U) z n=0
 | 0,_=>rfl
 | n+1,h=>by
  show ps (shF b U) z n+shF b U n*z^n=0
  rw[bE1 b z U n aa]
  unfold shF;rw[a6 aa,iA]
  rfl
theorem bR9 (b:Nat->Int)(z:Int)(U:Nat): ∀m,ps (shF b U) z (U+m)=z^U*ps b z m
 | 0=>by rw[Nat.add_zero,bE1 b z U U<|aB _];show(0:Int)=z^U*0;rw[bJ]
 | m+1=>by
  show ps (shF b U) z (U+m)+shF b U (U+m)*z^(U+m)=z^U*(ps b z m+b m*z^m)
  rw[bR9 b z U m];unfold shF;rw[a7 ad,show U+m-U=m by lia,Int.pow_add,yC,Int.mul_left_comm]
theorem c84 {u b:Nat->Int}{z:Int}{V:Nat}(hb: ∀j,V<=j->b j=0): ∀U N,U+V<=N->ps (conv u b U) z N=ps u z U*ps b z V
 | 0,N,_=>by
  have:ps (conv u b 0) z N=0:=by
   have e:ps (conv u b 0) z N=ps (conv u b 0) z 0:=bI6 N (d6 _) λ_ _ _=>rfl
   rw[e];rfl
  rw[this];show(0:Int)=0*_;rw[iA]
 | U+1,N,h=>by
  have e:conv u b (U+1)=λm=>conv u b U m+u U*shF b U m:=rfl
  rw[e,cR4 (conv u b U) λm=>u U*shF b U m,c84 hb U N ad,cR5]
  obtain⟨m,rfl⟩: ∃m,N=U+m:=⟨N-U,ad⟩
  rw[bR9,bI6 (n:=V) m ad λj a _=>hb j a]
  show _=(ps u z U+u U*z^U)*ps b z V
  rw[yB,kT<|u U]
structure d99 (n a b:Nat)(f:Nat->Int)(z:Int):Prop where
 fb: ∀j,(f j).natAbs<=2^a
 zb:z.natAbs<=2^b
 room:a+(b+1)*n<8000
 b8:b<8000
 n9:n<=200
def rV:Φ:=λds Q=> ∃(n a b:Nat) (f:Nat->Int) (z:Int),ds=[aX<|rwF n f,.int z]/\d99 n a b f z/\Q (.pu<|.int<|ps f z n)
def yU:US:=(aV (cE 2<|uC<|.int 0)<|aV (kI (c71<|a9 (aC 0) aK) (cR 3)<|cE 2<|uOp jU (uOp j9 (aC 2)<|aC 1)<|aC 3)<|tI 2)
theorem bI7: ∀ds Q,rV ds Q->yU {nx:=λ_=>Q (.pu .non),rt:=Q} (init ["f","z","v","c"] ds):=by
 rintro ds Q ⟨n,a,b,f,z,rfl,ok,h⟩;unfold yU;simp only[aX];show(aV _ _:US) _ [some<|.pu<|.tup<|(rwF n f).map .int,some<|.pu<|.int z,none,none];walk_at "u";refine bV n (λk=>((rwF n f).map D.int).getD (n-1-k) .non) [some<|.pu<|.tup<|(rwF n f).map .int,some<|.pu<|.int z,some<|.pu<|.int 0,none] ?_
  (λk ρ=> ∃c,ρ=[some<|.pu<|.tup<|(rwF n f).map .int,some<|.pu<|.int z,some<|.pu<|.int<|hor f n z k,c]) ⟨none,rfl⟩ ?_ ?_
 ·intro Q' q;walk_at "u";rw[bH];exact q
 ·rintro k ρ hk ⟨c,rfl⟩;rw[nW aa]
  walk_at "u"
  have room:=ok.room;have:(b+1)*k<=(b+1)*n:=i5 _ aa
  exact⟨ae,.inr ⟨Sm.pow (aP6 ok.fb ok.zb k) aa,Sm.pow ok.zb (by have:=ok.b8;omega)⟩,_,rfl⟩
 ·rintro ρ ⟨c,rfl⟩;walk_at "u";rw[c83];exact h
theorem c85 (f g:Nat->Int)(n m:Nat):shF (λj=>f j+g j) n m=shF f n m+shF g n m:=by
 unfold shF;dsimp only;split<;>lia
theorem d40 (c:Int)(f:Nat->Int)(n m:Nat):shF (λj=>c*f j) n m=c*shF f n m:=by
 unfold shF;dsimp only;split
 ·rfl
 ·rw[bJ]
theorem shF_sh (h:Nat->Int)(n k m:Nat):shF (shF h n) k m=shF h (n+k) m:=by
 unfold shF
 by_cases c:k<=m
 ·rw[a7 c]
  by_cases d:n<=m-k
  ·rw[a7 d,a7 ad,show m-k-n=m-(n+k)by lia]
  ·rw[a6 d,a6 ad]
 ·rw[a6 c,a6 ad]
theorem bE2 (f g b:Nat->Int)(m:Nat): ∀n,conv (λj=>f j+g j) b n m=conv f b n m+conv g b n m
 | 0=>rfl
 | n+1=>by
  show conv (λj=>f j+g j) b n m+(f n+g n)*shF b n m=conv f b n m+f n*shF b n m+(conv g b n m+g n*shF b n m)
  rw[bE2 f g b m n,yB]
  lia
theorem bE3 (c:Int)(f b:Nat->Int)(m:Nat): ∀n,conv (λj=>c*f j) b n m=c*conv f b n m
 | 0=>by show(0:Int)=c*0;rw[bJ]
 | n+1=>by
  show conv (λj=>c*f j) b n m+c*f n*shF b n m=c*(conv f b n m+f n*shF b n m)
  rw[bE3 c f b m n,yC,kT]
theorem bS0 (f b:Nat->Int)(k m:Nat): ∀n,conv (shF f k) b (k+n) m=shF (conv f b n) k m
 | 0=>by
  have e: ∀j,j<=k->conv (shF f k) b j m=0:=by
   intro j
   induction j with
   | zero=>intro _;rfl
   | succ j ih=>
    intro hj;show conv (shF f k) b j m+shF f k j*shF b j m=0;rw[ih ad]
    unfold shF;rw[a6 ad,iA]
    rfl
  rw[Nat.add_zero,e k<|aB _];unfold shF;split<;>rfl
 | n+1=>by
  show conv (shF f k) b (k+n) m+shF f k (k+n)*shF b (k+n) m=shF (λm=>conv f b n m+f n*shF b n m) k m
  rw[bS0 f b k m n,c85,d40,shF_sh,add_comm n k]
  congr 2
  unfold shF;rw[a7 ad,show k+n-k=n by lia]
theorem b29 {u b c:Nat->Int}{V:Nat}(hb: ∀j,V<=j->b j=0)(m:Nat): ∀U,conv u (conv b c V) U m=conv (conv u b U) c (U+V) m
 | 0=>by
  have e: ∀n,conv (conv u b 0) c n m=0:=by
   intro n
   induction n with
   | zero=>rfl
   | succ n ih=>
    show conv (conv u b 0) c n m+0*shF c n m=0
    rw[ih,iA];rfl
  rw[e];rfl
 | U+1=>by
  show conv u (conv b c V) U m+u U*shF (conv b c V) U m=conv (λm=>conv u b U m+u U*shF b U m) c (U+1+V) m
  rw[bE2,bE3,b29 hb m U];have z1: ∀j,U+V<=j->j<U+1+V->conv u b U j=0:=λj h1 h2=>by
   have: ∀i,V<i+1->b i=0:=λi hi=>hb i ad
   by_cases v:V=0
   ·subst v;have e:b=λ_=>0:=funext λj=>hb j (d6 _)
    rw[e];have nul: ∀n,conv u (λ_=>0) n j=0:=by
     intro n
     induction n with
     | zero=>rfl
     | succ n ih=>
      show conv u (λ_=>0) n j+u n*shF (λ_=>0) n j=0
      rw[ih];unfold shF;split<;>rw[bJ]<;>rfl
    exact nul U
   ·exact lF (d:=V-1) (λi hi=>hb i ad) U j ad
  rw[aL1 (u:=conv u b U) (b:=c) (U:=U+V) (U+1+V) z1 ad]
  have z2: ∀j,U+V<=j->j<U+1+V->shF b U j=0:=λj h1 h2=>by
   unfold shF;rw[a7 ad]
   exact hb _ ad
  rw[aL1 (u:=shF b U) (b:=c) (U:=U+V) (U+1+V) z2 ad,bS0]
theorem aP7 (u f g:Nat->Int)(m:Nat): ∀n,conv u (λj=>f j+g j) n m=conv u f n m+conv u g n m
 | 0=>rfl
 | n+1=>by
  show conv u (λj=>f j+g j) n m+u n*shF (λj=>f j+g j) n m=conv u f n m+u n*shF f n m+(conv u g n m+u n*shF g n m)
  rw[aP7 u f g m n,c85,yC]
  lia
theorem aL3 {u:Nat->Int}{n:Nat}(c:Int)(k:Nat)(hu: ∀j,n<=j->u j=0)(m:Nat):conv u (λj=>if j=k then c else 0) n m=c*shF u k m:=by
 have e: ∀n,conv u (λj=>if j=k then c else 0) n m=if k<=m/\m-k<n then c*u (m-k)else 0:=by
  intro n
  induction n with
  | zero=>rw[a6 aa];rfl
  | succ n ih=>
   show conv u (λj=>if j=k then c else 0) n m+u n*shF (λj=>if j=k then c else 0) n m=_
   have sh:shF (λj=>if j=k then c else 0) n m=if n<=m/\m-n=k then c else 0:=by
    unfold shF;dsimp only
    by_cases h3:n<=m
    ·rw[a7 h3]
     by_cases h4:m-n=k
     ·rw[a7 h4,a7 ⟨h3,h4⟩]
     ·rw[a6 h4,a6 λz=>h4 z.2]
    ·rw[a6 h3,a6 λz=>h3 z.1]
   rw[ih,sh]
   by_cases h1:k<=m/\m-k<n
   ·rw[a7 h1,a6<|show ¬(n<=m/\m-n=k)by omega,a7<|show k<=m/\m-k<n+1 by omega,bJ,i9]
   ·rw[a6 h1]
    by_cases h2:k<=m/\m-k=n
    ·rw[a7<|show n<=m/\m-n=k by omega,a7<|show k<=m/\m-k<n+1 by omega,h2.2,d5,t9]
    ·rw[a6<|show ¬(n<=m/\m-n=k)by omega,a6<|show ¬(k<=m/\m-k<n+1)by omega,bJ]
     rfl
 rw[e n];unfold shF
 by_cases h1:k<=m
 ·rw[a7 h1]
  by_cases h2:m-k<n
  ·rw[a7 ⟨h1,h2⟩]
  ·rw[a6 aa,hu _ aa,bJ]
 ·rw[a6 h1,a6 aa,bJ]
theorem cE8 {u b:Nat->Int}{U V:Nat}(hu: ∀j,U<=j->u j=0)(hb: ∀j,V<=j->b j=0)(m:Nat):conv u b U m=conv b u V m:=by
 have e: ∀n,conv u b n m=conv b (λj=>if j<n then u j else 0) V m:=by
  intro n
  induction n with
  | zero=>
   have:(λj=>if j<0 then u j else 0)=λj=>if j=0 then(0:Int)else 0:=funext λj=>ae
   rw[this,aL3 0 0 hb,iA];rfl
  | succ n ih=>
   have:(λj=>if j<n+1 then u j else 0)=λj=>(if j<n then u j else 0)+(if j=n then u n else 0):=funext λj=>by
    by_cases h1:j<n
    ·rw[a7 ad,a7 h1,a6 ad,i9]
    ·by_cases h2:j=n
     ·subst h2;rw[a7 ad,a6 h1,a7 rfl,d5]
     ·rw[a6 ad,a6 h1,a6 h2];rfl
   rw[this,aP7 b (λj=>if j<n then u j else 0) λj=>if j=n then u n else 0,aL3 _ _ hb,<-ih]
   rfl
 rw[e U]
 congr 1
 funext j
 by_cases h:j<U
 ·rw[a7 h]
 ·rw[a6 h,hu j ad]
theorem emL (a b p:Int):a%p*b%p=a*b%p:=by rw[dX,iW,<-dX]
theorem emR (a b p:Int):a*(b%p)%p=a*b%p:=by rw[dX,iW,<-dX]
structure MP (p:Int)(n:Nat)(f:Nat->Int):Prop where
 top:f n=1
 hi: ∀j,n<j->f j=0
 rng: ∀j,0<=f j/\f j<p
theorem MP.z {p:Int}{n:Nat}{f:Nat->Int}(h:MP p n f): ∀j,n+1<=j->f j=0:=λj hj=>h.hi j hj
noncomputable def tm (p:Int)(a b:Nat×(Nat->Int)):Nat×(Nat->Int):=(a.1+b.1,md p<|conv a.2 b.2 (a.1+1))
theorem b30 {p:Int}(u b:Nat->Int)(n m:Nat):conv (md p u) b n m%p=conv u b n m%p:=aX5 (λi j=>by show u i%p*b j%p=_;rw[emL]) n m
theorem cR6 {p:Int}(u b:Nat->Int)(n m:Nat):conv u (md p b) n m%p=conv u b n m%p:=aX5 (λi j=>by show u i*(b j%p)%p=_;rw[emR]) n m
theorem MP.tm {p:Int}{a b:Nat×(Nat->Int)}(hp:2<=p)(ha:MP p a.1 a.2)(hb:MP p b.1 b.2):MP p (M.tm p a b).1 (M.tm p a b).2:=by
 refine⟨?_,λj hj=> ?_,λj=>⟨cM _ ad,cV _ ad⟩⟩
 ·show conv a.2 b.2 (a.1+1) (a.1+b.1)%p=1
  rw[bR6 hb.hi,ha.top,hb.top];exact cW ac ad
 ·show conv a.2 b.2 (a.1+1) j%p=0
  have hj':a.1+b.1<j:=hj;rw[lF (d:=b.1) hb.hi (a.1+1) j ad,cB]
theorem a35 {p:Int}{a b c:Nat×(Nat->Int)}(hb: ∀j,b.1<j->b.2 j=0):tm p a (tm p b c)=tm p (tm p a b) c:=by
 refine fX (sZ _ _ _).symm (funext λm=> ?_)
 show conv a.2 (md p<|conv b.2 c.2 (b.1+1)) (a.1+1) m%p=conv (md p<|conv a.2 b.2 (a.1+1)) c.2 (a.1+b.1+1) m%p
 rw[cR6,b30,b29 (V:=b.1+1) (λj hj=>hb j hj) m<|a.1+1]
 rw[aL1 (u:=conv a.2 b.2 (a.1+1)) (b:=c.2) (U:=a.1+b.1+1) (a.1+1+(b.1+1)) (λj h1 h2=>lF (d:=b.1) hb (a.1+1) j ad) ad]
theorem yV {p:Int}{a b:Nat×(Nat->Int)}(ha: ∀j,a.1<j->a.2 j=0)(hb: ∀j,b.1<j->b.2 j=0):tm p a b=tm p b a:=by
 refine fX (add_comm _ _) (funext λm=> ?_)
 show conv a.2 b.2 (a.1+1) m%p=conv b.2 a.2 (b.1+1) m%p
 rw[cE8 (U:=a.1+1) (V:=b.1+1) (λj hj=>ha j hj) λj hj=>hb j hj]
noncomputable def bQ:Nat×(Nat->Int):=(0,λj=>if j=0 then 1 else 0)
theorem MP.one {p:Int}(hp:2<=p):MP p bQ.1 bQ.2:=⟨rfl,λj hj=>a6 (by have:0<j:=hj;lia),λj=>by show 0<=(if j=0 then(1:Int)else 0)/\(if j=0 then(1:Int)else 0)<p;split<;>lia⟩
theorem a36 {p:Int}{a:Nat×(Nat->Int)}(ha:MP p a.1 a.2):tm p bQ a=a:=by
 refine fX (Nat.zero_add _) (funext λm=> ?_)
 show(0+(if(0:Nat)=0 then(1:Int)else 0)*shF a.2 0 m)%p=a.2 m
 rw[a7 rfl,yA,d5];unfold shF;rw[a7<|d6 _,sub_zero];exact cW (ha.rng m).1 (ha.rng m).2
noncomputable def fP (c:Int):Nat×(Nat->Int):=(1,λj=>if j=0 then c else if j=1 then 1 else 0)
theorem MP.lin {p c:Int}(hp:2<=p)(h0:0<=c)(h1:c<p):MP p (fP c).1 (fP c).2:=⟨rfl,λj hj=>by
  have:1<j:=hj;show(if j=0 then c else if j=1 then 1 else 0)=0;rw[a6 ad,a6 ad],λj=>by
  show 0<=(if j=0 then c else if j=1 then 1 else 0)/\(if j=0 then c else if j=1 then 1 else 0)<p
  split
  ·lia
  ·split<;>lia⟩
noncomputable def va (p:Int)(a:Nat×(Nat->Int))(z:Int):Int:=ps a.2 z (a.1+1)%p
theorem dA0 (p:Int)(f:Nat->Int)(z:Int): ∀n,ps (md p f) z n%p=ps f z n%p
 | 0=>rfl
 | n+1=>by
  show(ps (md p f) z n+f n%p*z^n)%p=(ps f z n+f n*z^n)%p
  rw[fU,dA0 p f z n,emL,<-fU]
theorem c86 {p:Int}{a b:Nat×(Nat->Int)}(hb: ∀j,b.1<j->b.2 j=0)(z:Int):va p (tm p a b) z=va p a z*va p b z%p:=by
 show ps (md p<|conv a.2 b.2 (a.1+1)) z (a.1+b.1+1)%p=ps a.2 z (a.1+1)%p*(ps b.2 z (b.1+1)%p)%p
 rw[dA0,<-dX];have h:=c84 (u:=a.2) (b:=b.2) (z:=z) (V:=b.1+1) (λj hj=>hb j hj) (a.1+1) (a.1+1+(b.1+1)) (aB _)
 rw[<-h,bI6 (n:=a.1+b.1+1) (a.1+1+(b.1+1)) ad λj h1 h2=>lF (d:=b.1) hb (a.1+1) j ad]
noncomputable def hqA (c:Int)(f:Nat->Int)(n:Nat):Nat->Int
 | 0=>f n
 | k+1=>f (n-1-k)-c*hqA c f n k
noncomputable def hq (c:Int)(f:Nat->Int)(n:Nat):Nat->Int:=λj=>if j<n then hqA c f n (n-1-j)else 0
theorem c87 {c:Int}{f:Nat->Int}{n:Nat}(hf: ∀j,n<j->f j=0)(j:Nat)(hj:1<=j):f j=hq c f n (j-1)+c*hq c f n j:=by
 unfold hq
 by_cases h1:j<n
 ·rw[a7<|show j-1<n by lia,a7 h1,show n-1-(j-1)=(n-1-j)+1 by lia]
  show f j=f (n-1-(n-1-j))-c*hqA c f n (n-1-j)+c*hqA c f n (n-1-j)
  rw[show n-1-(n-1-j)=j by lia]
  lia
 ·by_cases h2:j=n
  ·subst h2;rw[a7<|show j-1<j by lia,a6 h1,show j-1-(j-1)=0 by lia,bJ,i9]
   rfl
  ·rw[a6<|show ¬j-1<n by lia,a6 h1,hf j ad,bJ]
   rfl
theorem dA1 {c:Int}{f:Nat->Int}{n:Nat}(hf: ∀j,n<j->f j=0): ∀m,ps f (-c) (m+1)=f 0-c*hq c f n 0+c*hq c f n m*(-c)^m
 | 0=>by
  show 0+f 0*(-c)^0=_
  rw[fV,kW,kW]
  lia
 | m+1=>by
  show ps f (-c) (m+1)+f (m+1)*(-c)^(m+1)=_
  rw[dA1 hf m,c87 (c:=c) hf (m+1) ad,jJ,kU]
  grind
theorem hq_at {c:Int}{f:Nat->Int}{n:Nat}(hf: ∀j,n<j->f j=0):ps f (-c) (n+1)=f 0-c*hq c f n 0:=by
 rw[dA1 hf n];have:hq c f n n=0:=by unfold hq;rw[a6<|cZ _]
 rw[this,bJ,iA,i9]
theorem aL4 {u:Nat->Int}{n:Nat}(c:Int)(hu: ∀j,n<=j->u j=0)(m:Nat):conv u (fP c).2 n m=c*u m+(if m=0 then 0 else u (m-1)):=by
 have e:(fP c).2=λj=>(if j=0 then c else 0)+(if j=1 then 1 else 0):=funext λj=>by
  show(if j=0 then c else if j=1 then 1 else 0)=_
  by_cases h0:j=0
  ·subst h0;simp
  ·rw[a6 h0,a6 h0,d5]
 rw[e,aP7 u (λj=>if j=0 then c else 0) λj=>if j=1 then 1 else 0,aL3 c 0 hu,aL3 1 1 hu,yA]
 unfold shF;rw[a7<|d6 _,sub_zero]
 congr 1
 by_cases h0:m=0
 ·rw[a7 h0,a6 ad]
 ·rw[a6 h0,a7 ad]
theorem d41 {c:Int}{f:Nat->Int}{n:Nat}(hf: ∀j,n<j->f j=0)(m:Nat):f m=conv (hq c f n) (fP c).2 n m+(if m=0 then f 0-c*hq c f n 0 else 0):=by
 rw[aL4 c (λj hj=>by unfold hq;rw[a6 ad])]
 by_cases h0:m=0
 ·subst h0;rw[a7 rfl,a7 rfl];lia
 ·rw[a6 h0,a6 h0,c87 (c:=c) hf m ad];lia
noncomputable def powT (p:Int)(a g:Nat×(Nat->Int)):Nat->Nat×(Nat->Int)
 | 0=>a
 | k+1=>tm p (powT p a g k) g
theorem MP.powT {p:Int}{a g:Nat×(Nat->Int)}(hp:2<=p)(ha:MP p a.1 a.2)(hg:MP p g.1 g.2): ∀k,MP p (M.powT p a g k).1 (M.powT p a g k).2
 | 0=>ha
 | k+1=>MP.tm hp (MP.powT hp ha hg k) hg
theorem iN (p:Int)(a g:Nat×(Nat->Int)): ∀k,(powT p a g k).1=a.1+g.1*k
 | 0=>rfl
 | k+1=>by
  show(powT p a g k).1+g.1=_
  rw[iN p a g k,xZ,sZ]
noncomputable def allT (p:Int)(a:Nat×(Nat->Int)):List ((Nat×(Nat->Int))×Nat)->Nat×(Nat->Int)
 | []=>a
 | x::l=>allT p (powT p a x.1 x.2) l
theorem gZ (p:Int): ∀(l m:List ((Nat×(Nat->Int))×Nat)) (a:Nat×(Nat->Int)),allT p a (l++m)=allT p (allT p a l) m
 | [],m,a=>rfl
 | x::l,m,a=>gZ p l m _
theorem MP.allT {p:Int}(hp:2<=p): ∀(l:List ((Nat×(Nat->Int))×Nat)) {a:Nat×(Nat->Int)},MP p a.1 a.2->(∀x∈l,MP p x.1.1 x.1.2)->MP p (M.allT p a l).1 (M.allT p a l).2
 | [],a,ha,_=>ha
 | x::l,a,ha,h=>MP.allT hp l (MP.powT hp ha (h x<|.head _) x.2) λy hy=>h y (.tail _ hy)
theorem aL5 (p:Int): ∀(l:List ((Nat×(Nat->Int))×Nat)) (a:Nat×(Nat->Int)) (x:(Nat×(Nat->Int))×Nat),x∈l->a.1+x.1.1*x.2<=(allT p a l).1
 | y::l,a,x,hx=>by
  show _<=(allT p (powT p a y.1 y.2) l).1
  have mono: ∀(l:List ((Nat×(Nat->Int))×Nat)) (a:Nat×(Nat->Int)),a.1<=(allT p a l).1:=by
   intro l
   induction l with
   | nil=>intro a;exact aB _
   | cons z l ih=>intro a;exact aT (by rw[iN];lia) (ih<|powT p a z.1 z.2)
  rcases aS.mp hx with rfl|hx
  ·have:=mono l (powT p a x.1 x.2);rw[iN]at this;exact this
  ·have:=aL5 p l (powT p a y.1 y.2) x hx;rw[iN]at this
   lia
noncomputable def a37 (x:(Nat×(Nat->Int))×Nat):D:= .tup [aX<|rwF (x.1.1+1) x.1.2,.int (x.2:Int)]
noncomputable def lnP (x:Int×Nat):(Nat×(Nat->Int))×Nat:=(fP x.1,x.2)
structure LK (p:Int)(F:Nat×(Nat->Int))(C:Nat)(cs:List (Int×Nat))(L:Nat×(Nat->Int)):Prop where
 prod:F=tm p (allT p bQ<|cs.map lnP) L
 mp:MP p L.1 L.2
 asc:cs.Pairwise λa b=>a.1<b.1
 mem: ∀x∈cs,0<=x.1/\x.1< (C:Int)/\1<=x.2
 nr: ∀c:Nat,c<C->va p L (-(c:Int))≠0
 len:cs.length<=C
theorem c88 {p:Int}(hp:2<=p){cs:List (Int×Nat)}(h: ∀x∈cs,0<=x.1/\x.1<p): ∀y∈cs.map lnP,MP p y.1.1 y.1.2:=by
 intro y hy;obtain⟨x,hx,rfl⟩:=fT.mp hy;exact MP.lin hp (h x hx).1 (h x hx).2
def tV:Φ:=λds Q=> ∃(n:Nat) (f:Nat->Int) (p:Int),ds=[aX<|rwF (n+1) f,.int p]/\n<=40/\Pr p/\MP p n f/\ ∀cs L,LK p (n,f) p.toNat cs L->Q (.pu<|.tup [.lst<|cs.map λx=>a37 (lnP x),aX<|rwF (L.1+1) L.2])
def a00:US:=(dE<|gF<|a9 (aC 2)<|a9 (aC 3) aK)
def a01:US:=(aV (kI (kG<|a9 (aC 1) aK) (cR 4)<|aV (cE 5<|uC<|.int 0)<|aV (aZ4 (cQ<|uOp (j2 false) (uOp oE (aP rV<|a9 (aC 3)<|a9 (jA<|aC 4) aK)<|aC 1)<|uC<|.int 0)<|aV (cE 3<|uIx (uV<|aP r6<|a9 (aC 3)<|a9 (gF<|a9 (aC 4)<|a9 (uC<|.int 1) aK)<|a9 (aC 1) aK)<|uC<|.int 0)<|bO5 5 (gI2 λi j Q=>Q (.pu<|.int<|i+j))<|uC<|.int 1)<|gH (cQ<|uOp (nB λi j=>decide (j<i)) (aC 5)<|uC<|.int 0) (aZ7 2<|gF<|a9 (gF<|a9 (aC 4)<|a9 (uC<|.int 1) aK)<|a9 (aC 5) aK) dZ) a00)
def a02:US:=(aV (cE 3<|aC 0) a01)
def tW:US:=(aV (cE 2<|lD aK) a02)
theorem cR7 {p:Int}(pp:Pr p){L:Nat×(Nat->Int)}(mp:MP p L.1 L.2){c:Int}(c0:0<=c)(c1:c<p)(hz:va p L (-c)=0){t:Int}(ht:t*md p (fP c).2 1%p=1)(t0:0<=t)(t1:t<p) :
  1<=L.1/\ ∃u:Nat->Int,MP p (L.1-1) u/\L=tm p (L.1-1,u) (fP c)/\
   (let b:=λj=>t*md p (fP c).2 j%p
    let LA:=fK (md p L.2) (L.1+1)
    let q:=divQ b 1 (LA-1) (md p L.2)
    rwF (fK (λj=>t*q j%p)<|fK q<|LA-1) (λj=>t*q j%p)=rwF L.1 u):=by
 have p2:=pp.lo;have mdL:md p L.2=L.2:=funext λj=>cW (mp.rng j).1 (mp.rng j).2
 have ml:=MP.lin p2 c0 c1;have mdG:md p (fP c).2=(fP c).2:=funext λj=>cW (ml.rng j).1 (ml.rng j).2
 have l1:1<=L.1:=by
  refine Nat.pos_of_ne_zero λz=> ?_
  unfold va at hz;rw[z]at hz;have e:ps L.2 (-c) (0+1)=L.2 0*(-c)^0:=by show 0+L.2 0*(-c)^0=_;lia
  have e2:L.2 0=1:=by have:=mp.top;rw[z]at this;exact this
  rw[e,e2,fV,kW,cW ac ad]at hz
  cases hz
 have r0:(L.2 0-c*hq c L.2 L.1 0)%p=0:=by rw[<-hq_at mp.hi];exact hz
 have fm: ∀m,L.2 m=conv (md p<|hq c L.2 L.1) (fP c).2 L.1 m%p:=λm=>by
  have h:=d41 (c:=c) mp.hi m;rw[b30];have e:L.2 m%p=L.2 m:=cW (mp.rng m).1 (mp.rng m).2;rw[<-e]
  conv=>lhs;rw[h]
  by_cases h0:m=0
  ·rw[a7 h0,fU,r0,i9,iW]
  ·rw[a6 h0,i9]
 have ut:md p (hq c L.2 L.1) (L.1-1)=1:=by
  show hq c L.2 L.1 (L.1-1)%p=1
  unfold hq;rw[a7 ad,n6]
  show L.2 L.1%p=1
  rw[mp.top];exact cW ac ad
 have uz: ∀j,L.1<=j->md p (hq c L.2 L.1) j=0:=λj hj=>by
  show hq c L.2 L.1 j%p=0
  unfold hq;rw[a6 ad,cB]
 have ur: ∀j,0<=md p (hq c L.2 L.1) j/\md p (hq c L.2 L.1) j<p:=λj=>⟨cM _ ad,cV _ ad⟩
 refine⟨l1,md p<|hq c L.2 L.1,⟨ut,λj hj=>uz j ad,ur⟩,?_,?_⟩
 ·refine fX (show L.1=L.1-1+1 by lia) (funext λm=> ?_)
  show L.2 m=conv (md p<|hq c L.2 L.1) (fP c).2 (L.1-1+1) m%p
  rw[show L.1-1+1=L.1 by lia]
  exact fm m
 ·have mm:=cR1 (p:=p) (t:=t) (B0:=md p (fP c).2) (u:=md p (hq c L.2 L.1)) (low:=λ_=>0) (A:=md p L.2) (d:=1) (U:=L.1) (n:=L.1+1) p2 (λj hj=>by rw[mdG];exact ml.hi j hj) (.inr (by rw[ut];decide)) ur uz (λ_ _=>rfl) (λ_=>⟨ac,ad⟩) ht (λm=>by rw[mdL,mdG,i9];exact fm m) (aB _)
  obtain⟨_,e1,_,_⟩:=mm;have eLA:fK (md p L.2) (L.1+1)=L.1+1:=rT (aB _) (λm h1 h2=>ad) (.inr (by rw[mdL,jJ,mp.top];decide))
  rw[eLA]at e1⊢;have eu:(λj=>t*divQ (λj=>t*md p (fP c).2 j%p) 1 (L.1+1-1) (md p L.2) j%p)=md p (hq c L.2 L.1):=funext e1
  dsimp only;rw[eu];have eq:fK (divQ (λj=>t*md p (fP c).2 j%p) 1 (L.1+1-1)<|md p L.2) (L.1+1-1)=L.1:=by
   rw[jJ];refine rT (aB _) (λm h1 h2=>ad) (.inr λz=> ?_)
   have h:=e1 (L.1-1);rw[jJ]at h;rw[z,bJ,cB,ut]at h;cases h
  rw[eq,rT (k:=L.1) (aB _) (λm h1 h2=>ad)<|.inr (by rw[ut];decide)]
theorem cR8 {p:Int}{a b:Nat×(Nat->Int)}(hb: ∀j,b.1<j->b.2 j=0){z:Int}(h:va p (tm p a b) z≠0):va p a z≠0/\va p b z≠0:=by
 rw[c86 hb]at h;refine⟨λe=>h ?_,λe=>h ?_⟩
 ·rw[e,iA,cB]
 ·rw[e,bJ,cB]
theorem b31 {p:Int}(pp:Pr p){n:Nat}{f:Nat->Int}(h:MP p n f)(j:Nat):(f j).natAbs<=2^8:=by
 have h1:=h.rng j;have h2:=pp.hi;have:(2:Nat)^8=256:=rfl
 lia
theorem b32: ∀ds Q,tV ds Q->tW {nx:=λ_=>Q (.pu .non),rt:=Q} (init ["f","p","a","l","c","o"] ds):=by
 rintro ds Q ⟨n,f,p,rfl,n4,pp,mp,h⟩;have p2:=pp.lo;have p3:=pp.hi;unfold tW;show(aV _ _:US) _ [some<|.pu<|aX<|rwF (n+1) f,some<|.pu<|.int p,none,none,none,none];rw[aU];walk_at "u";refine⟨ac,?_⟩
 unfold a02;rw[aU];walk_at "u";unfold a01;rw[aU];refine bV p.toNat (λi=> .int (0+i)) [some<|.pu<|aX<|rwF (n+1) f,some<|.pu<|.int p,some<|.ow [],some<|.pu<|aX<|rwF (n+1) f,none,none] ?_
  (λi ρ=> ∃(cs:List (Int×Nat)) (L:Nat×(Nat->Int)) (x y:Option B),ρ=[some<|.pu<|aX<|rwF (n+1) f,some<|.pu<|.int p,some<|.ow<|cs.map λx=>a37 (lnP x),some<|.pu<|aX<|rwF (L.1+1) L.2,x,y]/\LK p (n,f) i cs L)
  ⟨[],(n,f),none,none,rfl,(a36 (p:=p) (a:=(n,f)) mp).symm,mp,.nil,ae,ae,aB _⟩ ?_ ?_
 ·intro Q' q;walk_at "u";refine⟨⟨ad,ad⟩,?_⟩
  exact q
 ·rintro i ρ hi ⟨cs,L,x,y,rfl,lk⟩;have hLn:L.1<=n:=by
   have:=bP Prod.fst lk.prod;have e:n=(allT p bQ<|cs.map lnP).1+L.1:=this
   lia
  have mcs:=c88 p2 (cs:=cs) (λx hx=>⟨(lk.mem x hx).1,by have:=(lk.mem x hx).2.1;lia⟩)
  have mA:=MP.allT p2 (cs.map lnP) (MP.one p2) mcs;have mlin:=MP.lin p2 (c:=(i:Int)) ad ad
  rw[d5];walk_at "u";refine⟨ae,?_⟩
  refine⟨λk ρ=> ∃(o:Nat) (L':Nat×(Nat->Int)),ρ=[some<|.pu<|aX<|rwF (n+1) f,some<|.pu<|.int p,some<|.ow<|cs.map λx=>a37 (lnP x),some<|.pu<|aX<|rwF (L'.1+1) L'.2,some<|.pu<|.int (i:Int),some<|.pu<|.int (o:Int)]/\k=L'.1/\L'.1<=n/\(n,f)=tm p (powT p (allT p bQ<|cs.map lnP) (fP (i:Int)) o) L'/\MP p L'.1 L'.2/\ ∀c:Nat,c<i->va p L' (-(c:Int))≠0,⟨L.1,0,L,rfl,rfl,hLn,lk.prod,lk.mp,lk.nr⟩,?_⟩
  rintro k ρ ⟨o,L',rfl,rfl,hL',e,mp',nr⟩;walk_at "u";refine⟨L'.1+1,8,8,L'.2,-(i:Int),rfl,⟨b31 pp mp',by have:(2:Nat)^8=256:=rfl;lia,ad,ac,ad⟩,?_⟩
  walk_at "u"
  refine⟨ad,?_⟩
  rw[dY _ ad]
  by_cases c:va p L' (-(i:Int))=0
  ·rw[a7<|show ps L'.2 (-(i:Int)) (L'.1+1)%p=0 from c]
   refine⟨ac,L'.1+1,2,1,L'.2,(fP (i:Int)).2,p,rfl,ad,ac,pp,λj hj=>mlin.hi j hj,ac,λj hj=>by show(fP (i:Int)).2 j%p=0;rw[mlin.hi j hj,cB],by show(1:Int)%p≠0;rw[cW ac ad];decide,λt ht t0 t1=> ?_⟩
   obtain⟨l1,u,mu,eu,er⟩:=cR7 pp mp' (c:=(i:Int)) ad ad c ht t0 t1
   dsimp only at er⊢;rw[er,a30];dsimp only;have eL:rwF L'.1 u=rwF (L'.1-1+1) u:=by rw[show L'.1-1+1=L'.1 by lia]
   rw[eL];refine⟨L'.1-1,ad,o+1,(L'.1-1,u),by rw[Int.natCast_succ],rfl,by show L'.1-1<=n;lia,?_,mu,λc' hc'=> ?_⟩
   ·show(n,f)=tm p (tm p (powT p (allT p bQ<|cs.map lnP) (fP (i:Int)) o)<|fP (i:Int)) (L'.1-1,u)
    rw[e]
    conv=>lhs;rw[eu]
    rw[yV (a:=(L'.1-1,u)) (λj hj=>mu.hi j hj) mlin.hi,a35 mlin.hi]
   ·have:=nr c' hc';rw[eu]at this;exact(cR8 mlin.hi this).1
  ·rw[a6<|show ¬ps L'.2 (-(i:Int)) (L'.1+1)%p=0 from c]
   have nr': ∀c:Nat,c<i+1->va p L' (-(c:Int))≠0:=λc' hc'=>by
    by_cases h1:c'<i
    ·exact nr c' h1
    ·rw[show c'=i by lia];exact c
   by_cases c2:(0:Int)< (o:Int)
   ·rw[a7 c2];refine⟨ac,ac,?_,cs++[((i:Int),o)],L',_,_,by rw[cN];rfl,?_,mp',?_,?_,nr',?_⟩
    ·rw[aH];exact kN lk.len (b9 hi<|aT (show p.toNat<=200 by lia) ac)
    ·rw[cN,gZ];exact e
    ·rw[xF];refine⟨lk.asc,xA _ _,λa ha b hb=> ?_⟩
     rw[iR.mp hb];exact(lk.mem a ha).2.1
    ·intro z hz;rcases bS.mp hz with hz|hz
     ·have:=lk.mem z hz;exact⟨this.1,ad,this.2.2⟩
     ·rw[iR.mp hz];exact⟨by show(0:Int)<=(i:Int);lia,by show(i:Int)< ((i+1:Nat):Int);lia,by show 1<=o;lia⟩
    ·rw[cU];exact Nat.succ_le_succ lk.len
   ·rw[a6 c2];have o0:o=0:=ad
    subst o0;exact⟨cs,L',_,_,rfl,e,mp',lk.asc,λz hz=>⟨(lk.mem z hz).1,by have:=(lk.mem z hz).2.1;lia,(lk.mem z hz).2.2⟩,nr',xK lk.len⟩
 ·rintro ρ ⟨cs,L,x,y,rfl,lk⟩;dsimp only;unfold a00;walk_at "u";exact⟨ac,h cs L lk⟩
noncomputable def quF (v u:Int):Nat×(Nat->Int):=(2,λj=>if j=0 then v else if j=1 then u else if j=2 then 1 else 0)
theorem MP.qu {p v u:Int}(hp:2<=p)(v0:0<=v)(v1:v<p)(u0:0<=u)(u1:u<p):MP p (quF v u).1 (quF v u).2:=⟨rfl,λj hj=>by
  have:2<j:=hj;show(if j=0 then v else if j=1 then u else if j=2 then 1 else 0)=0;rw[a6 ad,a6 ad,a6 ad],λj=>by
  show 0<=(if j=0 then v else if j=1 then u else if j=2 then 1 else 0)/\(if j=0 then v else if j=1 then u else if j=2 then 1 else 0)<p
  split
  ·lia
  ·split
   ·lia
   ·split<;>lia⟩
theorem aX6 (v u w s:Int):conv (quF v u).2 (quF w s).2 3 0=v*w/\conv (quF v u).2 (quF w s).2 3 1=v*s+u*w/\conv (quF v u).2 (quF w s).2 3 2=v+u*s+w/\conv (quF v u).2 (quF w s).2 3 3=u+s:=by
 refine⟨?_,?_,?_,?_⟩<;>simp[conv,shF,quF]
theorem cR9 {p:Int}{f:Nat->Int}(mp:MP p 4 f){v u w s:Int}(m1:MP p (quF v u).1 (quF v u).2)(m2:MP p (quF w s).1 (quF w s).2)(hp:2<=p) :
  ((4,f):Nat×(Nat->Int))=tm p (quF v u) (quF w s)↔f 0=v*w%p/\f 1=(v*s+u*w)%p/\f 2=(v+u*s+w)%p/\f 3=(u+s)%p:=by
 obtain⟨e0,e1,e2,e3⟩:=aX6 v u w s;have mt:=MP.tm hp m1 m2;constructor
 ·intro e;have h: ∀m,f m=conv (quF v u).2 (quF w s).2 3 m%p:=λm=>congrFun (bP Prod.snd e) m
  exact⟨by rw[h 0,e0],by rw[h 1,e1],by rw[h 2,e2],by rw[h 3,e3]⟩
 ·rintro⟨h0,h1,h2,h3⟩;refine fX rfl (funext λm=> ?_)
  show f m=conv (quF v u).2 (quF w s).2 3 m%p
  match m with
  | 0=>rw[h0,e0]
  | 1=>rw[h1,e1]
  | 2=>rw[h2,e2]
  | 3=>rw[h3,e3]
  | 4=>exact mp.top.trans mt.top.symm
  | m+5=>exact(mp.hi _ ad).trans (mt.hi (m+5)<|show 2+2<m+5 by lia).symm
def NoQ (p:Int)(F:Nat×(Nat->Int)):Prop:= ∀v u w s:Int,0<=v->v<p->0<=u->u<p->0<=w->w<p->0<=s->s<p->F≠tm p (quF v u) (quF w s)
def rA:Φ:=λds Q=> ∃(f:Nat->Int) (p:Int),ds=[aX<|rwF 5 f,.int p]/\Pr p/\MP p 4 f/\
 (∀v u w s:Int,0<=v->v<p->0<=u->u<p->0<=w->w<p->0<=s->s<p->((4,f):Nat×(Nat->Int))=tm p (quF v u) (quF w s)->Q (.ow [aX [v,u,1],aX [w,s,1]]))/\(NoQ p (4,f)->Q (.ow []))
def wO:US:=(dE<|lD aK)
def rB:US:=(aV (kI (kG<|a9 (aC 1) aK) (cR 2)<|aV (cE 3<|uOp oE (uOp M.gSub (uIx (aO 0)<|uC<|.int 3)<|aC 2)<|aC 1)<|aV (cE 4<|uOp M.gSub (uIx (aO 0)<|uC<|.int 2)<|uOp j9 (aC 2)<|aC 3)<|kI (kG<|a9 (aC 1) aK) (cR 5)<|aV (cE 6<|uOp oE (uOp M.gSub (aC 4)<|aC 5)<|aC 1)<|gH (b78 (cQ<|uOp (j2 false) (uOp oE (uOp j9 (aC 5)<|aC 6)<|aC 1)<|uIx (aO 0)<|uC<|.int 0)<|cQ<|uOp (j2 false) (uOp oE (uOp jU (uOp j9 (aC 2)<|aC 6)<|uOp j9 (aC 5)<|aC 3)<|aC 1)<|uIx (aO 0)<|uC<|.int 1) (dE<|lD<|a9 (gF<|a9 (aC 5)<|a9 (aC 2)<|a9 (uC<|.int 1) aK)<|a9 (gF<|a9 (aC 6)<|a9 (aC 3)<|a9 (uC<|.int 1) aK) aK) dZ) wO)
def cE9 (p:Int)(f:Nat->Int)(u v:Int):Prop:=v*((f 2-u*((f 3-u)%p)-v)%p)%p=f 0/\(u*((f 2-u*((f 3-u)%p)-v)%p)+v*((f 3-u)%p))%p=f 1
theorem bS1 {p a b x:Int}(h0:0<=a)(h1:a<p)(h:x=(a+b)%p):(x-b)%p=a:=by
 rw[h,t7,iW,<-t7,Int.add_sub_cancel];exact cW h0 h1
theorem aU9: ∀ds Q,rA ds Q->rB {nx:=λ_=>Q (.pu .non),rt:=Q} (init ["f","p","u","s","t","v","w"] ds):=by
 rintro ds Q ⟨f,p,rfl,pp,mp,yes,no⟩;have p2:=pp.lo;have p3:=pp.hi;have a0:atI ((rwF 5 f).map D.int) 0=some (.int<|f 0):=qX (i:=0) ac
 have a1:atI ((rwF 5 f).map D.int) 1=some (.int<|f 1):=qX (i:=1) ac
 have a2:atI ((rwF 5 f).map D.int) 2=some (.int<|f 2):=qX (i:=2) ac
 have a3:atI ((rwF 5 f).map D.int) 3=some (.int<|f 3):=qX (i:=3) ac
 unfold rB;simp only[aX];show(aV _ _:US) _ [some<|.pu<|.tup<|(rwF 5 f).map .int,some<|.pu<|.int p,none,none,none,none,none];rw[aU];refine bV p.toNat (λi=> .int (0+i)) [some<|.pu<|.tup<|(rwF 5 f).map .int,some<|.pu<|.int p,none,none,none,none,none] ?_
  (λi ρ=> ∃x y z a b,ρ=[some<|.pu<|.tup<|(rwF 5 f).map .int,some<|.pu<|.int p,x,y,z,a,b]/\ ∀u v:Nat,u<i->v<p.toNat-> ¬cE9 p f (u:Int) (v:Int))
  ⟨none,none,none,none,none,rfl,λu v hu=>ad⟩ ?_ ?_
 ·intro Q' q;walk_at "u";refine⟨⟨ad,ad⟩,?_⟩
  exact q
 ·rintro i ρ hi ⟨x,y,z,a,b,rfl,nh⟩;rw[d5];walk_at "u";rw[a3];dsimp only;refine⟨ae,ad,?_⟩
  rw[dY _ ad,a2]
  dsimp only;have s0:=cM (f 3-(i:Int)) (show p≠0 by lia)
  have s1:=cV (f 3-(i:Int)) (show 0<p by lia)
  generalize hS:(f 3-(i:Int))%p=S at *;refine⟨cmL ad ad,?_⟩
  refine bV p.toNat (λi=> .int (0+i)) [some<|.pu<|.tup<|(rwF 5 f).map .int,some<|.pu<|.int p,some<|.pu<|.int (i:Int),some<|.pu<|.int S,some<|.pu<|.int<|f 2-(i:Int)*S,a,b] ?_
   (λj ρ=> ∃a b,ρ=[some<|.pu<|.tup<|(rwF 5 f).map .int,some<|.pu<|.int p,some<|.pu<|.int (i:Int),some<|.pu<|.int S,some<|.pu<|.int<|f 2-(i:Int)*S,a,b]/\ ∀v:Nat,v<j-> ¬cE9 p f (i:Int) (v:Int))
   ⟨a,b,rfl,λv hv=>ad⟩ ?_ ?_
  ·intro Q' q;walk_at "u";refine⟨⟨ad,ad⟩,?_⟩
   exact q
  ·rintro j ρ hj ⟨a,b,rfl,nj⟩;rw[d5];walk_at "u";refine⟨ae,ad,?_⟩
   rw[dY _ ad]
   have w0:=cM (f 2-(i:Int)*S-(j:Int)) (show p≠0 by lia)
   have w1:=cV (f 2-(i:Int)*S-(j:Int)) (show 0<p by lia)
   generalize hW:(f 2-(i:Int)*S-(j:Int))%p=W at *;refine⟨cmL ad ad,ad,?_⟩
   rw[dY _ ad,a0]
   dsimp only
   have step: ¬cE9 p f (i:Int) (j:Int)-> ∃a b,[some<|B.pu<|.tup<|(rwF 5 f).map .int,some<|.pu<|.int p,some<|.pu<|.int (i:Int),some<|.pu<|.int S,some<|.pu<|.int<|f 2-(i:Int)*S,some<|.pu<|.int (j:Int),some<|.pu<|.int W]=[some<|.pu<|.tup<|(rwF 5 f).map .int,some<|.pu<|.int p,some<|.pu<|.int (i:Int),some<|.pu<|.int S,some<|.pu<|.int<|f 2-(i:Int)*S,a,b]/\ ∀v:Nat,v<j+1-> ¬cE9 p f (i:Int) (v:Int):=λnh'=>⟨_,_,rfl,λv hv=>by
    by_cases h1:v<j
    ·exact nj v h1
    ·rw[show v=j by lia];exact nh'⟩
   by_cases c1:(j:Int)*W%p=f 0
   ·rw[a7 c1];refine⟨cmL ad ad,cmL ad ad,ad,?_⟩
    rw[dY _ ad,a1]
    dsimp only
    by_cases c2:((i:Int)*W+(j:Int)*S)%p=f 1
    ·rw[a7 c2];refine⟨ac,ac,ac,yes (j:Int) (i:Int) W S ad ad ad ad w0 w1 s0 s1<|(cR9 mp (MP.qu p2 ad ad ad ad) (MP.qu p2 w0 w1 s0 s1) p2).mpr ⟨c1.symm,by rw[<-c2,y8],?_,?_⟩⟩
     ·rw[<-hW,fU,iW,<-fU];have:(j:Int)+(i:Int)*S+(f 2-(i:Int)*S-(j:Int))=f 2:=ad
      rw[this];exact(cW (mp.rng 2).1 (mp.rng 2).2).symm
     ·rw[<-hS,fU,iW,<-fU];have:(i:Int)+(f 3-(i:Int))=f 3:=ad
      rw[this];exact(cW (mp.rng 3).1 (mp.rng 3).2).symm
    ·rw[a6 c2];exact step λz=>c2 (by have:=z.2;unfold cE9 at z;rw[hS,hW]at this;exact this)
   ·rw[a6 c1];exact step λz=>c1 (by have:=z.1;rw[hS,hW]at this;exact this)
  ·rintro ρ ⟨a,b,rfl,nj⟩;refine⟨_,_,_,_,_,rfl,λu v hu hv=> ?_⟩
   by_cases h1:u<i
   ·exact nh u v h1 hv
   ·rw[show u=i by lia];exact nj v hv
 ·rintro ρ ⟨x,y,z,a,b,rfl,nh⟩;dsimp only;unfold wO;walk_at "u";refine⟨ac,no ?_⟩
  intro v u w s v0 v1 u0 u1 w0 w1 s0 s1 e;obtain⟨h0,h1,h2,h3⟩:=(cR9 mp (MP.qu p2 v0 v1 u0 u1) (MP.qu p2 w0 w1 s0 s1) p2).mp e;obtain⟨v',rfl⟩: ∃v':Nat,v=(v':Int):=⟨v.toNat,ad⟩
  obtain⟨u',rfl⟩: ∃u':Nat,u=(u':Int):=⟨u.toNat,ad⟩
  refine nh u' v' ad ad ?_
  have es:(f 3-(u':Int))%p=s:=bS1 s0 s1 (by rw[h3,y8])
  have ew:(f 2-(u':Int)*s-(v':Int))%p=w:=by
   have:=bS1 (x:=f 2) (b:=(v':Int)+(u':Int)*s) w0 w1 (by rw[h2,y8 w])
   rw[<-this]
   congr 1
   lia
  unfold cE9;rw[es,ew];exact⟨h0.symm,by rw[h1,y8]⟩
theorem at0 {a b:D}:atI [a,b] 0=some a:=cD (j:=0) rfl
theorem at1 {a b:D}:atI [a,b] 1=some b:=cD (j:=1) rfl
def NoR (p:Int)(F:Nat×(Nat->Int)):Prop:= ∀c:Nat,c<p.toNat->va p F (-(c:Int))≠0
def ltP (x y:(Nat×(Nat->Int))×Nat):Prop:=x.1.1<y.1.1\/(x.1.1=y.1.1/\ltL (rwF (x.1.1+1) x.1.2) (rwF (y.1.1+1) y.1.2)=true)
structure RL (p:Int)(F:Nat×(Nat->Int))(rs:List ((Nat×(Nat->Int))×Nat)):Prop where
 prod: ∀a:Nat×(Nat->Int),MP p a.1 a.2->allT p a rs=tm p a F
 mem: ∀x∈rs,MP p x.1.1 x.1.2/\2<=x.1.1/\x.1.1<=4/\1<=x.2/\x.2<=2/\NoR p x.1/\(x.1.1=4->NoQ p x.1)
 ord:rs.Pairwise ltP
 len:rs.length<=2
theorem bI8 {p:Int}(hp:2<=p){a:Nat×(Nat->Int)}(ha:MP p a.1 a.2):tm p a bQ=a:=by
 rw[yV ha.hi (MP.one hp).hi,a36 ha]
theorem RL.single {p:Int}{F:Nat×(Nat->Int)}(mp:MP p F.1 F.2)(h2:2<=F.1)(h4:F.1<=4)(nr:NoR p F)(nq:F.1=4->NoQ p F):RL p F [(F,1)]:=
 ⟨λa _=>rfl,λx hx=>by rw[iR.mp hx];exact⟨mp,h2,h4,aB _,show 1<=2 by decide,nr,nq⟩,xA _ _,show 1<=2 by decide⟩
theorem row_lt {v u w s:Int}(h: ¬(v=w/\u=s)):ltL [w,s,1] [v,u,1]=false->ltL [v,u,1] [w,s,1]=true:=by
 unfold ltL
 by_cases c:v=w
 ·rw[a7 c,a7 c.symm];unfold ltL;have:u≠s:=λz=>h ⟨c,z⟩
  rw[a6 this,a6 λz=>this z.symm]
  simp only[aD0,fS]
  lia
 ·rw[a6 c,a6 λz=>c z.symm]
  simp only[aD0,fS]
  lia
def lP:Φ:=λds Q=> ∃(n:Nat) (f:Nat->Int) (p:Int),ds=[aX<|rwF (n+1) f,.int p]/\n<=4/\Pr p/\MP p n f/\NoR p (n,f)/\ ∀rs,RL p (n,f) rs->Q (.ow<|rs.map a37)
def qM:US:=(dE<|gC [] [none,none] 1 (iL<|aP c13<|a9 (aC 2) aK) (cR 0) (λρ Q=>Q true ρ)<|gF<|a9 (aC 0)<|a9 (uC<|.int 1) aK)
def qN:US:=(aV (gH (cQ<|uOp (cM9 false) (uIx (aO 2)<|uC<|.int 0)<|uIx (aO 2)<|uC<|.int 1) (dE<|lD<|a9 (gF<|a9 (uIx (aO 2)<|uC<|.int 0)<|a9 (uC<|.int 2) aK) aK) dZ) qM)
def iO:US:=(aV (gH (cQ<|uOp (j2 false) (gN<|aO 2)<|uC<|.int 0) (dE<|lD<|a9 (gF<|a9 (aC 0)<|a9 (uC<|.int 1) aK) aK) dZ) qN)
def qO:US:=(aV (cE 2<|uIf (cQ<|uOp (j2 false) (gN<|aO 0)<|uC<|.int 5) (aP rA<|a9 (aC 0)<|a9 (aC 1) aK)<|lD aK) iO)
def lQ:US:=(aV (gH (cQ<|uOp (j2 false) (gN<|aO 0)<|uC<|.int 1) (dE<|lD aK) dZ) qO)
theorem cS0 {p:Int}(pp:Pr p){F:Nat×(Nat->Int)}(mp:MP p F.1 F.2)(h1:F.1=1)(nr:NoR p F):False:=by
 have p2:=pp.lo;have r:=mp.rng 0;refine nr (F.2 0).toNat ad ?_
 unfold va;rw[h1,show(((F.2 0).toNat:Nat):Int)=F.2 0 by lia]
 have t:F.2 1=1:=by have:=mp.top;rw[h1]at this;exact this
 show(0+F.2 0*(-F.2 0)^0+F.2 1*(-F.2 0)^1)%p=0
 rw[t,fV,kU,fV];have:0+F.2 0*1+1*(1* -F.2 0)=0:=ad
 rw[this,cB]
theorem a98: ∀ds Q,lP ds Q->lQ {nx:=λ_=>Q (.pu .non),rt:=Q} (init ["f","p","a"] ds):=by
 rintro ds Q ⟨n,f,p,rfl,n4,pp,mp,nr,h⟩;have p2:=pp.lo;unfold lQ;simp only[aX];show(aV _ _:US) _ [some<|.pu<|.tup<|(rwF (n+1) f).map .int,some<|.pu<|.int p,none];rw[aU];walk_at "u";rw[bH]
 by_cases n0:n=0
 ·rw[a7 ad]
  subst n0;refine⟨ac,h [] ⟨λa ha=> ?_,ae,.nil,ac⟩⟩
  have e:((0,f):Nat×(Nat->Int))=bQ:=fX rfl (funext λj=>by
   show f j=if j=0 then 1 else 0
   by_cases c:j=0
   ·rw[a7 c,c];exact mp.top
   ·rw[a6 c];exact mp.hi j ad)
  rw[e,bI8 p2 ha];rfl
 rw[a6 ad]
 have n1:n≠1:=λz=>cS0 pp (F:=(n,f)) mp z nr
 have alone:(n=4->NoQ p (n,f))->iO {nx:=λ_=>Q (.pu .non),rt:=Q} [some<|.pu<|.tup<|(rwF (n+1) f).map .int,some<|.pu<|.int p,some<|.ow []]:=λnq=>by
  unfold iO;rw[aU];walk_at "u";rw[a7<|by rfl]
  exact⟨ac,ac,h [((n,f),1)]<|RL.single mp (by show 2<=n;lia) n4 nr nq⟩
 unfold qO;rw[aU];walk_at "u";simp only[uIf,gN,aO,aZ3,uC,isB,B.d,mC,j2,oM,bH]
 by_cases c:n=4
 ·subst c;rw[a7<|by rfl]
  refine⟨f,p,rfl,pp,mp,λv u w s v0 v1 u0 u1 w0 w1 s0 s1 e=> ?_,λnq=> ?_⟩
  ·have m1:=MP.qu p2 v0 v1 u0 u1;have m2:=MP.qu p2 w0 w1 s0 s1;have k1:NoR p (quF v u):=λc hc=>by have:=nr c hc;rw[e]at this;exact(cR8 m2.hi this).1
   have k2:NoR p (quF w s):=λc hc=>by have:=nr c hc;rw[e]at this;exact(cR8 m2.hi this).2
   dsimp only;simp only[aX];unfold iO;rw[aU];walk_at "u";rw[a6 ac]
   unfold qN;rw[aU];walk_at "u";rw[at0,at1];dsimp only;refine bR3 ?_
   by_cases c:[v,u,(1:Int)]=[w,s,1]
   ·have c1:v=w:=by simp at c;exact c.1
    have c2:u=s:=by simp at c;exact c.2
    subst c1 c2;rw[dP rfl];dsimp only;rw[a7 ac]
    refine⟨ac,ac,h [(quF v u,2)] ⟨λa ha=> ?_,λx hx=> ?_,xA _ _,show 1<=2 by decide⟩⟩
    ·show tm p (tm p a<|quF v u) (quF v u)=tm p a (4,f)
     rw[e,a35 m1.hi]
    ·rw[iR.mp hx];exact⟨m1,aB _,show 2<=4 by decide,show 1<=2 by decide,aB _,k1,λz=>by cases z⟩
   ·rw[cL c];dsimp only;rw[a6 ac]
    have nc: ¬(v=w/\u=s):=λz=>c (by rw[z.1,z.2])
    unfold qM;rw[mJ];have fin2: ∀(v u w s:Int),MP p (quF v u).1 (quF v u).2->MP p (quF w s).1 (quF w s).2->NoR p (quF v u)->NoR p (quF w s)->((4,f):Nat×(Nat->Int))=tm p (quF v u) (quF w s)->ltL [v,u,1] [w,s,1]=true->Q (.ow [.tup [.tup<|[v,u,1].map D.int,.int 1],.tup [.tup<|[w,s,1].map D.int,.int 1]]):=λv u w s m1 m2 k1 k2 e lt=>by
     refine h [(quF v u,1),(quF w s,1)] ⟨λa ha=> ?_,λx hx=> ?_,?_,aB _⟩
     ·show tm p (tm p a<|quF v u) (quF w s)=tm p a (4,f)
      rw[e,a35 m1.hi]
     ·rcases aS.mp hx with rfl|hx
      ·exact⟨m1,aB _,show 2<=4 by decide,aB _,show 1<=2 by decide,k1,λz=>by cases z⟩
      ·rw[iR.mp hx];exact⟨m2,aB _,show 2<=4 by decide,aB _,show 1<=2 by decide,k2,λz=>by cases z⟩
     ·refine iS.mpr ⟨λy hy=> ?_,xA _ _⟩
      rw[iR.mp hy];exact .inr ⟨rfl,lt⟩
    refine fG (t0:=0) 2 (λk=>(if ltL [w,s,1] [v,u,1]=true then [D.tup<|[w,s,1].map D.int,.tup<|[v,u,1].map D.int]else [.tup<|[v,u,1].map D.int,.tup<|[w,s,1].map D.int]).getD k .non) [some<|.pu<|.tup<|(rwF (4+1) f).map .int,some<|.pu<|.int p,some<|.pu<|.lst [.tup<|[v,u,1].map D.int,.tup<|[w,s,1].map D.int]] ?_ ac (λx l'=>[x,some<|.ow l']) none rfl (λ_ _ _=>rfl) (λ_ _=>cY _) (λ_ _ _ q=>q) (λ_ _ _=>rfl)
     (λk=> .tup [(if ltL [w,s,1] [v,u,1]=true then [D.tup<|[w,s,1].map D.int,.tup<|[v,u,1].map D.int]else [.tup<|[v,u,1].map D.int,.tup<|[w,s,1].map D.int]).getD k .non,.int 1]) ?_ ?_
    ·intro Q' q;walk_at "u";refine⟨v,w,[u,1],[s,1],rfl,?_⟩;cases l:ltL [w,s,1] [v,u,1]
     ·rw[l]at q;exact q
     ·rw[l]at q;exact q
    ·intro k l' Q' hk q;walk_at "u";exact⟨ac,q⟩
    ·cases l:ltL [w,s,1] [v,u,1]
     ·exact fin2 v u w s m1 m2 k1 k2 e (row_lt nc l)
     ·exact fin2 w s v u m2 m1 k2 k1 (by rw[e,yV m1.hi m2.hi]) l
  ·exact alone λ_=>nq
 ·rw[a6 (by simp;lia)]
  refine⟨ac,?_⟩
  exact alone λz=>absurd z c
structure SP (p:Int)(F:Nat×(Nat->Int))(xs:List ((Nat×(Nat->Int))×Nat)):Prop where
 prod:allT p bQ xs=F
 mem: ∀x∈xs,MP p x.1.1 x.1.2/\1<=x.1.1/\x.1.1<=4/\1<=x.2/\x.2<=4/\(2<=x.1.1->NoR p x.1)/\(x.1.1=4->NoQ p x.1)
 ord:xs.Pairwise ltP
 len:xs.length<=300
theorem SP.of {p:Int}(pp:Pr p){F L:Nat×(Nat->Int)}{cs:List (Int×Nat)}{rs:List ((Nat×(Nat->Int))×Nat)}(h4:F.1<=4)(lk:LK p F p.toNat cs L)(rl:RL p L rs):SP p F (cs.map lnP++rs):=by
 have p2:=pp.lo;have p3:=pp.hi;have rg: ∀x∈cs,0<=x.1/\x.1<p:=λx hx=>⟨(lk.mem x hx).1,by have:=(lk.mem x hx).2.1;lia⟩
 have mcs:=c88 p2 rg;have mA:=MP.allT p2 (cs.map lnP) (MP.one p2) mcs;refine⟨by rw[gZ,rl.prod _ mA];exact lk.prod.symm,λx hx=> ?_,?_,?_⟩
 ·rcases bS.mp hx with hx|hx
  ·obtain⟨y,hy,rfl⟩:=fT.mp hx;have hd:=aL5 p (cs.map lnP) bQ (lnP y) hx;have e:F.1=(allT p bQ<|cs.map lnP).1+L.1:=bP Prod.fst lk.prod;have hd':0+1*y.2<=(allT p bQ<|cs.map lnP).1:=hd;refine⟨mcs _ hx,aB _,show 1<=4 by decide,(lk.mem y hy).2.2,show y.2<=4 by lia,λz=> ?_,λz=> ?_⟩
   ·have:2<=1:=z
    lia
   ·have:1=4:=z
    lia
  ·obtain⟨a,b,c,d,e,f,g⟩:=rl.mem x hx;exact⟨a,ad,c,d,ad,λ_=>f,g⟩
 ·rw[xF];refine⟨?_,rl.ord,λx hx y hy=> ?_⟩
  ·rw[List.pairwise_map];refine lk.asc.imp λ{a b} h=> .inr ⟨rfl,?_⟩
   show ltL [a.1,1] [b.1,1]=true
   unfold ltL;rw[a6 ad,dP h]
  ·obtain⟨z,hz,rfl⟩:=fT.mp hx;have:=(rl.mem y hy).2.1;exact .inl (show 1<y.1.1 by lia)
 ·have a:=lk.len;have b:=rl.len;rw[cU,aH]
  lia
def vC:Φ:=λds Q=> ∃(n:Nat) (g:Nat->Int) (p:Int),ds=[aX<|rwF (n+1) g,.int p]/\n<=4/\p∈prL/\MP p n (md p g)/\ ∀xs,SP p (n,md p g) xs->Q (.ow<|xs.map a37)
def a38:US:=(dE<|uOp jU (aC 2)<|aP lP<|a9 (aC 3)<|a9 (aC 1) aK)
def a39:US:=(aV (cC9 (aP tV<|a9 (aP iZ<|a9 (aC 0)<|a9 (aC 1) aK)<|a9 (aC 1) aK)<|rL<|fB 2<|fB 3 rK) a38)
def vD:US:=(aV (gH (cQ<|uOp (gIn true) (aC 1)<|aP kH aK) (λ_ _=>False) dZ) a39)
theorem b86: ∀ds Q,vC ds Q->vD {nx:=λ_=>Q (.pu .non),rt:=Q} (init ["f","p","a","l"] ds):=by
 rintro ds Q ⟨n,g,p,rfl,n4,hp,mp,h⟩;have pp:=yT hp;have p2:=pp.lo;unfold vD;show(aV _ _:US) _ [some<|.pu<|aX<|rwF (n+1) g,some<|.pu<|.int p,none,none];rw[aU];walk_at "u";refine⟨rfl,p,T_SMALL_PRIMES,rfl,.inr<|.inl rfl,?_⟩;rw[dP (show p∈T_SMALL_PRIMES by rw[<-bI5];exact hp)]
 dsimp only;rw[a6 ac]
 unfold a39;rw[aU];walk_at "u";refine⟨n+1,g,p,rfl,ad,ad,?_⟩
 walk_at "u"
 have e:fK (md p g) (n+1)=n+1:=rT (aB _) (λm h1 h2=>ad) (.inr (by rw[jJ,mp.top];decide))
 rw[e];refine⟨n,md p g,p,rfl,ad,pp,mp,λcs L lk=> ?_⟩
 walk_at "u"
 refine⟨ac,ac,trivial,?_⟩
 unfold a38;rw[mJ,cQ8];walk_at "u";have hL:L.1<=4:=by
  have e:n=(allT p bQ<|cs.map lnP).1+L.1:=bP Prod.fst lk.prod
  lia
 refine⟨L.1,L.2,p,rfl,hL,pp,lk.mp,lk.nr,λrs rl=> ?_⟩
 have sp:=SP.of pp (F:=(n,md p g)) n4 lk rl;have e2:(cs.map λx=>a37 (lnP x))++rs.map a37=(cs.map lnP++rs).map a37:=by rw[cN,fA];rfl
 walk_at "u"
 rw[e2];refine⟨?_,h _ sp⟩;rw[<-cU,e2,aH];exact aT sp.len ac
noncomputable def stB (xs:List ((Nat×(Nat->Int))×Nat)):Bool:=match xs with
 | [x]=>decide (x.2=1)
 | _=>false
theorem bE4 {p:Int}(hp:2<=p){g a h:Nat×(Nat->Int)}(ma:MP p a.1 a.2)(mh:MP p h.1 h.2): ∀k,powT p (tm p g a) h k=tm p g (powT p a h k)
 | 0=>rfl
 | k+1=>by
  show tm p (powT p (tm p g a) h k) h=tm p g (tm p (powT p a h k) h)
  rw[bE4 hp ma mh k,a35 (MP.powT hp ma mh k).hi]
theorem wP {p:Int}(hp:2<=p){g:Nat×(Nat->Int)}: ∀(l:List ((Nat×(Nat->Int))×Nat)) {a:Nat×(Nat->Int)},MP p a.1 a.2->(∀x∈l,MP p x.1.1 x.1.2)->allT p (tm p g a) l=tm p g (allT p a l)
 | [],a,_,_=>rfl
 | x::l,a,ma,h=>by
  show allT p (powT p (tm p g a) x.1 x.2) l=tm p g (allT p (powT p a x.1 x.2) l)
  rw[bE4 hp ma<|h x<|.head _,wP hp l (MP.powT hp ma (h x<|.head _) x.2) λy hy=>h y (.tail _ hy)]
theorem bI9 {p:Int}{F:Nat×(Nat->Int)}(mp:MP p F.1 F.2)(h2:F.1=2):F=quF (F.2 0) (F.2 1):=by
 refine fX h2 (funext λj=> ?_)
 show F.2 j=if j=0 then F.2 0 else if j=1 then F.2 1 else if j=2 then 1 else 0
 by_cases c0:j=0
 ·rw[a7 c0,c0]
 ·by_cases c1:j=1
  ·rw[a6 c0,a7 c1,c1]
  ·by_cases c2:j=2
   ·rw[a6 c0,a6 c1,a7 c2,c2];have:=mp.top;rw[h2]at this;exact this
   ·rw[a6 c0,a6 c1,a6 c2];exact mp.hi j ad
theorem d42 {p:Int}(f:Nat->Int){z y:Int}(h:z%p=y%p): ∀n,ps f z n%p=ps f y n%p:=by
 have pw: ∀n,z^n%p=y^n%p:=by
  intro n
  induction n with
  | zero=>rw[fV,fV]
  | succ n ih=>rw[kU,kU,dX,ih,h,<-dX]
 intro n
 induction n with
 | zero=>rfl
 | succ n ih=>
  show(ps f z n+f n*z^n)%p=(ps f y n+f n*y^n)%p
  rw[fU,ih,dX,pw,<-dX,<-fU]
theorem NoR.any {p:Int}(hp:2<=p){F:Nat×(Nat->Int)}(h:NoR p F)(z:Nat)(hz:z<p.toNat):ps F.2 (z:Int) (F.1+1)%p≠0:=by
 by_cases z0:z=0
 ·subst z0;exact h 0 hz
 ·intro q;refine h (p.toNat-z) ad ?_
  unfold va;rw[<-q];refine d42 F.2 ?_ _;have e: -(((p.toNat-z:Nat)):Int)=(z:Int)+p*(-1):=ad
  rw[e,Int.add_mul_emod_self_left]
theorem no_any {n:Nat}{b:Nat->Bool}(h: ∀k,k<n->b k=false):((List.range n).map b).any id=false:=by
 rw[aF3];intro x hx;obtain⟨k,hk,rfl⟩:=fT.mp hx;rw[dW]at hk;simp[h k hk]
theorem bS2 {js:List Nat}{cap:List (Option Nat)}{last t0 t1:Nat}{ui:UI}{te:UE}{ρ:Ev}{Q:B->Ev->Prop}(n:Nat)(it i1 i2:Nat->D)(hit: ∀i,i<n->it i= .tup [i1 i,i2 i])(ρ1:Ev)(hui: ∀Q:Nat->(Nat->D)->Ev->Prop,Q n it ρ1->ui ρ Q)(hn:n<=1000000)
  (G:Option B->Option B->List D->Ev) (x0 y0:Option B) (h0:tL (aG6 ρ1 js) cap last=G x0 y0 []) (h1: ∀x y l b c,((G x y l).set t0<|some b).set t1 (some c)=G (some b) (some c) l) (h1': ∀x y l,t0< (G x y l).length/\t1< (G x y l).length)
  (h2: ∀x y l (Q:List D->Prop),Q l->qK (G x y l) last Q) (h3: ∀x y l l',(G x y l).set last (some<|.ow l')=G x y l')
  (f:Nat->D) (hte: ∀i l (Q':B->Ev->Prop),i<n->Q' (.pu<|f i) (G (some<|.pu<|i1 i) (some<|.pu<|i2 i) l)->te (G (some<|.pu<|i1 i) (some<|.pu<|i2 i) l) Q') (hq:Q (.ow<|(List.range n).map f) (aG6 ρ1 js)) :
  gC js cap last ui (rL<|fB t0<|fB t1 rK) (λρ Q=>Q true ρ) te ρ Q:=by
 refine hui _ ⟨λi ρ'=> ∃x y,ρ'=G x y ((List.range i).map f),⟨x0,y0,h0⟩,?_,?_⟩
 ·rintro i ρ' hi ⟨x,y,rfl⟩;rw[hit i hi];refine⟨(h1' _ _ _).1,by rw[dU];exact(h1' _ _ _).2,rfl,?_⟩
  rw[h1];dsimp only;rw[a7 rfl];refine hte i _ _ hi (h2 _ _ _ _ ⟨?_,some<|.pu<|i1 i,some<|.pu<|i2 i,?_⟩)
  ·rw[aH,sP];exact b9 hi (aT hn ac)
  ·rw[h3,jN,cN];rfl
 ·rintro ρ' ⟨x,y,rfl⟩;exact h2 _ _ _ _ hq
inductive b33 (c:Nat->Bool) (R:Nat->D->Prop):Nat->List D->Prop
 | nil:b33 c R 0 []
 | yes {i:Nat} {l:List D} {d:D} (h:b33 c R i l) (hc:c i=true) (hd:R i d):b33 c R (i+1) (l++[d])
 | no {i:Nat} {l:List D} (h:b33 c R i l) (hc:c i=false):b33 c R (i+1) l
theorem b33.fn {c:Nat->Bool}{R:Nat->D->Prop}{n:Nat}{l:List D}(h:b33 c R n l): ∃g:Nat->D,(∀i,i<n->c i=true->R i (g i))/\l=((List.range n).filter c).map g:=by
 induction h with
 | nil=>exact⟨λ_=> .non,λi hi=>absurd hi (Nat.not_lt_zero _),rfl⟩
 | @yes i l d h hc hd ih=>
  obtain⟨g,g1,g2⟩:=ih;refine⟨λj=>if j=i then d else g j,λj hj cj=> ?_,?_⟩
  ·by_cases e:j=i
   ·show R j (if j=i then d else g j)
    rw[a7 e,e];exact hd
   ·show R j (if j=i then d else g j)
    rw[a6 e];exact g1 j ad cj
  ·rw[jN,aF1,cN,g2]
   congr 1
   ·refine aE5 λj hj=> ?_
    have:=dW.mp (mU.mp hj).1;rw[a6 ad]
   ·simp[hc]
 | @no i l h hc ih=>
  obtain⟨g,g1,g2⟩:=ih;refine⟨g,λj hj cj=> ?_,?_⟩
  ·by_cases e:j=i
   ·rw[e,hc]at cj;cases cj
   ·exact g1 j ad cj
  ·rw[jN,aF1,cN,g2];simp[hc]
theorem b33.len {c:Nat->Bool}{R:Nat->D->Prop}{n:Nat}{l:List D}(h:b33 c R n l):l.length<=n:=by
 induction h with
 | nil=>exact aB _
 | yes h hc hd ih=>rw[cU];exact Nat.succ_le_succ ih
 | no h hc ih=>exact xK ih
theorem cF0 {js:List Nat}{cap:List (Option Nat)}{last t0:Nat}{ui:UI}{tt:UT}{te:UE}{ρ:Ev}{Q:B->Ev->Prop}(n:Nat)(it:Nat->D)(ρ1:Ev)(hui: ∀Q:Nat->(Nat->D)->Ev->Prop,Q n it ρ1->ui ρ Q)(hn:n<=1000)
  (G:Option B->List D->Ev) (x0:Option B) (h0:tL (aG6 ρ1 js) cap last=G x0 []) (h1: ∀x l b,(G x l).set t0 (some b)=G (some b) l) (h1': ∀x l,t0< (G x l).length) (h2: ∀x l (Q:List D->Prop),Q l->qK (G x l) last Q) (h3: ∀x l l',(G x l).set last (some<|.ow l')=G x l')
  (c:Nat->Bool) (R:Nat->D->Prop) (htt: ∀i l (Q':Bool->Ev->Prop),i<n->Q' (c i) (G (some<|.pu<|it i) l)->tt (G (some<|.pu<|it i) l) Q')
  (hte: ∀i l (Q':B->Ev->Prop),i<n->c i=true->(∀d,R i d->Q' (.pu d) (G (some<|.pu<|it i) l))->te (G (some<|.pu<|it i) l) Q') (hq: ∀l:List D,b33 c R n l->Q (.ow l) (aG6 ρ1 js)) :
  gC js cap last ui (cR t0) tt te ρ Q:=by
 refine hui _ ⟨λi ρ'=> ∃x l,b33 c R i l/\ρ'=G x l,⟨x0,[],.nil,h0⟩,?_,?_⟩
 ·rintro i ρ' hi ⟨x,l,hl,rfl⟩;refine⟨h1' _ _,?_⟩;rw[h1];dsimp only;refine htt i _ _ hi ?_
  by_cases hc:c i=true
  ·rw[a7 hc];refine hte i _ _ hi hc λd hd=>h2 _ _ _ ⟨?_,some<|.pu<|it i,l++[d],.yes hl hc hd,?_⟩
   ·exact kN hl.len (b9 hi<|aT hn ac)
   ·rw[h3];rfl
  ·rw[a6 hc];exact⟨some<|.pu<|it i,l,.no hl<|by simpa using hc,rfl⟩
 ·rintro ρ' ⟨x,l,hl,rfl⟩;exact h2 _ _ _ (hq l hl)
noncomputable def jC (n:Nat)(f:Nat->Int)(g:Nat×(Nat->Int)):List Int:=rwF (fK (divL g.2 g.1 (n+1-g.1) f)<|n+1) (divL g.2 g.1 (n+1-g.1) f)
noncomputable def ptD (n:Nat)(f:Nat->Int)(x:(Nat×(Nat->Int))×Nat):D:= .tup [aX<|rwF (x.1.1+1) x.1.2,.int (x.2:Int),aX<|jC n f x.1]
def vE:Φ:=λds Q=> ∃(n:Nat) (f:Nat->Int) (p:Int),ds=[aX<|rwF (n+1) f,.int p]/\n<=4/\p∈prL/\MP p n (md p f)/\(∀j,(f j).natAbs<=2^9)/\ ∀xs,SP p (n,md p f) xs->Q (.ow<|xs.map<|ptD n f)
def vF:US:=(dE<|gC [0] [none,none,some 0,none] 3 (iL<|aP vC<|a9 (aC 0)<|a9 (aC 1) aK) (rL<|fB 0<|fB 1 rK) (λρ Q=>Q true ρ)<|gF<|a9 (aC 0)<|a9 (aC 1)<|a9 (uIx (uV<|aP gA<|a9 (aC 2)<|a9 (aC 0) aK)<|uC<|.int 1) aK)
theorem bJ0 {p:Int}(pp:Pr p){n:Nat}{f:Nat->Int}(n4:n<=4)(fb: ∀j,(f j).natAbs<=2^9){g:Nat×(Nat->Int)}(mg:MP p g.1 g.2)(g4:g.1<=4):c27 (n+1) g.1 9 8 f g.2:=
 ⟨ad,ad,mg.top,mg.hi,λm _=>fb m,λj=>b31 pp mg j,ad,ac⟩
theorem b87: ∀ds Q,vE ds Q->vF {nx:=λ_=>Q (.pu .non),rt:=Q} (init ["f","p"] ds):=by
 rintro ds Q ⟨n,f,p,rfl,n4,hp,mp,fb,h⟩;have pp:=yT hp;unfold vF;show(dE _:US) _ [some<|.pu<|aX<|rwF (n+1) f,some<|.pu<|.int p];rw[mJ]
 have key: ∀xs,SP p (n,md p f) xs->gC [0] [none,none,some 0,none] 3 (λρ Q=>Q (xs.map a37).length (λi=>(xs.map a37).getD i .non) ρ) (rL<|fB 0<|fB 1 rK) (λρ Q=>Q true ρ) (gF<|a9 (aC 0)<|a9 (aC 1)<|a9 (uIx (uV<|aP gA<|a9 (aC 2)<|a9 (aC 0) aK)<|uC<|.int 1) aK) [some<|.pu<|aX<|rwF (n+1) f,some<|.pu<|.int p] λb _=>Q b:=by
  intro xs sp
  refine bS2 (t0:=0) (t1:=1) xs.length (λi=>(xs.map a37).getD i .non) (λi=>aX (rwF ((xs.getD i (bQ,0)).1.1+1) (xs.getD i (bQ,0)).1.2)) (λi=> .int ((xs.getD i (bQ,0)).2:Int)) (λi hi=> ?_) [some<|.pu<|aX<|rwF (n+1) f,some<|.pu<|.int p] (λQ' q=> ?_) (aT sp.len ac) (λx y l=>[x,y,some<|.pu<|aX<|rwF (n+1) f,some<|.ow l]) none none rfl (λ_ _ _ _ _=>rfl) (λ_ _ _=>⟨ae,ae⟩) (λ_ _ _ _ q=>q) (λ_ _ _ _=>rfl) (λi=>ptD n f (xs.getD i (bQ,0))) ?_ ?_
  ·rw[aI,bI,aI,aJ hi];rfl
  ·rw[aH];exact q
  ·intro i l Q' hi q;have hm:xs.getD i (bQ,0)∈xs:=by
    rw[aI,aJ hi];exact dO hi
   obtain⟨mx,x1,x4,_⟩:=sp.mem _ hm;generalize xs.getD i (bQ,0)=x at *;walk_at "u";refine⟨n+1,x.1.1,9,8,f,x.1.2,rfl,bJ0 pp n4 fb mx x4,?_⟩;walk_at "u";rw[at1];exact⟨ac,q⟩
  ·have e:(List.range xs.length).map (λi=>ptD n f (xs.getD i (bQ,0)))=xs.map (ptD n f):=by
    apply mT
    ·simp
    ·intro i h1 h2;simp at h1;simp[aI,h1]
   rw[e];exact h xs sp
 exact⟨n,f,p,rfl,n4,hp,mp,λxs sp=>key xs sp⟩
structure RF (n:Nat)(f:Nat->Int):Prop where
 n1:1<=n
 n4:n<=4
 top:f n=1
 hi: ∀j,n<j->f j=0
 fb: ∀j,(f j).natAbs<=2^9
theorem RF.mp {n:Nat}{f:Nat->Int}(h:RF n f){p:Int}(hp:2<=p):MP p n (md p f):=by
 refine⟨?_,λj hj=> ?_,λj=>⟨cM _ ad,cV _ ad⟩⟩
 ·show f n%p=1
  rw[h.top];exact cW ac ad
 ·show f j%p=0
  rw[h.hi j hj,cB]
noncomputable def d43 (n:Nat)(f:Nat->Int)(xf:Int->List ((Nat×(Nat->Int))×Nat))(p:Int):D:= .tup [.int p,.lst<|(xf p).map<|ptD n f]
noncomputable def sqB (size p:Int):Bool:=decide (size%(p*p)=0)
noncomputable def aL6 (n:Nat)(f:Nat->Int)(size:Int)(xf:Int->List ((Nat×(Nat->Int))×Nat)):List D:=(prL.filter<|sqB size).map (d43 n f xf)
def SPs (n:Nat)(f:Nat->Int)(size:Int)(xf:Int->List ((Nat×(Nat->Int))×Nat)):Prop:= ∀p∈prL,sqB size p=true->SP p (n,md p f) (xf p)
def nY:Φ:=λds Q=> ∃(n:Nat) (f:Nat->Int) (size:Int),ds=[aX<|rwF (n+1) f,.int size]/\RF n f/\ ∀xf,SPs n f size xf->Q (.ow<|aL6 n f size xf)
def tX:US:=(dE<|gC [0,1] [none,some 0,some 1,none] 3 (iL<|aP kH aK) (cR 0) (cQ<|uOp (j2 false) (uOp oE (aC 2)<|uOp j9 (aC 0)<|aC 0)<|uC<|.int 0)<|gF<|a9 (aC 0)<|a9 (aP vE<|a9 (aC 1)<|a9 (aC 0) aK) aK)
theorem b34: ∀ds Q,nY ds Q->tX {nx:=λ_=>Q (.pu .non),rt:=Q} (init ["f","s"] ds):=by
 rintro ds Q ⟨n,f,size,rfl,rf,h⟩;unfold tX;show(dE _:US) _ [some<|.pu<|aX<|rwF (n+1) f,some<|.pu<|.int size];rw[mJ];have et: ∀i,i<46->(T_SMALL_PRIMES.map D.int).getD i .non= .int (T_SMALL_PRIMES.getD i 0):=λi hi=>by
  have hi':i<T_SMALL_PRIMES.length:=by rw[b28];exact hi
  rw[aI,bI,aI,aJ hi'];rfl
 have mt: ∀i,i<46->T_SMALL_PRIMES.getD i 0∈prL:=λi hi=>by
  have hi':i<T_SMALL_PRIMES.length:=by rw[b28];exact hi
  rw[bI5,aI,aJ hi'];exact dO hi'
 refine cF0 (t0:=0) 46 (λi=>(T_SMALL_PRIMES.map D.int).getD i .non) [some<|.pu<|aX<|rwF (n+1) f,some<|.pu<|.int size] (λQ' q=> ?_) ac (λx l=>[x,some<|.pu<|aX<|rwF (n+1) f,some<|.pu<|.int size,some<|.ow l]) none rfl (λ_ _ _=>rfl) (λ_ _=>cY _) (λ_ _ _ q=>q) (λ_ _ _=>rfl)
  (λi=>sqB size (T_SMALL_PRIMES.getD i 0)) (λi d=> ∃xs,SP (T_SMALL_PRIMES.getD i 0) (n,md (T_SMALL_PRIMES.getD i 0) f) xs/\d= .tup [.int<|T_SMALL_PRIMES.getD i 0,.lst<|xs.map<|ptD n f]) ?_ ?_ (λl hl=> ?_)
 ·exact⟨rfl,q⟩
 ·intro i l Q' hi q;obtain⟨p2,p3⟩:=tp_ok _ (bI5▸mt i hi);rw[et i hi]at q⊢;unfold sqB at q;generalize T_SMALL_PRIMES.getD i 0=p at *;have pq:0<p*p:=yD ad ad
  walk_at "u"
  refine⟨cmL ad ad,ad,?_⟩
  rw[dY _ pq];exact q
 ·intro i l Q' hi hc q;have hm:=mt i hi;have pp:=yT hm;rw[et i hi]at q⊢;generalize T_SMALL_PRIMES.getD i 0=p at *;walk_at "u";refine⟨n,f,p,rfl,rf.n4,hm,rf.mp pp.lo,rf.fb,λxs sp=> ?_⟩
  walk_at "u"
  exact⟨ac,q _ ⟨xs,sp,rfl⟩⟩
 ·obtain⟨g,g1,g2⟩:=hl.fn;have ex: ∀p:Int,∃xs,∀i,i<46->T_SMALL_PRIMES.getD i 0=p->sqB size p=true->SP p (n,md p f) xs/\g i= .tup [.int p,.lst<|xs.map<|ptD n f]:=λp=>by
   by_cases c: ∃i,i<46/\T_SMALL_PRIMES.getD i 0=p/\sqB size p=true
   ·obtain⟨i,hi,e,hc⟩:=c;obtain⟨xs,sp,eg⟩:=g1 i hi (by rw[e];exact hc)
    rw[e]at sp eg;refine⟨xs,λj hj e' _=> ?_⟩
    have:j=i:=by
     have hj':j<T_SMALL_PRIMES.length:=by rw[b28];exact hj
     have hi':i<T_SMALL_PRIMES.length:=by rw[b28];exact hi
     rw[aI,aJ hj']at e';rw[aI,aJ hi']at e;have e1:T_SMALL_PRIMES[j]=T_SMALL_PRIMES[i]:=gK (by
      have a1:(some T_SMALL_PRIMES[j]).getD 0=p:=e';have a2:(some T_SMALL_PRIMES[i]).getD 0=p:=e;exact bP some (a1.trans a2.symm))
     rcases Nat.lt_trichotomy j i with z|z|z
     ·have:=aC0.mp cR2 j i hj' hi' z
      lia
     ·exact z
     ·have:=aC0.mp cR2 i j hi' hj' z
      lia
    rw[this];exact⟨sp,eg⟩
   ·exact⟨[],λi hi e hc=>absurd ⟨i,hi,e,hc⟩ c⟩
  obtain⟨X,hX⟩: ∃X:Int->List ((Nat×(Nat->Int))×Nat),∀p i,i<46->T_SMALL_PRIMES.getD i 0=p->sqB size p=true->SP p (n,md p f) (X p)/\g i= .tup [.int p,.lst<|(X p).map<|ptD n f]:=⟨λp=>(ex p).choose,λp=>(ex p).choose_spec⟩
  have key:=h X (λp hp hs=>by
   rw[bI5]at hp;obtain⟨i,hi,e⟩:=xH hp;have hi':i<46:=by rw[<-b28];exact hi
   refine(hX p i hi' ?_ hs).1
   rw[aI,aJ hi];exact e)
  have el:l=aL6 n f size X:=by
   have e0:prL=(List.range 46).map λi=>T_SMALL_PRIMES.getD i 0:=af
   have e1:prL.filter (sqB size)=((List.range 46).filter λi=>sqB size (T_SMALL_PRIMES.getD i 0)).map λi=>T_SMALL_PRIMES.getD i 0:=by
    rw[e0,List.filter_map];rfl
   rw[g2];unfold aL6;rw[e1,fA];refine aE5 λi hi=> ?_
   obtain⟨h1,h2⟩:=mU.mp hi;exact(hX (T_SMALL_PRIMES.getD i 0) i (dW.mp h1) rfl h2).2
  rw[el];exact key
theorem cF1 {p:Int}(hp:2<=p){F:Nat×(Nat->Int)}{xs:List ((Nat×(Nat->Int))×Nat)}(sp:SP p F xs){x:(Nat×(Nat->Int))×Nat}(hx:x∈xs)(h2:2<=x.2): ∃R:Nat×(Nat->Int),MP p R.1 R.2/\F=tm p (tm p x.1 x.1) R:=by
 obtain⟨l,m,rfl⟩:=aF2 hx;obtain⟨k,hk⟩: ∃k,x.2=k+2:=⟨x.2-2,aa⟩
 have mx:=(sp.mem x hx).1;have ml: ∀y∈l,MP p y.1.1 y.1.2:=λy hy=>(sp.mem y<|jG _ hy).1
 have mm: ∀y∈m,MP p y.1.1 y.1.2:=λy hy=>(sp.mem y<|dM _<|.tail _ hy).1
 have mA:=MP.allT hp l (MP.one hp) ml;have mP:=MP.powT hp mA mx k;have mxx:=MP.tm hp mx mx;refine⟨allT p (powT p (allT p bQ l) x.1 k) m,MP.allT hp m mP mm,?_⟩;rw[<-sp.prod,gZ];show allT p (powT p (allT p bQ l) x.1 x.2) m=_;rw[hk];show allT p (tm p (tm p (powT p (allT p bQ l) x.1 k) x.1) x.1) m=_;rw[<-a35 mx.hi,yV mP.hi mxx.hi,wP hp m mP mm]
structure d44 (n:Nat)(f:Nat->Int)(size p:Int)(g:Nat×(Nat->Int)):Prop where
 pr:p∈prL
 sq:size%(p*p)=0
 mg:MP p g.1 g.2
 g1:1<=g.1
 g4:g.1<=4
 tw: ∃R:Nat×(Nat->Int),MP p R.1 R.2/\(n,md p f)=tm p (tm p g g) R
 all: ∀c∈jC n f g,c%(p*p)=0
noncomputable def d45 (n:Nat)(f:Nat->Int)(g:Nat×(Nat->Int)):List Int:=rwF (fK (divQ g.2 g.1 (n+1-g.1) f)<|n+1-g.1) (divQ g.2 g.1 (n+1-g.1) f)
def c29 (n:Nat)(f:Nat->Int)(p:Int)(xs:List ((Nat×(Nat->Int))×Nat)):Prop:= ∀x∈xs,2<=x.2-> ∃c∈jC n f x.1,c%(p*p)≠0
def rC:Φ:=λds Q=> ∃(n:Nat) (f:Nat->Int) (size:Int) (xf:Int->List ((Nat×(Nat->Int))×Nat)),ds=[aX<|rwF (n+1) f,.lst<|aL6 n f size xf]/\RF n f/\SPs n f size xf/\((∀p∈prL,sqB size p=true->c29 n f p (xf p))->Q (.pu .non))/\ ∀p g,d44 n f size p g->Q (.pu<|.tup [.int p,aX<|d45 n f g])
def aP8:US:=(dE<|uC .non)
def rD:US:=(aV (kI (iL<|aC 1) (rL<|fB 2<|fB 3 rK)<|kI (iL<|aC 3) (rL<|fB 4<|fB 5<|fB 6 rK)<|gH (b78 (cQ<|uOp (nB λi j=>decide (j<=i)) (aC 5)<|uC<|.int 2)<|cQ<|aP b00<|a9 (gC [2] [none,some 2,none] 2 (iL<|aC 6) (cR 0) (λρ Q=>Q true ρ)<|uOp (j2 false) (uOp oE (aC 0)<|uOp j9 (aC 1)<|aC 1)<|uC<|.int 0) aK) (dE<|gF<|a9 (aC 2)<|a9 (uIx (uV<|aP gA<|a9 (aC 0)<|a9 (aC 4) aK)<|uC<|.int 0) aK) dZ) aP8)
theorem aV0: ∀ds Q,rC ds Q->rD {nx:=λ_=>Q (.pu .non),rt:=Q} (init ["f","r","p","a","g","o","c"] ds):=by
 rintro ds Q ⟨n,f,size,xf,rfl,rf,hP,h0,h1⟩;have hm0: ∀p∈prL.filter (sqB size),p∈prL/\sqB size p=true:=λp hp=>mU.mp hp
 have hm1: ∀p,p∈prL->sqB size p=true->p∈prL.filter (sqB size):=λp h1 h2=>mU.mpr ⟨h1,h2⟩
 unfold aL6;generalize prL.filter (sqB size)=ps' at *;generalize el:ps'.map (d43 n f xf)=l at *;have ll:l.length=ps'.length:=by rw[<-el,aH]
 unfold rD;show(aV _ _:US) _ [some<|.pu<|aX<|rwF (n+1) f,some<|.pu<|.lst l,none,none,none,none,none];rw[aU];refine bV l.length (λi=>l.getD i .non) [some<|.pu<|aX<|rwF (n+1) f,some<|.pu<|.lst l,none,none,none,none,none] (λQ' q=>q)
  (λi ρ=>(∃a b c d e,ρ=[some<|.pu<|aX<|rwF (n+1) f,some<|.pu<|.lst l,a,b,c,d,e])/\ ∀j,j<i->c29 n f (ps'.getD j 0) (xf<|ps'.getD j 0)) ⟨⟨none,none,none,none,none,rfl⟩,λj hj=>absurd hj (Nat.not_lt_zero _)⟩ ?_ ?_
 ·rintro i ρ hi ⟨⟨a,b,c,d,e,rfl⟩,fi⟩;have hi':i<ps'.length:=by rw[<-ll];exact hi
  have e1:l.getD i .non=d43 n f xf (ps'.getD i 0):=by
   rw[<-el,aI,bI,aI,aJ hi'];rfl
  have hmp:ps'.getD i 0∈ps':=by
   rw[aI,aJ hi'];exact dO hi'
  obtain⟨hp,hs0⟩:=hm0 _ hmp;have sp:=hP _ hp hs0;have hs:size%(ps'.getD i 0*ps'.getD i 0)=0:=kQ hs0;have go:c29 n f (ps'.getD i 0) (xf<|ps'.getD i 0)-> ∀j,j<i+1->c29 n f (ps'.getD j 0) (xf<|ps'.getD j 0):=λz j hj=>by
   by_cases c:j=i
   ·rw[c];exact z
   ·exact fi j ad
  rw[e1];unfold d43;generalize ps'.getD i 0=p at *;generalize xf p=xs at *;have pp:=yT hp;refine⟨ae,ae,rfl,?_⟩
  show(kI _ _ _:US) _ [some<|.pu<|aX<|rwF (n+1) f,some<|.pu<|.lst l,some<|.pu<|.int p,some<|.pu<|.lst<|xs.map<|ptD n f,c,d,e]
  refine bV xs.length (λi=>(xs.map<|ptD n f).getD i .non) [some<|.pu<|aX<|rwF (n+1) f,some<|.pu<|.lst l,some<|.pu<|.int p,some<|.pu<|.lst<|xs.map<|ptD n f,c,d,e] (λQ' q=> ?_)
   (λj ρ=>(∃c d e,ρ=[some<|.pu<|aX<|rwF (n+1) f,some<|.pu<|.lst l,some<|.pu<|.int p,some<|.pu<|.lst<|xs.map<|ptD n f,c,d,e])/\c29 n f p (xs.take j)) ⟨⟨c,d,e,rfl⟩,λx hx=>by simp at hx⟩ ?_ ?_
  ·walk_at "u"
   rw[aH];exact q
  ·rintro j ρ hj ⟨⟨c,d,e,rfl⟩,fj⟩;have nf:(2<=xs[j].2-> ∃c∈jC n f xs[j].1,c%(p*p)≠0)->c29 n f p (xs.take<|j+1):=λz x hx=>by
    rw[List.take_succ,aJ hj]at hx;rcases bS.mp hx with hx|hx
    ·exact fj x hx
    ·have:x=xs[j]:=by simpa using hx
     rw[this];exact z
   have hx:xs[j]∈xs:=dO hj;have e2:(xs.map<|ptD n f).getD j .non=ptD n f xs[j]:=by
    rw[aI,bI,aJ hj];rfl
   rw[e2];obtain⟨mx,x1,x4,_⟩:=sp.mem _ hx;have tw:2<=xs[j].2->_:=λh2=>cF1 pp.lo sp hx h2
   generalize xs[j]=x at *;refine⟨ae,ae,ae,rfl,?_⟩
   show(gH _ _ _:US) _ [some<|.pu<|aX<|rwF (n+1) f,some<|.pu<|.lst l,some<|.pu<|.int p,some<|.pu<|.lst<|xs.map<|ptD n f,some<|.pu<|aX<|rwF (x.1.1+1) x.1.2,some<|.pu<|.int (x.2:Int),some<|.pu<|aX<|jC n f x.1]
   simp only[aX];walk_at "u"
   by_cases c2:(2:Int)<=(x.2:Int)
   ·rw[a7 c2];have p2:=pp.lo;have p3:=pp.hi;have pq:0<p*p:=yD ad ad
    generalize hr:jC n f x.1=r at *;have rl:r.length<=1000:=by
     rw[<-hr];unfold jC;rw[a88];have:=rS (divL x.1.2 x.1.1 (n+1-x.1.1) f) (n+1);have:=rf.n4
     lia
    refine fG (t0:=0) r.length (λk=>(r.map D.int).getD k .non) [some<|.pu<|.tup<|(rwF (n+1) f).map .int,some<|.pu<|.lst l,some<|.pu<|.int p,some<|.pu<|.lst<|xs.map<|ptD n f,some<|.pu<|.tup<|(rwF (x.1.1+1) x.1.2).map .int,some<|.pu<|.int (x.2:Int),some<|.pu<|.tup<|r.map .int] (λQ' q=> ?_) ad (λx l'=>[x,some<|.pu<|.int p,some<|.ow l']) none rfl (λ_ _ _=>rfl) (λ_ _=>cY _) (λ_ _ _ q=>q) (λ_ _ _=>rfl) (λk=> .bl (decide (r.getD k 0%(p*p)=0))) ?_ ?_
    ·walk_at "u"
     rw[aH];exact q
    ·intro k l' Q' hk q;have e3:(r.map D.int).getD k .non= .int (r.getD k 0):=by
      rw[aI,bI,aI,aJ hk];rfl
     rw[e3]at q⊢;walk_at "u";refine⟨cmL ad ad,ad,?_⟩
     rw[dY _ pq];exact q
    ·have e4:(List.range r.length).map (λk=>D.bl (decide (r.getD k 0%(p*p)=0)))=((List.range r.length).map λk=>decide (r.getD k 0%(p*p)=0)).map D.bl:=by rw[fA];rfl
     rw[e4];dsimp only;rw[iY];dsimp only
     by_cases c3:(((List.range r.length).map λk=>decide (r.getD k 0%(p*p)=0)).all id)=true
     ·rw[a7 c3];walk_at "u";refine⟨n+1,x.1.1,9,8,f,x.1.2,rfl,bJ0 pp rf.n4 rf.fb mx x4,?_⟩;walk_at "u";rw[at0];refine⟨ac,h1 p x.1 ⟨hp,hs,mx,x1,x4,tw ad,λc hc=> ?_⟩⟩
      rw[hr]at hc;obtain⟨k,hk,rfl⟩:=List.mem_iff_getElem.mp hc;rw[cX]at c3;have:=c3 (decide (r.getD k 0%(p*p)=0)) (fT.mpr ⟨k,dW.mpr hk,rfl⟩);have:=kQ (show decide (r.getD k 0%(p*p)=0)=true from this)
      rw[aI,aJ hk]at this;exact this
     ·rw[a6 c3];refine⟨⟨_,_,_,rfl⟩,nf λ_=> ?_⟩
      refine aC1 λno=>c3 ?_
      rw[cX];intro z hz;obtain⟨k,hk,rfl⟩:=fT.mp hz;have hk':=dW.mp hk;refine dP (aC1 λne=>no ⟨r.getD k 0,?_,ne⟩)
      rw[aI,aJ hk'];exact dO hk'
   ·rw[a6 c2];exact⟨⟨_,_,_,rfl⟩,nf λz=>absurd z ad⟩
  ·rintro ρ ⟨⟨c,d,e,rfl⟩,fj⟩;rw[xB<|aB _]at fj;exact⟨⟨_,_,_,_,_,rfl⟩,go fj⟩
 ·rintro ρ ⟨⟨a,b,c,d,e,rfl⟩,fi⟩;refine h0 λp hp hs=> ?_
  obtain⟨j,hj,e⟩:=xH (hm1 p hp hs);have:=fi j (by rw[ll];exact hj)
  rw[aI,aJ hj]at this;rw[<-e];exact this
theorem cS1 (t:UE)(D:UD)(ρ:Ev):aK2 t D ρ=t ρ (λ_ ρ1=>D.nx ρ1):=rfl
structure gD (p:List Int):Prop where
 ok:aX3 p
 one: ∃q,p=q++[1]
noncomputable def bS3 (c:Int):Bool:=decide ((if c<0 then -c else c)<=499)
noncomputable def d46 (p:List Int):Bool:=decide (3<=p.length)&&(decide (p.length<=5)&&(decide (p.getD (p.length-1) 0=1)&&p.all bS3))
theorem aP9: ∀(q:List Int) (x:Int),(q++[x]).getD ((q++[x]).length-1) 0=x:=λq x=>by
 rw[cU,aI,sG ae]
 simp
theorem cS2 (p:List Int):d46 p=true↔gD p:=by
 unfold d46;simp only[dN,fS,cX];constructor
 ·rintro⟨h1,h2,h3,h4⟩;refine⟨⟨h1,h2,λx hx=> ?_⟩,?_⟩
  ·have:=kQ (h4 x hx);split at this<;>lia
  ·rcases List.eq_nil_or_concat p with rfl| ⟨q,x,rfl⟩
   ·simp at h1
   ·rw[List.concat_eq_append]at h3⊢;rw[aP9]at h3;exact⟨q,by rw[h3]⟩
 ·intro h;refine⟨h.ok.lo,h.ok.hi,?_,λx hx=>dP ?_⟩
  ·obtain⟨q,rfl⟩:=h.one;exact aP9 q 1
  ·have:=h.ok.small x hx;split<;>lia
theorem cF2 {p:List Int}(h:0<p.length):atI (p.map D.int) (-1)=some (.int<|p.getD (p.length-1) 0):=by
 rcases List.eq_nil_or_concat p with rfl| ⟨q,x,rfl⟩
 ·simp at h
 ·rw[List.concat_eq_append,aP9,cN];exact cK0 _ _
def nZ:Φ:=λds Q=> ∃p:List Int,ds=[aX p]/\p.length<=1000/\Q (.pu<|.bl<|d46 p)
def tY:US:=(dE<|aP b00<|a9 (gC [] [none,none] 1 (iL<|aC 0) (cR 0) (λρ Q=>Q true ρ)<|uOp (nB λi j=>decide (i<=j)) (aP cL7<|a9 (aC 0) aK)<|uC<|.int 499) aK)
def o7:US:=(aV (gH (uOr (cQ<|uOp (nB λi j=>decide (i<j)) (gN<|aO 0)<|uC<|.int 3)<|uOr (cQ<|uOp (nB λi j=>decide (j<i)) (gN<|aO 0)<|uC<|.int 5)<|cQ<|uOp (j2 true) (uIx (aO 0)<|jA<|uC<|.int 1)<|uC<|.int 1) (dE<|uC<|.bl false) dZ) tY)
theorem aL7: ∀ds Q,nZ ds Q->o7 {nx:=λ_=>Q (.pu .non),rt:=Q} (init ["r"] ds):=by
 rintro ds Q ⟨p,rfl,hn,h⟩;have lp:(p.map D.int).length=p.length:=aH _;unfold o7;simp only[aX];show(aV _ _:US) _ [some<|.pu<|.tup<|p.map .int];rw[aU];walk_at "u";rw[lp];unfold d46 at h
 by_cases h3:(p.length:Int)<3
 ·rw[a7 h3];rw[cL ad]at h
  exact h
 rw[a6 h3];rw[dP<|show 3<=p.length by lia,xW]at h
 by_cases h5:(5:Int)< (p.length:Int)
 ·rw[a7 h5];rw[cL<|show ¬p.length<=5 by lia]at h
  exact h
 rw[a6 h5];rw[dP<|show p.length<=5 by lia,xW]at h
 rw[cF2 ad]
 dsimp only
 by_cases h1:p.getD (p.length-1) 0=1
 ·rw[dP h1,xW]at h;rw[a6 λz=>z h1]
  unfold tY;rw[mJ,gS,gT];refine fG (t0:=0) p.length (λk=>(p.map D.int).getD k .non) [some<|.pu<|.tup<|p.map .int] ?_ ad (λx l=>[x,some<|.ow l]) none rfl (λ_ _ _=>rfl) (λ_ _=>cY _) (λ_ _ _ q=>q) (λ_ _ _=>rfl) (λk=> .bl (bS3<|p.getD k 0)) ?_ ?_
  ·intro Q' q;simp only[iL];walk_at "u";rw[lp];exact q
  ·intro k l Q' hk q;have ek:(p.map D.int).getD k .non= .int (p.getD k 0):=by
    rw[aI,bI,aI,aJ hk];rfl
   rw[ek]at q⊢;walk_at "u";exact q
  ·have e:((List.range p.length).map λk=>D.bl (bS3<|p.getD k 0))=(p.map bS3).map D.bl:=by
    rw[fA];refine mT ae λi h1 h2=> ?_
    simp at h1
    simp[h1]
   rw[e];walk_at "u";rw[iY];show Q (.pu<|.bl<|(p.map bS3).all id);rw[List.all_map];exact h
 ·rw[cL h1]at h;rw[a7 h1];exact h
def gU:Φ:=λds Q=> ∃p:List Int,ds=[aX p]/\gD p/\Q (.pu .non)
def lU:US:=(gH (a96<|cQ<|aP nZ<|a9 (aC 0) aK) (λ_ _=>False) dZ)
theorem a99: ∀ds Q,gU ds Q->lU {nx:=λ_=>Q (.pu .non),rt:=Q} (init ["r"] ds):=by
 rintro ds Q ⟨p,rfl,hp,h⟩;have hi:=hp.ok.hi;unfold lU;show(gH _ _ _:US) _ [some<|.pu<|aX p];walk_at "u";refine⟨p,rfl,ad,?_⟩
 rw[(cS2 p).mpr hp]
 simpa using h
noncomputable def cG (p:List Int):List (List Int):=(List.range<|p.length-1).map λi=>((eU p<|2*(p.length-1)-2).drop i).take (p.length-1)
def yW:Φ:=λds Q=> ∃p:List Int,ds=[aX p]/\gD p/\Q (.pu<|.int<|iM 4<|cG p)
def yX:US:=(aV (aK2<|aP gU<|a9 (aC 0) aK)<|aV (cE 1<|uOp M.gSub (gN<|aO 0)<|uC<|.int 1)<|aV (cE 2<|aP tT<|a9 (aC 0)<|a9 (uOp M.gSub (uOp j9 (uC<|.int 2)<|aC 1)<|uC<|.int 1) aK)<|dE<|aP (gG 4)<|a9 (aP fO<|a9 (gC [1] [none,some 2,some 1,none] 3 (kG<|a9 (aC 1) aK) (cR 0) (λρ Q=>Q true ρ)<|aP fO<|a9 (uSl (aO 1) (wF<|aC 0)<|wF<|uOp jU (aC 0)<|aC 2) aK) aK) aK)
theorem cF3 {p:List Int}(hp:aX3 p):Sq 4 (cG p):=by
 have hlo:=hp.lo;have hhi:=hp.hi;have bn:=yS hp (2*(p.length-1)-2) aa
 have nl:=tQ p (2*(p.length-1)-2);have hl:(cG p).length=p.length-1:=by unfold cG;simp
 refine⟨aa,aa,λr hr=> ?_,λr hr x hx=> ?_⟩
 ·unfold cG at hr;obtain⟨i,hi,rfl⟩:=fT.mp hr;have:=dW.mp hi;rw[hl,sR,sS,nl];omega
 ·unfold cG at hr;obtain⟨i,hi,rfl⟩:=fT.mp hr;refine kN (bn x<|List.mem_of_mem_drop<|List.mem_of_mem_take hx) ?_;exact Nat.pow_lt_pow_right ac aa
theorem d47 (l:List D)(i n:Nat)(h:i+n<=l.length):cutD l (some (i:Int)) (some ((i+n:Nat):Int))=(l.drop i).take n:=by
 unfold cutD;rw[HT.sIx_nat,HT.sIx_nat,sV<|show i<=l.length by lia,sV h]
 congr 1
 lia
theorem bJ1: ∀ds Q,yW ds Q->yX {nx:=λ_=>Q (.pu .non),rt:=Q} (init ["p","n","s"] ds):=by
 rintro ds Q ⟨p,rfl,hp,h⟩;have hlo:=hp.ok.lo;have hhi:=hp.ok.hi;have lp:(p.map D.int).length=p.length:=aH _;have en:(p.length:Int)-1=((p.length-1:Nat):Int):=ad
 have nl:=tQ p (2*(p.length-1)-2);have fin:(dE (aP (gG 4)<|a9 (aP fO<|a9 (gC [1] [none,some 2,some 1,none] 3 (kG<|a9 (aC 1) aK) (cR 0) (λρ Q=>Q true ρ)<|aP fO<|a9 (uSl (aO 1) (wF<|aC 0)<|wF<|uOp jU (aC 0)<|aC 2) aK) aK) aK):US) {nx:=λ_=>Q (.pu .non),rt:=Q}
   [some<|.pu<|.tup<|p.map .int,some<|.pu<|.int ((p.length-1:Nat):Int),some<|.ow<|(eU p<|2*(p.length-1)-2).map .int]:=by
  rw[mJ,gS,gT,gS,gT];refine fG (t0:=0) (p.length-1) (λi=> .int (0+i)) [some<|.pu<|.tup<|p.map .int,some<|.pu<|.int ((p.length-1:Nat):Int),some<|.ow<|(eU p<|2*(p.length-1)-2).map .int] ?_ ad
   (λx l=>[x,some<|.bo<|(eU p<|2*(p.length-1)-2).map .int,some<|.pu<|.int ((p.length-1:Nat):Int),some<|.ow l]) none rfl (λ_ _ _=>rfl) (λ_ _=>cY _) (λ_ _ _ q=>q) (λ_ _ _=>rfl)
   (λi=>aX (((eU p<|2*(p.length-1)-2).drop i).take<|p.length-1)) ?_ ?_
  ·intro Q' q;simp only[kG];walk_at "u";refine⟨ad,?_⟩
   rw[eM];exact q
  ·intro i l Q' hi q;walk_at "u";have e:cutD ((eU p<|2*(p.length-1)-2).map D.int) (some<|0+(i:Int)) (some<|0+(i:Int)+((p.length-1:Nat):Int))=(((eU p<|2*(p.length-1)-2).drop i).take<|p.length-1).map D.int:=by
    rw[d5,show(i:Int)+((p.length-1:Nat):Int)=((i+(p.length-1):Nat):Int)by lia,d47 _ _ _ (by rw[aH,nl];lia),sY,map_drop]
   rw[e];exact q
  ·simp only[fO,g1,B.d,aK,mC];refine⟨cG p,?_,cF3 hp.ok,h⟩;unfold c23 cG;rw[fA];rfl
 unfold yX;show(aV _ _:US) _ [some<|.pu<|.tup<|p.map .int,none,none];rw[aU,cS1,gS,gT];simp only[aC,aS4,aK,B.d,oM];refine⟨p,rfl,hp,?_⟩;rw[aU,yP];simp only[uOp,gN,aO,aZ3,uC,mC,M.gSub,gI2,B.d,oM,lp,aY6,aY5,en];rw[aU,yP,gS];simp only[a9,aK,uOp,aC,aS4,uC,M.gSub,j9,gI2,B.d,oM,x9];refine⟨cmL ac ac,?_⟩
 refine⟨p,2*(p.length-1)-1,?_,hp.ok,ad,ad,?_⟩
 ·rw[show(2:Int)*((p.length-1:Nat):Int)-1=((2*(p.length-1)-1:Nat):Int)by lia];rfl
 ·rw[show 2*(p.length-1)-1-1=2*(p.length-1)-2 by lia]
  exact fin
noncomputable def one4 (e d c b:Int):Int:=12*e-3*b*d+c*c
noncomputable def two4 (e d c b:Int):Int:=72*c*e+9*b*c*d-27*d*d-27*b*b*e-2*c*c*c
noncomputable def d48:List Int->Int
 | [c0,c1,_]=>c1*c1-4*c0
 | [d,c,b,_]=>b*b*c*c-4*c*c*c-4*b*b*b*d-27*d*d+18*b*c*d
 | [e,d,c,b,_]=>(4*one4 e d c b*one4 e d c b*one4 e d c b-two4 e d c b*two4 e d c b).fdiv 27
 | _=>0
theorem gD.cases {p:List Int}(h:gD p):(∃a b:Int,p=[a,b,1]/\a.natAbs<=499/\b.natAbs<=499)\/(∃a b c:Int,p=[a,b,c,1]/\a.natAbs<=499/\b.natAbs<=499/\c.natAbs<=499)\/
  ∃a b c d:Int,p=[a,b,c,d,1]/\a.natAbs<=499/\b.natAbs<=499/\c.natAbs<=499/\d.natAbs<=499:=by
 obtain⟨q,rfl⟩:=h.one;have lo:=h.ok.lo;have hi:=h.ok.hi;have sm: ∀x∈q,x.natAbs<=499:=λx hx=>h.ok.small x (jG _ hx)
 rw[cU,xC]at lo hi
 match q,lo,hi,sm with
 | [a,b],_,_,sm=>exact .inl ⟨a,b,rfl,sm a ae,sm b ae⟩
 | [a,b,c],_,_,sm=>exact .inr (.inl ⟨a,b,c,rfl,sm a ae,sm b ae,sm c ae⟩)
 | [a,b,c,d],_,_,sm=>exact .inr (.inr ⟨a,b,c,d,rfl,sm a ae,sm b ae,sm c ae,sm d ae⟩)
 | [],lo,_,_=>simp at lo
 | [_],lo,_,_=>simp at lo
 | _::_::_::_::_::_,_,hi,_=>simp at hi
noncomputable def cF4 (a b c:Int):Int:=1*a*c+(-1*b*b+0)
noncomputable def d49 (s t u v w:Int):Int:=1*s*cF4 u v w+(-1*t*(1*t*w+(-1*v*u+0))+(1*u*(1*t*v+(-1*u*u+0))+0))
theorem hk2 (c b:Int):iM 4 (cG [c,b,1])=cF4 2 (-(0+1*b)) (-((b* -(0+1*b)+0)+2*c)):=by kernel_rfl
theorem id2 (c0 c1:Int):iM 4 (cG [c0,c1,1])=c1*c1-4*c0:=by
 rw[hk2];unfold cF4;grind
noncomputable def bJ2 (b:Int):Int:= -(0+1*b)
noncomputable def bJ3 (c b:Int):Int:= -((b*bJ2 b+0)+2*c)
noncomputable def bS4 (d c b:Int):Int:= -((b*bJ3 c b+(c*bJ2 b+0))+3*d)
noncomputable def hkNd (d c b:Int):Int:= -((b*bS4 d c b+(c*bJ3 c b+(d*bJ2 b+0)))+0)
theorem hk3 (d c b:Int):iM 4 (cG [d,c,b,1])=d49 3 (bJ2 b) (bJ3 c b) (bS4 d c b) (hkNd d c b):=by kernel_rfl
theorem id3 (d c b:Int):iM 4 (cG [d,c,b,1])=b*b*c*c-4*c*c*c-4*b*b*b*d-27*d*d+18*b*c*d:=by
 rw[hk3];unfold d49 cF4 hkNd bS4 bJ3 bJ2;grind
noncomputable def d50 (e d c b:Int):Int:= -((b*bS4 d c b+(c*bJ3 c b+(d*bJ2 b+0)))+4*e)
noncomputable def hkMe (e d c b:Int):Int:= -((b*d50 e d c b+(c*bS4 d c b+(d*bJ3 c b+(e*bJ2 b+0))))+0)
noncomputable def hkMf (e d c b:Int):Int:= -((b*hkMe e d c b+(c*d50 e d c b+(d*bS4 d c b+(e*bJ3 c b+0))))+0)
noncomputable def hkD4 (s0 s1 s2 s3 s4 s5 s6:Int):Int:=1*s0*d49 s2 s3 s4 s5 s6+(-1*s1*(1*s1*cF4 s4 s5 s6+(-1*s3*(1*s2*s6+(-1*s5*s3+0))+(1*s4*(1*s2*s5+(-1*s4*s3+0))+0)))+(1*s2*(1*s1*(1*s3*s6+(-1*s5*s4+0))+(-1*s2*(1*s2*s6+(-1*s5*s3+0))+(1*s4*(1*s2*s4+(-1*s3*s3+0))+0)))+(-1*s3*(1*s1*(1*s3*s5+(-1*s4*s4+0))+(-1*s2*(1*s2*s5+(-1*s4*s3+0))+(1*s3*(1*s2*s4+(-1*s3*s3+0))+0)))+0)))
theorem hk4 (e d c b:Int):iM 4 (cG [e,d,c,b,1])=hkD4 4 (bJ2 b) (bJ3 c b) (bS4 d c b) (d50 e d c b) (hkMe e d c b) (hkMf e d c b):=by kernel_rfl
theorem id4 (e d c b:Int):27*iM 4 (cG [e,d,c,b,1])=4*(12*e-3*b*d+c*c)*(12*e-3*b*d+c*c)*(12*e-3*b*d+c*c)-(72*c*e+9*b*c*d-27*d*d-27*b*b*e-2*c*c*c)*(72*c*e+9*b*c*d-27*d*d-27*b*b*e-2*c*c*c):=by
 rw[hk4];unfold hkD4 d49 cF4 hkMf hkMe d50 bS4 bJ3 bJ2;grind
noncomputable def rts3 (a b c:Int):List Int:=[-(a*b*c),a*b+a*c+b*c,-a-b-c]
noncomputable def sqIn (rs:List Int)(i:Nat)(t:Int):Nat->Int
 | 0=>t
 | j+1=>sqIn rs i t j*(rs.getD i 0-rs.getD j 0)*(rs.getD i 0-rs.getD j 0)
noncomputable def sqK (rs:List Int):Nat->Int
 | 0=>1
 | i+1=>sqIn rs i (sqK rs i) i
noncomputable def okR (q rs:List Int):Bool:=(q.all λx=>decide (x.natAbs<=499))&&decide (d48 (q++[1])=sqK rs rs.length)
noncomputable def sh3 (a b c s:Int):List Int:=[a+s*b+s*s*c+s*s*s,b+2*s*c+3*s*s,c+3*s]
noncomputable def sh4 (a b c d s:Int):List Int:=[a+s*b+s*s*c+s*s*s*d+s*s*s*s,b+2*s*c+3*s*s*d+4*s*s*s,c+3*s*d+6*s*s,d+4*s]
noncomputable def d51 (row:List Int)(r:Int):Nat->List Int
 | 0=>0::row
 | k+1=>(d51 row r k).set k ((d51 row r k).getD k 0-r*row.getD k 0)
noncomputable def dA2 (rs:List Int):List Int:=rs.foldl (λrow r=>d51 row r row.length) [1]
theorem fr3 (a b c:Int):dA2 [a,b,c]=rts3 a b c++[1]:=by
 simp[dA2,d51,rts3]
 grind
noncomputable def aQ0 (row:List Int)(s:Int):Nat->List Int
 | 0=>row
 | k+1=>(aQ0 row s k).set (row.length-2-k) ((aQ0 row s k).getD (row.length-2-k) 0+s*(aQ0 row s k).getD (row.length-1-k) 0)
noncomputable def shK (p:List Int)(s:Int):Nat->List Int
 | 0=>p
 | low+1=>aQ0 (shK p s low) s (p.length-1-low)
theorem she3 (a b c s:Int):shK [a,b,c,1] s 3=sh3 a b c s++[1]:=by
 simp[shK,aQ0,sh3]
 grind
theorem she4 (a b c d s:Int):shK [a,b,c,d,1] s 4=sh4 a b c d s++[1]:=by
 simp[shK,aQ0,sh4]
 grind
def aQ1:Φ:=λds Q=> ∃m:Int,ds=[.int m]/\0<=m/\Sm m/\ ∀r:Int,0<=r->r<=m->Q (.pu<|.int r)
def aQ2:US:=(aV (cE 1<|aC 0)<|aV (cE 2<|uOp b79 (uOp jU (aC 0)<|uC<|.int 1)<|uC<|.int 2)<|aV (aZ4 (cQ<|uOp (nB λi j=>decide (i<j)) (aC 2)<|aC 1)<|aV (cE 1<|aC 2)<|cE 2<|uOp b79 (uOp jU (aC 1)<|uOp b79 (aC 0)<|aC 1)<|uC<|.int 2)<|tI 1)
theorem Sm.le {i m:Int}(h:Sm m)(h0:0<=i)(h1:i<=m):Sm i:=by
 unfold Sm at h⊢;exact kN ad h
theorem cF5: ∀ds Q,aQ1 ds Q->aQ2 {nx:=λ_=>Q (.pu .non),rt:=Q} (init ["m","g","b"] ds):=by
 rintro ds Q ⟨m,rfl,m0,ms,h⟩;unfold aQ2;show(aV _ _:US) _ [some<|.pu<|.int m,none,none];walk_at "u";rw[wK _ ac]
 refine⟨⟨ac,bQ7 ac ac⟩,?_⟩
 refine⟨λn ρ=> ∃g b:Int,ρ=[some<|.pu<|.int m,some<|.pu<|.int g,some<|.pu<|.int b]/\n=g.toNat/\0<=g/\g<=m/\((m=0/\b=0)\/(1<=g/\b=(g+m/g)/2)),⟨_,m,(m+1)/2,rfl,rfl,m0,Int.le_refl _,?_⟩,?_⟩
 ·by_cases z:m=0
  ·subst z;exact .inl ⟨rfl,rfl⟩
  ·right
   rw[Int.ediv_self z];exact⟨ad,rfl⟩
 ·rintro n ρ ⟨g,b,rfl,rfl,g0,gm,hb⟩;walk_at "u";split
  ·rcases hb with⟨rfl,rfl⟩| ⟨g1,rfl⟩
   ·lia
   ·have b1:1<=(g+m/g)/2:=by
     have:1<=m/g:=Int.le_ediv_of_mul_le ad ad
     lia
    rw[wK _<|show 0< (g+m/g)/2 by lia,wK _ ac]
    refine⟨⟨ad,ms.le ad ad⟩,⟨ac,bQ7 ac ac⟩,_,?_,_,_,rfl,rfl,ad,ad,.inr ⟨b1,rfl⟩⟩
    lia
  ·exact h g g0 gm
noncomputable def ev (p:List Int)(z:Int):Int:=ps (λj=>p.getD j 0) z p.length
theorem ev2 (a b z:Int):ev [a,b,1] z=a+b*z+z*z:=by simp[ev,ps];grind
theorem ev3 (a b c z:Int):ev [a,b,c,1] z=a+b*z+c*(z*z)+z*z*z:=by simp[ev,ps];grind
theorem ev4 (a b c d z:Int):ev [a,b,c,d,1] z=a+b*z+c*(z*z)+d*(z*z*z)+z*z*z*z:=by simp[ev,ps];grind
noncomputable def qq (v u w s:Int):List Int:=[v*w,u*w+v*s,v+w+u*s,u+s,1]
def Red (p:List Int):Prop:=(∃z,ev p z=0)\/ ∃v u w s,p=qq v u w s
theorem gD.cs {p:List Int}(h:gD p):(∃a b,p=[a,b,1])\/(∃a b c,p=[a,b,c,1])\/ ∃a b c d,p=[a,b,c,d,1]:=by
 obtain⟨q,rfl⟩:=h.one;have lo:=h.ok.lo;have hi:=h.ok.hi;rw[cU,xC]at lo hi
 match q,lo,hi with
 | [a,b],_,_=>exact .inl ⟨a,b,rfl⟩
 | [a,b,c],_,_=>exact .inr (.inl ⟨a,b,c,rfl⟩)
 | [a,b,c,d],_,_=>exact .inr (.inr ⟨a,b,c,d,rfl⟩)
 | [],h,_=>simp at h
 | [_],h,_=>simp at h
 | _::_::_::_::_::_,_,h=>simp at h
theorem d52 {p:List Int}(h:gD p):ev p 0=p.getD 0 0:=by
 rcases h.cs with⟨a,b,rfl⟩| ⟨a,b,c,rfl⟩| ⟨a,b,c,d,rfl⟩
 ·rw[ev2];simp
 ·rw[ev3];simp
 ·rw[ev4];simp
noncomputable def linB (z:Int):Nat->Int:=λj=>[-z,1].getD j 0
theorem b88 {a b:Int}{m n:Nat}(h1:a.natAbs<=m)(h2:b.natAbs<=n):(a*b).natAbs<=m*n:=by rw[gL];exact iU h1 h2
def qA:Φ:=λds Q=> ∃m:Int,ds=[.int m]/\m.natAbs<=499/\ ∀l:List Int,(m=0->l=[0])->(∀x∈l,x∣m/\x.natAbs<=499)->Q (.ow<|l.map .int)
def a40:US:=(aV (cE 1<|lD aK)<|aV (kI (aJ7<|a9 (uC<|.int 1)<|a9 (uOp jU (aP cL7<|a9 (aC 0) aK)<|uC<|.int 1) aK) (cR 2)<|gH (cQ<|uOp (j2 false) (uOp oE (aC 0)<|aC 2)<|uC<|.int 0) (aV (aZ7 1<|aC 2)<|aZ7 1<|jA<|aC 2) dZ)<|tI 1)
def vG:US:=(aV (gH (cQ<|uOp (j2 false) (aC 0)<|uC<|.int 0) (dE<|lD<|a9 (uC<|.int 0) aK) dZ) a40)
theorem b89: ∀ds Q,qA ds Q->vG {nx:=λ_=>Q (.pu .non),rt:=Q} (init ["m","f","d"] ds):=by
 rintro ds Q ⟨m,rfl,m9,h⟩;unfold vG;show(aV _ _:US) _ [some<|.pu<|.int m,none,none];rw[aU];walk_at "u"
 by_cases m0:m=0
 ·rw[a7 m0];exact⟨ac,h [0] (λ_=>rfl)<|by simp[m0]⟩
 rw[a6 m0];unfold a40;rw[aU];walk_at "u";refine⟨ac,?_⟩
 refine bV m.natAbs (λk=> .int (1+k)) [some<|.pu<|.int m,some<|.ow [],none] ?_
  (λi ρ=> ∃(l:List Int) (z:Option B),ρ=[some<|.pu<|.int m,some<|.ow<|l.map .int,z]/\l.length<=2*i/\ ∀x∈l,x∣m/\x.natAbs<=i) ⟨[],none,rfl,ae,ae⟩ ?_ ?_
 ·intro Q' q;walk_at "u";have e:(if m<0 then -m else m)=(m.natAbs:Int):=by split<;>lia
  rw[e];refine⟨ad,?_⟩
  rw[show((m.natAbs:Int)+1-1).toNat=m.natAbs by lia]
  exact q
 ·rintro i ρ hi ⟨l,z,rfl,ll,hl⟩;walk_at "u";refine⟨ae,ad,?_⟩
  rw[dY _<|show(0:Int)<1+(i:Int)by lia]
  split
  ·rename_i hd
   have dv:(1+(i:Int))∣m:=bZ hd;refine⟨?_,?_,l++[1+(i:Int),-(1+(i:Int))],some<|.pu<|.int<|1+(i:Int),?_,?_,λx hx=> ?_⟩
   ·rw[aH];exact b9 (show _<2000 by lia) ac
   ·rw[cU,aH];exact b9 (show _<2000 by simp;lia) ac
   ·rw[cN];simp
   ·rw[cU];simp;lia
   ·rcases bS.mp hx with hx|hx
    ·have:=hl x hx;exact⟨this.1,ad⟩
    ·rcases aS.mp hx with rfl|hx
     ·exact⟨dv,ad⟩
     ·rw[iR.mp hx];exact⟨Int.neg_dvd.mpr dv,ad⟩
  ·exact⟨l,_,rfl,ad,λx hx=>⟨(hl x hx).1,by have:=(hl x hx).2;lia⟩⟩
 ·rintro ρ ⟨l,z,rfl,ll,hl⟩;walk_at "u";exact h l (λz=>absurd z m0) λx hx=>⟨(hl x hx).1,by have:=(hl x hx).2;lia⟩
def nE:Φ:=λds Q=> ∃p:List Int,ds=[aX p]/\gD p/\(p.getD 0 0≠0->Q (.pu .non))/\((∃z,ev p z=0)-> ∀d e,Q<|.pu<|.tup [d,e])
def rN:US:=(dE<|uC .non)
def nF:US:=(aV (kI (iL<|aP qA<|a9 (uIx (aO 0)<|uC<|.int 0) aK) (cR 1)<|gH (cQ<|uOp (j2 false) (aP rV<|a9 (aC 0)<|a9 (aC 1) aK)<|uC<|.int 0) (aV (cE 2<|gF<|a9 (jA<|aC 1)<|a9 (uC<|.int 1) aK)<|dE<|gF<|a9 (aC 2)<|a9 (uIx (uV<|aP gA<|a9 (aC 0)<|a9 (aC 2) aK)<|uC<|.int 0) aK) dZ) rN)
theorem bS5 (p:List Int)(j:Nat)(h:p.length<=j):p.getD j 0=0:=by rw[aI,oQ h];rfl
theorem aH0: ∀ds Q,nE ds Q->nF {nx:=λ_=>Q (.pu .non),rt:=Q} (init ["p","z","l"] ds):=by
 rintro ds Q ⟨p,rfl,hp,hn,hy⟩;have hlo:=hp.ok.lo;have hhi:=hp.ok.hi;have er:aX p=aX (rwF p.length λj=>p.getD j 0):=bP aX (c26 p)
 unfold nF;show(aV _ _:US) _ [some<|.pu<|.tup<|p.map .int,none,none];rw[aU];have p0:(p.getD 0 0).natAbs<=499:=iD hp.ok.small 0;unfold kI;simp only[iL];walk_at "u";rw[b20 ad]
 refine⟨p.getD 0 0,rfl,p0,λl l0 lb=> ?_⟩
 dsimp only;rw[aH];refine⟨λi ρ=> ∃z1 z2,ρ=[some<|.pu<|.tup<|p.map .int,z1,z2]/\(p.getD 0 0=0->i=0),⟨none,none,rfl,λ_=>rfl⟩,?_,?_⟩
 ·rintro i ρ hi ⟨z1,z2,rfl,hk⟩;have e3:(l.map D.int).getD i .non= .int (l.getD i 0):=by
   rw[aI,bI,aJ hi,aI,aJ hi];rfl
  rw[e3];have mem:l.getD i 0∈l:=by rw[aI,aJ hi];exact dO hi
  have zb:=(lb _ mem).2;have z0:p.getD 0 0=0->ev p (l.getD i 0)=0:=λc=>by
   rw[l0 c]at hi⊢;have:i=0:=by simp at hi;exact hi
   subst this;show ev p 0=0;rw[d52 hp,c]
  generalize l.getD i 0=z at zb z0;walk_at "u";refine⟨ae,?_⟩
  refine⟨p.length,9,9,λj=>p.getD j 0,z,by rw[<-c26];rfl,⟨λj=>aT (iD hp.ok.small j) ac,aT zb ac,ad,ac,ad⟩,?_⟩
  show(if ev p z=0 then _ else _)
  by_cases c:ev p z=0
  ·rw[a7 c];refine⟨ac,?_⟩
   refine⟨p.length,1,9,9,λj=>p.getD j 0,linB z,?_,⟨ad,ac,rfl,λj hj=> ?_,λm hm=>aT (iD hp.ok.small m) ac,λj=> ?_,ad,ac⟩,?_⟩
   ·rw[<-er];rfl
   ·unfold linB;rw[bS5];simp;lia
   ·unfold linB;refine iD (b:=2^9) (λx hx=> ?_) j
    simp at hx
    rcases hx with rfl|rfl
    ·rw[Int.natAbs_neg];exact aT zb ac
    ·decide
   ·walk_at "u"
    rw[show ∀a b:D,atI [a,b] 0=some a from λa b=>cD (j:=0) rfl]
    exact⟨ac,hy ⟨z,c⟩ _ _⟩
  ·rw[a6 c];exact⟨_,_,rfl,λq=>absurd (z0 q) c⟩
 ·rintro ρ ⟨z1,z2,rfl,hk⟩;unfold rN;walk_at "u";refine hn λc=> ?_
  have:=hk c;rw[l0 c]at this;simp at this
def vH:Φ:=λds Q=> ∃t m:Int,ds=[.int t,.int m]/\t.natAbs<=2^20/\m.natAbs<=2^20/\ ∀l:List Int,(∀u∈l,u*(t-u)=m)->Q (.ow<|l.map .int)
def a41:US:=(aV (gH (cQ<|uOp (j2 true) (uOp j9 (aC 3)<|aC 3)<|aC 2) (dE<|lD aK) dZ)<|dE<|lD<|a9 (uOp b79 (uOp jU (aC 0)<|aC 3)<|uC<|.int 2)<|a9 (uOp b79 (uOp M.gSub (aC 0)<|aC 3)<|uC<|.int 2) aK)
def a42:US:=(aV (cE 3<|aP aQ1<|a9 (aC 2) aK) a41)
def a43:US:=(aV (gH (cQ<|uOp (nB λi j=>decide (i<j)) (aC 2)<|uC<|.int 0) (dE<|lD aK) dZ) a42)
def vI:US:=(aV (cE 2<|uOp M.gSub (uOp j9 (aC 0)<|aC 0)<|uOp j9 (uC<|.int 4)<|aC 1) a43)
theorem par {t g m:Int}(h:g*g=t*t-4*m):(t+g)%2=0/\(t-g)%2=0:=by
 have h1:(t-g)*(t+g)=4*m:=by grind
 rcases Int.emod_two_eq (t+g)with c|c
 ·exact⟨c,ad⟩
 ·exfalso
  obtain⟨a,ha⟩: ∃a,t+g=2*a+1:=⟨(t+g)/2,ad⟩
  obtain⟨b,hb⟩: ∃b,t-g=2*b+1:=⟨(t-g)/2,ad⟩
  rw[ha,hb]at h1;have:2*(2*(b*a)+b+a-2*m)+1=0:=by grind
  lia
theorem b90: ∀ds Q,vH ds Q->vI {nx:=λ_=>Q (.pu .non),rt:=Q} (init ["t","m","s","g"] ds):=by
 rintro ds Q ⟨t,m,rfl,ht,hm,h⟩;have p20:(2:Nat)^20=1048576:=ac
 have tt:(t*t).natAbs<=2^20*2^20:=b88 ht ht;unfold vI;show(aV _ _:US) _ [some<|.pu<|.int t,some<|.pu<|.int m,none,none];rw[aU];walk_at "u";refine⟨cmL aa aa,cmL ac ac,?_⟩
 generalize esq:t*t-4*m=sq;have sqb:sq.natAbs<=2^60:=by
  have:(2:Nat)^60=1152921504606846976:=ac
  have:(2:Nat)^20*2^20=1099511627776:=ac
  omega
 have p60:(2:Nat)^60=1152921504606846976:=ac
 unfold a43;rw[aU];walk_at "u"
 by_cases s0:sq<0
 ·rw[a7 s0];exact⟨ac,h [] ae⟩
 rw[a6 s0];unfold a42;rw[aU];walk_at "u";refine⟨sq,rfl,aa,Sm.pow sqb ac,λg g0 g1=> ?_⟩
 unfold a41;dsimp only;rw[aU];walk_at "u";refine⟨cmL aa aa,?_⟩
 by_cases c:g*g=sq
 ·rw[a6 λz=>z c,wK _ ac,wK _ ac]
  have pp:=par (t:=t) (g:=g) (m:=m) (by rw[c,esq])
  refine⟨⟨ac,bQ7 ac ac⟩,⟨ac,bQ7 ac ac⟩,ac,?_⟩
  refine h [(t+g)/2,(t-g)/2] λu hu=> ?_
  have:4*(u*(t-u))=4*m:=by
   rcases aS.mp hu with rfl|hu
   ·obtain⟨y,hy⟩: ∃y,(t+g)/2=y:=⟨_,rfl⟩;have:g=2*y-t:=aa
    rw[hy];rw[this]at c
    grind
   ·rw[iR.mp hu];obtain⟨y,hy⟩: ∃y,(t-g)/2=y:=⟨_,rfl⟩;have:g=t-2*y:=aa
    rw[hy];rw[this]at c
    grind
  omega
 ·rw[a7 c];exact⟨ac,h [] ae⟩
def cS3 (g:UG)(tb:US)(E:UD)(b:B)(ρ1:Ev):Prop:=match mC b.d with
 | some l=> ∃Pv:Nat->Ev->Prop,Pv 0 ρ1/\(∀i ρ,i<l.length->Pv i ρ->g (.pu<|l.getD i .non) ρ λρ2=>tb {E with nx:=Pv (i+1),ct:=Pv (i+1),bk:=E.nx} ρ2)/\ ∀ρ,Pv l.length ρ->E.nx ρ
 | none=>False
theorem b35 {φ:Φ}{t:UA}{g:UG}{tb:US}{E:UD}{ρ:Ev}:kI (iL<|aP φ t) g tb E ρ=t ρ λds ρ1=>φ ds λb=>cS3 g tb E b ρ1:=rfl
theorem aT0 {g:UG}{tb:US}{E:UD}{ρ1:Ev}(l:List Int)(Pv:Nat->Ev->Prop)(h0:Pv 0 ρ1)(hs: ∀i ρ,i<l.length->Pv i ρ->g (.pu<|.int<|l.getD i 0) ρ λρ2=>tb {E with nx:=Pv (i+1),ct:=Pv (i+1),bk:=E.nx} ρ2)(hd: ∀ρ,Pv l.length ρ->E.nx ρ):cS3 g tb E (.ow<|l.map .int) ρ1:=by
 show ∃Pv:Nat->Ev->Prop,Pv 0 ρ1/\(∀i ρ,i< (l.map D.int).length->Pv i ρ->g (.pu<|(l.map D.int).getD i .non) ρ λρ2=>tb {E with nx:=Pv (i+1),ct:=Pv (i+1),bk:=E.nx} ρ2)/\ ∀ρ,Pv (l.map D.int).length ρ->E.nx ρ
 rw[aH];refine⟨Pv,h0,λi ρ hi hp=> ?_,hd⟩
 have e3:(l.map D.int).getD i .non= .int (l.getD i 0):=by
  rw[aI,bI,aJ hi,aI,aJ hi];rfl
 rw[e3];exact hs i ρ hi hp
theorem bE5 {l:List Int}{i:Nat}(hi:i<l.length):l.getD i 0∈l:=by rw[aI,aJ hi];exact dO hi
def kA:Φ:=λds Q=> ∃a b c d:Int,ds=[aX [a,b,c,d,1]]/\(∀x∈[a,b,c,d],x.natAbs<=499)/\a≠0/\Q (.pu .non)/\((∃v u w s,[a,b,c,d,1]=qq v u w s)-> ∀x y,Q<|.pu<|.tup [x,y])
def kB:US:=(aV (kI (iL<|aP qA<|a9 (uIx (aO 0)<|uC<|.int 0) aK) (cR 1)<|aV (cE 2<|uOp b79 (uIx (aO 0)<|uC<|.int 0)<|aC 1)<|kI (iL<|aP vH<|a9 (uIx (aO 0)<|uC<|.int 3)<|a9 (uOp M.gSub (uOp M.gSub (uIx (aO 0)<|uC<|.int 2)<|aC 1)<|aC 2) aK) (cR 3)<|aV (cE 4<|uOp M.gSub (uIx (aO 0)<|uC<|.int 3)<|aC 3)<|gH (cQ<|uOp (j2 false) (uOp jU (uOp j9 (aC 3)<|aC 2)<|uOp j9 (aC 1)<|aC 4)<|uIx (aO 0)<|uC<|.int 1) (dE<|gF<|a9 (gF<|a9 (aC 1)<|a9 (aC 3)<|a9 (uC<|.int 1) aK)<|a9 (gF<|a9 (aC 2)<|a9 (aC 4)<|a9 (uC<|.int 1) aK) aK) dZ)<|dE<|uC .non)
theorem cF6 {u t m:Int}(h:u*(t-u)=m)(ht:t.natAbs<=2^20)(hm:m.natAbs<=2^20):u.natAbs<=2^20:=by
 by_cases c:t-u=0
 ·have:u=t:=ad
  rw[this];exact ht
 ·have h1:m.natAbs=u.natAbs*(t-u).natAbs:=by rw[<-h,gL]
  have h2:u.natAbs*1<=u.natAbs*(t-u).natAbs:=i5 _ ad
  lia
theorem a10: ∀ds Q,kA ds Q->kB {nx:=λ_=>Q (.pu .non),rt:=Q} (init ["p","v","w","u","s"] ds):=by
 rintro ds Q ⟨a,b,c,d,rfl,hs,a0,hn,hy⟩;simp only[aE2]at hs;obtain⟨ha,hb,hc,hd,_⟩:=hs;have p20:(2:Nat)^20=1048576:=ac
 unfold kB;show(aV _ _:US) _ [some<|.pu<|.tup [.int a,.int b,.int c,.int d,.int 1],none,none,none,none];have i0:atI [D.int a,.int b,.int c,.int d,.int 1] 0=some (.int a):=cD (j:=0) rfl;have i1:atI [D.int a,.int b,.int c,.int d,.int 1] 1=some (.int b):=cD (j:=1) rfl;have i2:atI [D.int a,.int b,.int c,.int d,.int 1] 2=some (.int c):=cD (j:=2) rfl
 have i3:atI [D.int a,.int b,.int c,.int d,.int 1] 3=some (.int d):=cD (j:=3) rfl;rw[aU,b35];walk_at "u";rw[i0];refine⟨a,rfl,ha,λl _ lb=> ?_⟩
 refine aT0 l (λi ρ=> ∃z1 z2 z3 z4,ρ=[some<|.pu<|.tup [.int a,.int b,.int c,.int d,.int 1],z1,z2,z3,z4]) ⟨none,none,none,none,rfl⟩ ?_ ?_
 ·rintro i ρ hi ⟨z1,z2,z3,z4,rfl⟩;obtain⟨vd,vb⟩:=lb _ (bE5 hi);generalize l.getD i 0=v at vb vd;obtain⟨w,rfl⟩:=vd;have v0:v≠0:=λz=>a0 (by rw[z,iA])
  have wb:w.natAbs<=499:=by
   rw[gL]at ha;have:1*w.natAbs<=v.natAbs*w.natAbs:=sK _ ad
   lia
  refine⟨ae,?_⟩
  show(aV _ _:US) _ [some<|.pu<|.tup [.int<|v*w,.int b,.int c,.int d,.int 1],some<|.pu<|.int v,z2,z3,z4]
  rw[aU,yP];walk_at "u";rw[i0];dsimp only;rw[Int.mul_fdiv_cancel_left _ v0];refine⟨⟨v0,bQ7 ad ad⟩,?_⟩
  rw[b35];walk_at "u";rw[i3,i2];dsimp only;refine⟨d,c-v-w,rfl,ad,ad,λus hus=> ?_⟩
  refine aT0 us (λj ρ=> ∃z3 z4,ρ=[some<|.pu<|.tup [.int<|v*w,.int b,.int c,.int d,.int 1],some<|.pu<|.int v,some<|.pu<|.int w,z3,z4]) ⟨_,_,rfl⟩ ?_ ?_
  ·rintro j ρ hj ⟨z3,z4,rfl⟩;have um:=hus _ (bE5 hj);generalize us.getD j 0=u at um;have ub:=cF6 um ad ad
   refine⟨ae,?_⟩
   show(aV _ _:US) _ [some<|.pu<|.tup [.int<|v*w,.int b,.int c,.int d,.int 1],some<|.pu<|.int v,some<|.pu<|.int w,some<|.pu<|.int u,z4]
   rw[aU];walk_at "u";rw[i3];dsimp only;rw[i1];refine⟨cmL ad ad,cmL ad ad,?_⟩
   dsimp only
   by_cases q:u*w+v*(d-u)=b
   ·rw[a7 q];refine⟨ac,ac,ac,hy ⟨v,u,w,d-u,?_⟩ _ _⟩
    unfold qq;rw[<-q];have e1:v+w+u*(d-u)=c:=by rw[um];lia
    have e2:u+(d-u)=d:=ad
    rw[e1,e2]
   ·rw[a6 q];exact⟨_,_,rfl⟩
  ·rintro ρ ⟨z3,z4,rfl⟩;exact⟨_,_,_,_,rfl⟩
 ·rintro ρ ⟨z1,z2,z3,z4,rfl⟩;walk_at "u";exact hn
def aH1:Φ:=λds Q=> ∃p:List Int,ds=[aX p]/\gD p/\Q (.pu .non)/\(Red p-> ∀x y,Q<|.pu<|.tup [x,y])
def qP:US:=(tI 1)
def a44:US:=(aV (gH (b78 (cQ<|b83 false<|aC 1)<|cQ<|uOp (j2 false) (gN<|aO 0)<|uC<|.int 5) (cE 1<|aP kA<|a9 (aC 0) aK) dZ) qP)
def aT1:US:=(aV (cE 1<|aP nE<|a9 (aC 0) aK) a44)
def aH2:US:=(aV (aK2<|aP gU<|a9 (aC 0) aK) aT1)
theorem c30: ∀ds Q,aH1 ds Q->aH2 {nx:=λ_=>Q (.pu .non),rt:=Q} (init ["p","q"] ds):=by
 rintro ds Q ⟨p,rfl,hp,hn,hy⟩;unfold aH2;show(aV _ _:US) _ [some<|.pu<|.tup<|p.map .int,none];rw[aU];walk_at "u";refine⟨p,rfl,hp,?_⟩;try dsimp only
 unfold aT1;rw[aU];walk_at "u";refine⟨p,rfl,hp,λnr=> ?_,λred x y=> ?_⟩
 ·try dsimp only
  unfold a44;rw[aU];walk_at "u";rw[aH]
  by_cases c:(p.length:Int)=5
  ·simp only[c,cF];have sm:=hp.ok.small;rcases hp.cs with⟨a,b,rfl⟩| ⟨a,b,c',rfl⟩| ⟨a,b,c',d,rfl⟩
   ·simp at c
   ·simp at c
   ·simp only[aE2]at sm;refine⟨a,b,c',d,rfl,by simp only[aE2];exact⟨sm.1,sm.2.1,sm.2.2.1,sm.2.2.2.1,ae⟩,nr,?_,λq x y=> ?_⟩
    ·unfold qP;walk_at "u";exact hn
    ·unfold qP;walk_at "u";exact hy (.inr q) _ _
  ·simp only[c,cF,dQ];unfold qP;walk_at "u";exact hn
 ·try dsimp only
  unfold a44;rw[aU];walk_at "u";unfold qP;walk_at "u";exact hy (.inl red) _ _
noncomputable def fOf (p:List Int):Nat->Int:=λj=>p.getD j 0
theorem gD.rf {p:List Int}(h:gD p):RF (p.length-1) (fOf p):=by
 have lo:=h.ok.lo;have hi:=h.ok.hi;refine⟨aa,aa,?_,λj hj=> ?_,λj=> ?_⟩
 ·obtain⟨q,rfl⟩:=h.one;show(q++[1]).getD _ 0=1;rw[cU,aI,sG ae]
  simp
 ·show p.getD j 0=0
  rw[aI,oQ aa]
  rfl
 ·exact aT (iD h.ok.small j) ac
theorem gD.row {p:List Int}(h:gD p):aX p=aX (rwF (p.length-1+1)<|fOf p):=by
 have lo:=h.ok.lo;have e:=c26 p;rw[show p.length-1+1=p.length by omega]
 exact bP aX e
def a45:Φ:=λds Q=> ∃(r:List Int) (k:Int),ds=[aX r,.int k]/\r.length<=1000/\ -1000<=k/\k<=1000/\Q (.pu<|aX<|r++replicate (k-(r.length:Int)).toNat 0)
def a46:US:=(dE<|uOp jU (aC 0)<|uOp c73 (gF<|a9 (uC<|.int 0) aK)<|uOp M.gSub (aC 1)<|gN<|aO 0)
theorem bS6: ∀ds Q,a45 ds Q->a46 {nx:=λ_=>Q (.pu .non),rt:=Q} (init ["r","s"] ds):=by
 rintro ds Q ⟨r,k,rfl,hr,k0,k1,h⟩;unfold a46;simp only[aX];show(dE _:US) _ [some<|.pu<|.tup<|r.map .int,some<|.pu<|.int k];walk_at "u";rw[aH];have e:(replicate (k-(r.length:Int)).toNat [D.int 0]).flatten=(replicate (k-(r.length:Int)).toNat 0).map D.int:=bQ8 _ _;rw[e,<-cN];refine⟨ac,⟨ae,ad,ad,aT (show 1*(k-(r.length:Int)).toNat<=1000 by lia) ac⟩,?_,h⟩
 rw[aH,List.length_replicate];exact aT (show r.length+(k-(r.length:Int)).toNat<=3000 by lia) ac
def j0:ΦX:=λds Q Ex=> ∃p:List Int,ds=[aX p]/\gD p/\Q (.pu .non)/\(Red p-> ∀es,Ex "FallsApart" es)
def lW:USX:=(λEx=>aV ((λ_=>(cE 1<|aP aH1<|a9 (aC 0) aK)) Ex) ((λEx=>gH (cQ<|b83 true<|aC 1) ((aK7 "FallsApart" (uIx (aO 1)<|uC<|.int 0)<|uIx (aO 1)<|uC<|.int 1) Ex) ((λ_=>dZ) Ex)) Ex))
theorem a47: ∀ds Q Ex,j0 ds Q Ex->ds.length=1:=by rintro ds Q Ex ⟨p,rfl,_⟩;rfl
theorem aA0: ∀ds Q Ex,j0 ds Q Ex->lW Ex {nx:=λ_=>Q (.pu .non),rt:=Q} (init ["p","q"] ds):=by
 rintro ds Q Ex ⟨p,rfl,rp,h0,h1⟩;unfold lW;dsimp only;show(aV _ _:US) _ [some<|.pu<|aX p,none];rw[aU];walk_at "u";refine⟨p,rfl,rp,?_,λred x y=> ?_⟩
 ·walk_at "u"
  simpa using h0
 ·walk_at "u"
  simp only[at0,at1];exact h1 red _
def Wh (n:Nat)(f:Nat->Int)(size:Int):Prop:= ∃xf,SPs n f size xf/\ ∀p∈prL,sqB size p=true->c29 n f p (xf p)
def lH:ΦX:=λds Q Ex=> ∃(p:List Int) (size:Int),ds=[aX p,.int size]/\gD p/\(Wh (p.length-1) (fOf p) size->Q (.pu .non))/\((∃q g,d44 (p.length-1) (fOf p) size q g)-> ∀es,Ex "NotWhole" es)
def pO:USX:=(λEx=>aV ((λ_=>(cE 2<|aP rC<|a9 (aC 0)<|a9 (aP nY<|a9 (aC 0)<|a9 (aC 1) aK) aK)) Ex) ((λEx=>gH (cQ<|b83 true<|aC 2) ((λEx=>aV ((λ_=>(cC9 (aC 2)<|rL<|fB 3<|fB 4 rK)) Ex) ((aK7 "NotWhole" (aC 3)<|aP a45<|a9 (aP fO<|a9 (gC [3] [none,some 3,none] 2 (iL<|aC 4) (cR 0) (λρ Q=>Q true ρ)<|uOp oE (aC 0)<|aC 1) aK)<|a9 (uOp M.gSub (gN<|aO 0)<|uC<|.int 1) aK) Ex)) Ex) ((λ_=>dZ) Ex)) Ex))
theorem aL8: ∀ds Q Ex,lH ds Q Ex->ds.length=2:=by rintro ds Q Ex ⟨p,size,rfl,_⟩;rfl
theorem aQ3: ∀ds Q Ex,lH ds Q Ex->pO Ex {nx:=λ_=>Q (.pu .non),rt:=Q} (init ["p","s","o","q","f"] ds):=by
 rintro ds Q Ex ⟨p,size,rfl,rp,h0,h1⟩;have rf:=rp.rf;rw[rp.row];generalize p.length-1=n at *;generalize fOf p=f at *;unfold pO;dsimp only;show(aV _ _:US) _ [some<|.pu<|aX<|rwF (n+1) f,some<|.pu<|.int size,none,none,none];rw[aU];walk_at "u";refine⟨n,f,size,rfl,rf,λxf hP=>⟨n,f,size,xf,rfl,rf,hP,λfine=> ?_,λq g outs=> ?_⟩⟩
 ·walk_at "u"
  simpa using h0 ⟨xf,hP,fine⟩
 ·have pp:=yT outs.pr;have p2:=pp.lo;have p3:=pp.hi;have ql:(d45 n f g).length<=5:=by
   unfold d45;rw[a88];have:=rS (divQ g.2 g.1 (n+1-g.1) f) (n+1-g.1);have:=rf.n4
   lia
  generalize d45 n f g=r at *;simp only[aX];walk_at "u";refine⟨ac,ac,trivial,?_⟩
  refine fG (t0:=0) r.length (λk=>(r.map D.int).getD k .non) [some<|.pu<|.tup<|(rwF (n+1) f).map .int,some<|.pu<|.int size,some<|.pu<|.tup [.int q,.tup<|r.map .int],some<|.pu<|.int q,some<|.pu<|.tup<|r.map .int] (λQ' q=> ?_) ad (λx l'=>[x,some<|.pu<|.int q,some<|.ow l']) none rfl (λ_ _ _=>rfl) (λ_ _=>cY _) (λ_ _ _ q=>q) (λ_ _ _=>rfl) (λk=> .int (r.getD k 0%q)) ?_ ?_
  ·walk_at "u"
   rw[aH];exact q
  ·intro k l' Q' hk q';have e3:(r.map D.int).getD k .non= .int (r.getD k 0):=by
    rw[aI,bI,aI,aJ hk];rfl
   rw[e3]at q'⊢;walk_at "u";refine⟨ad,?_⟩
   rw[dY _ ad]
   exact q'
  ·have e4:(List.range r.length).map (λk=>D.int (r.getD k 0%q))=((List.range r.length).map λk=>r.getD k 0%q).map D.int:=by rw[fA];rfl
   rw[e4];have n4:=rf.n4;walk_at "u";refine⟨_,_,rfl,by rw[aH,sP];lia,?_,?_,h1 ⟨q,g,outs⟩ _⟩
   ·rw[bH];lia
   ·rw[bH];lia
structure cS4 (p:List Int):Prop where
 rp:gD p
 irr: ¬Red p
 meas:(iM 4<|cG p).natAbs<=39999
 whole: ¬ ∃q g,d44 (p.length-1) (fOf p) (iM 4<|cG p) q g
def mI:ΦM:=λds Q Ex=> ∃p:List Int,ds=[aX p]/\gD p/\((iM 4<|cG p).natAbs<=39999->Wh (p.length-1) (fOf p) (iM 4<|cG p)->Q [aX p,.int<|(p.length:Int)-1,.int<|iM 4<|cG p])/\(Red p-> ∀es,Ex "FallsApart" es)/\(¬cS4 p->Ex "TooGreat" []/\ ∀es,Ex "NotWhole" es)
def b36:USX:=(λEx=>aV ((λ_=>(aK2<|aP gU<|a9 (aC 1) aK)) Ex) ((λEx=>aV ((λEx=>aK2 (bH7 j0 (a9 (aC 1) aK) Ex)) Ex) ((λEx=>aV ((λ_=>(cE 2<|aP yW<|a9 (aC 1) aK)) Ex) ((λEx=>aV ((λEx=>gH (cQ<|uOp (nB λi j=>decide (j<i)) (aP cL7<|a9 (aC 2) aK)<|uC<|.int 39999) ((bH8 "TooGreat"<|a9 (uC<|.str "a ring's measure is from -39,999 to 39,999") aK) Ex) ((λ_=>dZ) Ex)) Ex) ((λEx=>aK2 (bH7 lH (a9 (aC 1)<|a9 (aC 2) aK) Ex)) Ex)) Ex)) Ex)) Ex))
def b37:UE:=(aC 1)
def b38:UE:=(uOp M.gSub (gN<|aO 1)<|uC<|.int 1)
def b39:UE:=(aC 2)
theorem cF7: ∀ds Q Ex,mI ds Q Ex->ds.length+1=2:=by rintro ds Q Ex ⟨p,rfl,_⟩;rfl
theorem cS5: ∀a ds Q Ex,mI ds Q Ex->b36 Ex {nx:=λρ=>ρ[0]? =some (some<|.pu<|.adr a)/\b37 ρ λb1 ρ1=>b38 ρ1 λb2 ρ2=>b39 ρ2 λb3 _=>Q [b1.d,b2.d,b3.d],rt:=λ_=>False} (init ["s","p","m"] (.adr a::ds)):=by
 rintro a ds Q Ex ⟨p,rfl,rp,h0,hr,h1⟩;have lo:=rp.ok.lo;unfold b36;dsimp only;show(aV _ _:US) _ [some<|.pu<|.adr a,some<|.pu<|aX p,none];rw[aU];walk_at "u";refine⟨p,rfl,rp,?_⟩;walk_at "u";refine⟨p,rfl,rp,?_,hr⟩;refine⟨p,rfl,rp,?_⟩;walk_at "u"
 by_cases c:(39999:Int)< (if iM 4 (cG p)<0 then -iM 4 (cG p)else iM 4 (cG p))
 ·rw[a7 c];refine⟨ac,(h1 λz=> ?_).1⟩
  have:=z.meas;split at c<;>omega
 ·rw[a6 c];have me:(iM 4<|cG p).natAbs<=39999:=by split at c<;>omega
  refine⟨p,iM 4<|cG p,rfl,rp,λwh=>⟨trivial,?_⟩,λo=>(h1 λz=>z.whole o).2⟩
  unfold b37 b38 b39;simp only[aX];walk_at "u";rw[aH];exact h0 me wh
noncomputable def bJ4 (r:List Int)(m:Int):Bool:=r.any λc=>decide (c%m≠0)
noncomputable def cS6 (p:List Int)(size:Int):Bool:=prL.all λq=>decide (size%(q*q)≠0)||
 ((List.range q.toNat).all (λc=>bJ4 (jC (p.length-1) (fOf p)<|fP (c:Int)) (q*q))&&
   (decide (p.length≠5)||(List.range q.toNat).all λv=>(List.range q.toNat).all λu=>bJ4 (jC (p.length-1) (fOf p)<|quF (v:Int) (u:Int)) (q*q)))
theorem aQ4 {p:Int}{F:Nat×(Nat->Int)}(mp:MP p F.1 F.2)(h1:F.1=1):F=fP (F.2 0):=by
 refine fX h1 (funext λj=> ?_)
 show F.2 j=if j=0 then F.2 0 else if j=1 then 1 else 0
 by_cases c0:j=0
 ·rw[a7 c0,c0]
 ·by_cases c1:j=1
  ·rw[a6 c0,a7 c1,c1];have:=mp.top;rw[h1]at this;exact this
  ·rw[a6 c0,a6 c1];exact mp.hi j ad
theorem aL9 {r:List Int}{m:Int}(h: ∀c∈r,c%m=0):bJ4 r m=false:=by
 unfold bJ4;rw[aF3];intro c hc;simp[h c hc]
theorem cS7 {p:List Int}{size:Int}(rp:gD p)(h:cS6 p size=true): ¬ ∃q g,d44 (p.length-1) (fOf p) size q g:=by
 rintro⟨q,g,o⟩;have lo:=rp.ok.lo;have hi:=rp.ok.hi;have pp:=yT o.pr;have h1:=cX.mp h q o.pr;rw[xU,dN]at h1;have nz: ¬decide (size%(q*q)≠0)=true:=by rw[fS];exact λz=>z o.sq
 obtain⟨h2,h3⟩:=h1.resolve_left nz;obtain⟨R,mR,e⟩:=o.tw;have dg:p.length-1=g.1+g.1+R.1:=bP Prod.fst e;have g1:=o.g1
 by_cases c1:g.1=1
 ·have eg:=aQ4 o.mg c1;have r0:=o.mg.rng 0;have h4:=cX.mp h2 (g.2 0).toNat (dW.mpr ad)
  rw[show(((g.2 0).toNat:Nat):Int)=g.2 0 by lia,<-eg,aL9 o.all]at h4
  cases h4
 ·have c2:g.1=2:=ad
  have eg:=bI9 o.mg c2;have r0:=o.mg.rng 0;have r1:=o.mg.rng 1;have n5: ¬decide (p.length≠5)=true:=by rw[fS];lia
  have h4:=(xU _ _▸h3).resolve_left n5;have h5:=cX.mp (cX.mp h4 (g.2 0).toNat<|dW.mpr ad) (g.2 1).toNat (dW.mpr ad)
  rw[show(((g.2 0).toNat:Nat):Int)=g.2 0 by lia,show(((g.2 1).toNat:Nat):Int)=g.2 1 by lia,<-eg,aL9 o.all]at h5
  cases h5
noncomputable def a48:List (List Int):=[[5,0,1],[-10,0,1],[6,1,1],[-3,0,1],[-1,-1,0,1],[-2,0,0,1],[-1,4,0,1],[1,0,0,0,1],[-1,-1,0,0,1],[1,1,1,1,1],[-2,0,0,0,1],[1,0,-1,0,1]]
noncomputable def vJ:List (List Int):=a48++[[-1,-14,-11,1]]
theorem kx {p:List Int}(h:p∈a48):p∈vJ:=jG _ h
theorem bS7:vJ.all (λp=>cS6 p (iM 4<|cG p)&&decide ((iM 4<|cG p).natAbs<=39999))=true:=af
theorem nG: ∀p∈vJ,gD p:=by
 intro p hp;have h:vJ.all (λp=>decide (3<=p.length)&&decide (p.length<=5)&&p.all (λx=>decide (x.natAbs<=499))&&decide (p=p.dropLast++[1]))=true:=af
 have h1:=cX.mp h p hp;simp only[dN,fS,cX]at h1;exact⟨⟨h1.1.1.1,h1.1.1.2,h1.1.2⟩,p.dropLast,h1.2⟩
theorem c89 (f:Nat->Int)(z:Int): ∀n,∃k,ps f z (n+1)=f 0+z*k
 | 0=>⟨0,by show 0+f 0*z^0=_;rw[fV,kW,bJ];lia⟩
 | n+1=>by
  obtain⟨k,hk⟩:=c89 f z n;refine⟨k+f (n+1)*z^n,?_⟩;show ps f z (n+1)+f (n+1)*z^(n+1)=_;rw[hk,kU]
  grind
theorem aH3 {z a:Int}(h:z∣a)(ha:a≠0):z.natAbs<=a.natAbs:=Nat.le_of_dvd ad (Int.natAbs_dvd_natAbs.mpr h)
theorem bJ5:vJ.all (λp=>decide (p.getD 0 0≠0)&&decide ((p.getD 0 0).natAbs<=10)&&(List.range 21).all λk=>decide (ev p ((k:Int)-10)≠0))=true:=af
theorem c31:vJ.all (λp=>decide (p.length≠5)||(decide ((p.getD 0 0).natAbs<=2)&&decide ((p.getD 2 0).natAbs<=1)&&decide ((p.getD 3 0).natAbs<=1)&&
  (List.range 5).all λv=>(List.range 5).all λw=>(List.range 7).all λu=>(List.range 9).all λs=>decide (p≠qq ((v:Int)-2) ((u:Int)-3) ((w:Int)-2) ((s:Int)-4))))=true:=af
theorem cS8 {u s:Int}(h1:(u+s).natAbs<=1)(h2:(u*s).natAbs<=5):u.natAbs<=3:=by
 refine wZ λz=> ?_
 rcases(show 4<=u\/u<= -4 by lia)with c|c
 ·have:4*3<=u*(-s):=Int.mul_le_mul c ad ac ad
  rw[Int.mul_neg]at this
  lia
 ·have:4*3<=(-u)*s:=Int.mul_le_mul ad ad ac ad
  rw[Int.neg_mul]at this
  lia
theorem cF8: ∀p∈vJ,¬Red p:=by
 intro p hp;have h1:=cX.mp bJ5 p hp;simp only[dN,fS,cX,dW]at h1;obtain⟨⟨a0,a1⟩,a2⟩:=h1;have lo:=(nG p hp).ok.lo;rintro(⟨z,hz⟩| ⟨v,u,w,s,e⟩)
 ·unfold ev at hz;obtain⟨k,hk⟩:=c89 (λj=>p.getD j 0) z (p.length-1)
  rw[show p.length-1+1=p.length by omega,hz]at hk
  have dv:z∣p.getD 0 0:=⟨-k,by rw[Int.mul_neg];omega⟩
  have:=aH3 dv a0;refine a2 (z+10).toNat aa ?_
  rw[show(((z+10).toNat:Nat):Int)-10=z by omega]
  exact hz
 ·have h2:=cX.mp c31 p hp;have l5:p.length=5:=by rw[e];rfl
  rw[xU]at h2;have h3:=h2.resolve_left (by rw[fS];omega)
  simp only[dN,fS,cX,dW]at h3;obtain⟨⟨⟨b0,b2⟩,b3⟩,b4⟩:=h3;have e0:p.getD 0 0=v*w:=by rw[e];rfl
  have e2:p.getD 2 0=v+w+u*s:=by rw[e];rfl
  have e3:p.getD 3 0=u+s:=by rw[e];rfl
  have v2:=aH3 (z:=v) ⟨w,e0⟩ a0;have w2:=aH3 (z:=w) ⟨v,by rw[e0,t9]⟩ a0
  rw[e2]at b2;rw[e3]at b3;have u3:=cS8 b3 aa
  refine b4 (v+2).toNat aa (w+2).toNat aa (u+3).toNat aa (s+4).toNat aa ?_
  rw[show(((v+2).toNat:Nat):Int)-2=v by omega,show(((w+2).toNat:Nat):Int)-2=w by omega,show(((u+3).toNat:Nat):Int)-3=u by omega,show(((s+4).toNat:Nat):Int)-4=s by omega]
  exact e
theorem aM0: ∀p∈vJ,cS4 p:=by
 intro p hp;have h1:=cX.mp bS7 p hp;simp only[dN,fS]at h1;exact⟨nG p hp,cF8 p hp,h1.2,cS7 (nG p hp) h1.1⟩
noncomputable def nO (C:Addr)(p:List Int):D:= .obj C ["poly","degree","measure"] [aX p,.int<|(p.length:Int)-1,.int<|iM 4<|cG p]
theorem bE6 {ρ:Ev}{i:Nat}{C:Addr}{p:List Int}{Q:B->Ev->Prop}(h:ρ[i]? =some (some<|.pu<|nO C p)):bH9 "poly" (aC i) ρ Q=Q (.pu<|aX p) ρ:=by
 unfold bH9;rw[c82 h];rfl
theorem b40 (row:List Int)(s:Int): ∀k,(aQ0 row s k).length=row.length
 | 0=>rfl
 | k+1=>by unfold aQ0;rw[dU];exact b40 row s k
theorem c90 (p:List Int)(s:Int): ∀k,(shK p s k).length=p.length
 | 0=>rfl
 | k+1=>by unfold shK;rw[b40];exact c90 p s k
theorem cS9 {n k:Nat}(h:k<n):ixN n (k:Int)=some k:=by
 unfold ixN;rw[a7 ad,a7 ad,eM]
theorem cT0 (l:List Int)(k:Nat)(x:Int):(l.map D.int).set k (.int x)=(l.set k x).map D.int:=by rw[List.map_set]
def yY:Φ:=λds Q=> ∃(p:List Int) (s:Int),ds=[aX p,.int s]/\3<=p.length/\p.length<=5/\s.natAbs<=3/\Q (.pu<|aX<|shK p s<|p.length-1)
def aH4:US:=(aV (cE 2<|aP a83<|a9 (aC 0) aK)<|aV (kI (kG<|a9 (uOp M.gSub (gN<|aO 2)<|uC<|.int 1) aK) (cR 3)<|kI (bC9<|a9 (uOp M.gSub (gN<|aO 2)<|uC<|.int 2)<|a9 (uOp M.gSub (aC 3)<|uC<|.int 1)<|a9 (jA<|uC<|.int 1) aK) (cR 4)<|bC1 2 (uOp jU (uIx (aO 2)<|aC 4)<|uOp j9 (aC 1)<|uIx (aO 2)<|uOp jU (aC 4)<|uC<|.int 1)<|aC 4)<|dE<|aP fO<|a9 (aC 2) aK)
theorem c32: ∀ds Q,yY ds Q->aH4 {nx:=λ_=>Q (.pu .non),rt:=Q} (init ["p","s","r","l","a"] ds):=by
 rintro ds Q ⟨p,s,rfl,h3,h5,hs,h⟩;have lp:(p.map D.int).length=p.length:=aH _;unfold aH4;show(aV _ _:US) _ [some<|.pu<|.tup<|p.map .int,some<|.pu<|.int s,none,none,none];walk_at "u";refine bV (p.length-1) (λi=> .int (0+i)) [some<|.pu<|.tup<|p.map .int,some<|.pu<|.int s,some<|.ow<|p.map .int,none,none] ?_
  (λi ρ=> ∃x y,ρ=[some<|.pu<|.tup<|p.map .int,some<|.pu<|.int s,some<|.ow<|(shK p s i).map .int,x,y]) ⟨none,none,rfl⟩ ?_ ?_
 ·intro Q' q;simp only[kG];walk_at "u";rw[lp];refine⟨ad,?_⟩
  rw[show((p.length:Int)-1).toNat=p.length-1 by lia]
  exact q
 ·rintro i ρ hi ⟨x,y,rfl⟩;have lk:=c90 p s i;have e1:shK p s (i+1)=aQ0 (shK p s i) s (p.length-1-i):=rfl;rw[e1];generalize shK p s i=row at lk;have lrow:(row.map D.int).length=row.length:=aH _;walk_at "u";refine⟨ac,?_⟩
  refine bV (p.length-1-i) (λk=> .int ((p.length:Int)-2-k)) [some<|.pu<|.tup<|p.map .int,some<|.pu<|.int s,some<|.ow<|row.map .int,some<|.pu<|.int<|0+(i:Int),y] ?_
   (λk ρ=> ∃y,ρ=[some<|.pu<|.tup<|p.map .int,some<|.pu<|.int s,some<|.ow<|(aQ0 row s k).map .int,some<|.pu<|.int<|0+(i:Int),y]) ⟨y,rfl⟩ ?_ ?_
  ·intro Q' q;simp only[bC9];walk_at "u";rw[lrow,lk];refine⟨trivial,ad,?_⟩
   rw[show((p.length:Int)-2-(0+(i:Int)-1)).toNat=p.length-1-i by lia]
   exact q
  ·rintro k ρ hk ⟨y,rfl⟩;have l2:=b40 row s k;walk_at "u";refine⟨ac,?_⟩
   have a1:(p.length:Int)-2-(k:Int)=((p.length-2-k:Nat):Int):=ad
   have a2:((p.length-2-k:Nat):Int)+1=((p.length-1-k:Nat):Int):=ad
   rw[a1,a2,a31<|show p.length-2-k< (aQ0 row s k).length by lia,a31<|show p.length-1-k< (aQ0 row s k).length by lia]
   dsimp only;rw[cS9 (show p.length-2-k< ((aQ0 row s k).map D.int).length by rw[aH];lia)]
   refine⟨cmL ad ad,some<|.pu<|.int ((p.length-2-k:Nat):Int),?_⟩
   rw[cT0];rw[<-lk];rfl
  ·rintro ρ ⟨y,rfl⟩;exact⟨_,_,rfl⟩
 ·rintro ρ ⟨x,y,rfl⟩;walk_at "u";exact h
def vK:Φ:=λds Q=> ∃c:Int,ds=[.int c]/\ ∀p∈a48,Q (.pu<|aX p)
def a49:US:=(dE<|uIx (aO 1)<|uOp oE (aP a29<|a9 (aC 0)<|a9 (uC<|.int 3)<|a9 (uC<|.int 998244353) aK)<|uC<|.int 12)
def a50:US:=(aV (cE 1<|uOp jU (aC 1)<|lD<|a9 (gF<|a9 (uC<|.int 1)<|a9 (uC<|.int 0)<|a9 (uC<|.int 0)<|a9 (uC<|.int 0)<|a9 (uC<|.int 1) aK)<|a9 (gF<|a9 (jA<|uC<|.int 1)<|a9 (jA<|uC<|.int 1)<|a9 (uC<|.int 0)<|a9 (uC<|.int 0)<|a9 (uC<|.int 1) aK)<|a9 (gF<|a9 (uC<|.int 1)<|a9 (uC<|.int 1)<|a9 (uC<|.int 1)<|a9 (uC<|.int 1)<|a9 (uC<|.int 1) aK)<|a9 (gF<|a9 (jA<|uC<|.int 2)<|a9 (uC<|.int 0)<|a9 (uC<|.int 0)<|a9 (uC<|.int 0)<|a9 (uC<|.int 1) aK)<|a9 (gF<|a9 (uC<|.int 1)<|a9 (uC<|.int 0)<|a9 (jA<|uC<|.int 1)<|a9 (uC<|.int 0)<|a9 (uC<|.int 1) aK) aK) a49)
def vL:US:=(aV (cE 1<|lD<|a9 (gF<|a9 (uC<|.int 5)<|a9 (uC<|.int 0)<|a9 (uC<|.int 1) aK)<|a9 (gF<|a9 (jA<|uC<|.int 10)<|a9 (uC<|.int 0)<|a9 (uC<|.int 1) aK)<|a9 (gF<|a9 (uC<|.int 6)<|a9 (uC<|.int 1)<|a9 (uC<|.int 1) aK)<|a9 (gF<|a9 (jA<|uC<|.int 3)<|a9 (uC<|.int 0)<|a9 (uC<|.int 1) aK)<|a9 (gF<|a9 (jA<|uC<|.int 1)<|a9 (jA<|uC<|.int 1)<|a9 (uC<|.int 0)<|a9 (uC<|.int 1) aK)<|a9 (gF<|a9 (jA<|uC<|.int 2)<|a9 (uC<|.int 0)<|a9 (uC<|.int 0)<|a9 (uC<|.int 1) aK)<|a9 (gF<|a9 (jA<|uC<|.int 1)<|a9 (uC<|.int 4)<|a9 (uC<|.int 0)<|a9 (uC<|.int 1) aK) aK) a50)
theorem cT1 {k:Int}(h0:0<=k)(h1:k<12): ∃p∈a48,atI (a48.map aX) k=some (aX p):=by
 obtain⟨i,rfl⟩: ∃i:Nat,k=(i:Int):=⟨k.toNat,ad⟩
 have hi:i<a48.length:=show i<12 by lia
 exact⟨a48[i],dO hi,cD (by rw[bI,aJ hi];rfl)⟩
theorem b91: ∀ds Q,vK ds Q->vL {nx:=λ_=>Q (.pu .non),rt:=Q} (init ["c","k"] ds):=by
 rintro ds Q ⟨c,rfl,h⟩;unfold vL;show(aV _ _:US) _ [some<|.pu<|.int c,none];rw[aU];walk_at "u";refine⟨ac,ac,ac,ac,ac,ac,ac,ac,?_⟩
 unfold a50;rw[aU];walk_at "u";refine⟨ac,ac,ac,ac,ac,ac,ac,?_⟩
 unfold a49;walk_at "u";refine⟨c,3,998244353,rfl,ac,ac,ac,λr r0 r1=> ?_⟩
 walk_at "u"
 refine⟨ac,?_⟩
 rw[dY _ ac]
 obtain⟨p,hp,e⟩:=cT1 (cM r<|show(12:Int)≠0 by decide) (cV r<|show(0:Int)<12 by decide)
 have e': ∀l:List D,l=a48.map aX->(match atI l (r%12)with|some x=>Q (.pu x)|none=>False):=λl hl=>by
  rw[hl,e];exact h p hp
 exact e' _ rfl
def bJ6:Φ:=λds Q=> ∃c q:Int,ds=[.int c,.int q]/\0<q/\ ∀p,gD p->Q (.pu<|aX p)
def Wh' (p:List Int):Prop:=Wh (p.length-1) (fOf p) (iM 4<|cG p)
def bJ7:Φ:=λds Q=> ∃(ns:List Int) (k:Nat) (q:Int),ds=[.rol<|ns.map .int,.int (k:Int),.int q]/\ns.length<=63/\k<=1000/\0<q/\ ∀C p,gD p->Wh' p->Q (.pu<|nO C p)
def b41:US:=(tI 3)
def bS8:US:=(aV (gH (cQ<|b83 false<|aC 3) (cE 3<|b13 ["poly","degree","measure"] mI<|a9 (aP vK<|a9 (aP aK9<|a9 (aC 0)<|a9 (aC 1) aK) aK) aK) dZ) b41)
def bS9:US:=(aV (kI (kG<|a9 (uC<|.int 3) aK) (cR 4)<|gH (cQ<|b83 false<|aC 3) (cQ1 3 ["poly","degree","measure"] mI (a9 (aP bJ6<|a9 (aP aK9<|a9 (aC 0)<|a9 (uOp jU (aC 1)<|aC 4) aK)<|a9 (aC 2) aK) aK) ["FallsApart","TooGreat","NotWhole"]<|cE 3<|uC .non) dZ) bS8)
def bJ8:US:=(aV (cE 3<|uC .non) bS9)
theorem d53: ∀ds Q,bJ7 ds Q->bJ8 {nx:=λ_=>Q (.pu .non),rt:=Q} (init ["s","k","q","f","j"] ds):=by
 rintro ds Q ⟨ns,k,q,rfl,hl,hk,hq,h⟩;unfold bJ8;show(aV _ _:US) _ [some<|.pu<|.rol<|ns.map .int,some<|.pu<|.int (k:Int),some<|.pu<|.int q,none,none];rw[aU];walk_at "u";unfold bS9;rw[aU];refine bV 3 (λi=> .int (0+i)) [some<|.pu<|.rol<|ns.map .int,some<|.pu<|.int (k:Int),some<|.pu<|.int q,some<|.pu .non,none] (λQ' q=> ?_)
  (λi ρ=> ∃d x,ρ=[some<|.pu<|.rol<|ns.map .int,some<|.pu<|.int (k:Int),some<|.pu<|.int q,some<|.pu d,x]/\(d= .non\/ ∃C p,gD p/\Wh' p/\d=nO C p)) ⟨.non,none,rfl,.inl rfl⟩ ?_ ?_
 ·walk_at "u"
  exact⟨ac,q⟩
 ·rintro i ρ hi ⟨d,x,rfl,hd⟩;refine⟨ae,?_⟩
  rcases hd with rfl| ⟨C,p,rp,wh,rfl⟩
  ·walk_at "u"
   unfold cQ1;walk_at "u";refine⟨ns,(k:Int)+(0+(i:Int)),rfl,hl,ad,ad,λc=>⟨c,q,rfl,hq,λp rp=> ?_⟩⟩
   walk_at "u"
   refine⟨p,rfl,rp,λ_ wh C=>⟨nO C p,some<|.pu<|.int<|0+(i:Int),rfl,.inr ⟨C,p,rp,wh,rfl⟩⟩,λ_ _=>⟨ae,.non,_,rfl,.inl rfl⟩,λ_=>⟨⟨ae,.non,_,rfl,.inl rfl⟩,λ_=>⟨ae,.non,_,rfl,.inl rfl⟩⟩⟩
  ·simp only[nO];walk_at "u";exact⟨nO C p,_,rfl,.inr ⟨C,p,rp,wh,rfl⟩⟩
 ·rintro ρ ⟨d,x,rfl,hd⟩;dsimp only;unfold bS8;rw[aU];rcases hd with rfl| ⟨C,p,rp,wh,rfl⟩
  ·walk_at "u"
   unfold b13;walk_at "u";refine⟨ns,(k:Int),rfl,hl,ad,ad,λc=>⟨c,rfl,λp hp=> ?_⟩⟩
   walk_at "u"
   refine⟨p,rfl,nG p<|kx hp,λ_ wh C=> ?_,λred=>absurd red (aM0 p<|kx hp).irr,λz=>absurd (aM0 p<|kx hp) z⟩
   unfold b41;walk_at "u";exact h C p (nG p<|kx hp) wh
  ·simp only[nO];walk_at "u";unfold b41;walk_at "u";exact h C p rp wh
def bT0:US:=(dE<|aP yY<|a9 (gF<|a9 (uOp M.gSub (uIx (aO 4)<|uC<|.int 2)<|uC<|.int 3)<|a9 (uOp M.gSub (uIx (aO 4)<|uC<|.int 3)<|uC<|.int 3)<|a9 (uOp M.gSub (uIx (aO 4)<|uC<|.int 4)<|uC<|.int 3)<|a9 (uOp M.gSub (uIx (aO 4)<|uC<|.int 6)<|uC<|.int 3)<|a9 (uC<|.int 1) aK)<|a9 (uOp M.gSub (uIx (aO 4)<|uC<|.int 5)<|uC<|.int 2) aK)
def bT1:US:=(aV (cE 4<|aP qL<|a9 (aC 0)<|a9 (lD<|a9 (uC<|.int 3)<|a9 (uC<|.int 8)<|a9 (uC<|.int 7)<|a9 (uC<|.int 7)<|a9 (uC<|.int 7)<|a9 (uC<|.int 5)<|a9 (uC<|.int 7) aK)<|a9 (aC 1) aK) bT0)
def bT2:US:=(aV (gH (cQ<|uOp (j2 false) (uIx (aO 2)<|uC<|.int 0)<|uC<|.int 1) (dE<|aP yY<|a9 (gF<|a9 (uOp M.gSub (uIx (aO 4)<|uC<|.int 2)<|uC<|.int 4)<|a9 (uOp M.gSub (uIx (aO 4)<|uC<|.int 3)<|uC<|.int 4)<|a9 (uOp M.gSub (uIx (aO 4)<|uC<|.int 4)<|uC<|.int 4)<|a9 (uC<|.int 1) aK)<|a9 (uOp M.gSub (uIx (aO 4)<|uC<|.int 5)<|uC<|.int 2) aK) dZ) bT1)
def bT3:US:=(aV (gH (cQ<|uOp (j2 false) (uIx (aO 2)<|uC<|.int 0)<|uC<|.int 0) (aV (cE 4<|aP qL<|a9 (aC 0)<|a9 (lD<|a9 (uC<|.int 3)<|a9 (uC<|.int 8)<|a9 (uC<|.int 161)<|a9 (uC<|.int 41) aK)<|a9 (aC 1) aK)<|dE<|gF<|a9 (uOp M.gSub (uIx (aO 4)<|uC<|.int 2)<|uC<|.int 80)<|a9 (uOp M.gSub (uIx (aO 4)<|uC<|.int 3)<|uC<|.int 20)<|a9 (uC<|.int 1) aK) dZ) bT2)
def b42:US:=(aV (cE 4<|aP qL<|a9 (aC 0)<|a9 (lD<|a9 (uC<|.int 3)<|a9 (uC<|.int 8)<|a9 (uC<|.int 9)<|a9 (uC<|.int 9)<|a9 (uC<|.int 9)<|a9 (uC<|.int 5)<|a9 (uC<|.int 7) aK)<|a9 (aC 1) aK) bT3)
def bT4:US:=(aV (gH (cQ<|uOp (j2 false) (uIx (aO 2)<|uC<|.int 1)<|uC<|.int 7) (dE<|aP fO<|a9 (uOp jU (gC [] [none,none] 1 (iL<|aC 3) (cR 0) (λρ Q=>Q true ρ)<|uOp M.gSub (aC 0)<|uC<|.int 499)<|lD<|a9 (uC<|.int 1) aK) aK) dZ) b42)
def bT5:US:=(aV (cE 3<|uSl (uV<|aP qL<|a9 (aC 0)<|a9 (lD<|a9 (uC<|.int 3)<|a9 (uC<|.int 8)<|a9 (uC<|.int 999)<|a9 (uC<|.int 999)<|a9 (uC<|.int 999)<|a9 (uC<|.int 999) aK)<|a9 (aC 1) aK) (wF<|uC<|.int 2)<|wF<|uOp jU (uIx (aO 2)<|uC<|.int 0)<|uC<|.int 4) bT4)
def bJ9:US:=(aV (cE 2<|aP qL<|a9 (aC 0)<|a9 (lD<|a9 (uC<|.int 3)<|a9 (uC<|.int 8) aK)<|a9 (aC 1) aK) bT5)
theorem rp_two {a b:Int}(ha:a.natAbs<=499)(hb:b.natAbs<=499):gD [a,b,1]:=⟨⟨ae,ae,λx hx=>by
 simp only[aS,eO,eT]at hx;rcases hx with rfl|rfl|rfl<;>lia⟩,[a,b],rfl⟩
theorem nba {x y:Int}{m k:Nat}(hx:x.natAbs<=m)(hy:y.natAbs<=k):(x+y).natAbs<=m+k:=aT (xL x y) (Nat.add_le_add hx hy)
theorem nbm {x y:Int}{m k:Nat}(hx:x.natAbs<=m)(hy:y.natAbs<=k):(x*y).natAbs<=m*k:=by rw[gL];exact iU hx hy
theorem nbl {x:Int}{m k:Nat}(h:decide (m<=k)=true)(hx:x.natAbs<=m):x.natAbs<=k:=aT hx (kQ h)
theorem nbc (n:Nat):((n:Nat):Int).natAbs<=n:=aB n
theorem rp_sh3 {a b c s:Int}(ha:a.natAbs<=4)(hb:b.natAbs<=4)(hc:c.natAbs<=4)(hs:s.natAbs<=2):gD (shK [a,b,c,1] s 3):=by
 rw[she3];refine⟨⟨by simp[sh3],by simp[sh3],λx hx=> ?_⟩,_,rfl⟩
 simp only[sh3,List.cons_append,xR,aS,eO,eT]at hx;have s2:=nbm hs hs;have s3:=nbm s2 hs;rcases hx with rfl|rfl|rfl|rfl
 ·exact nbl rfl (nba (nba (nba ha<|nbm hs hb)<|nbm s2 hc) s3)
 ·exact nbl rfl (nba (nba hb<|nbm (nbm (nbc 2) hs) hc)<|nbm (nbm (nbc 3) hs) hs)
 ·exact nbl rfl (nba hc<|nbm (nbc 3) hs)
 ·decide
theorem rp_sh4 {a b c d s:Int}(ha:a.natAbs<=3)(hb:b.natAbs<=3)(hc:c.natAbs<=3)(hd:d.natAbs<=3)(hs:s.natAbs<=2):gD (shK [a,b,c,d,1] s 4):=by
 rw[she4];refine⟨⟨by simp[sh4],by simp[sh4],λx hx=> ?_⟩,_,rfl⟩
 simp only[sh4,List.cons_append,xR,aS,eO,eT]at hx;have s2:=nbm hs hs;have s3:=nbm s2 hs;rcases hx with rfl|rfl|rfl|rfl|rfl
 ·exact nbl rfl (nba (nba (nba (nba ha<|nbm hs hb)<|nbm s2 hc)<|nbm s3 hd)<|nbm s3 hs)
 ·exact nbl rfl (nba (nba (nba hb<|nbm (nbm (nbc 2) hs) hc)<|nbm (nbm (nbm (nbc 3) hs) hs) hd)<|nbm (nbm (nbm (nbc 4) hs) hs) hs)
 ·exact nbl rfl (nba (nba hc<|nbm (nbm (nbc 3) hs) hd)<|nbm (nbm (nbc 6) hs) hs)
 ·exact nbl rfl (nba hd<|nbm (nbc 4) hs)
 ·decide
theorem d54 {ws:List Int}(h2:2<=ws.length)(h4:ws.length<=4)(hb: ∀w∈ws,0<=w/\w<999):gD (ws.map (λw=>w-499)++[1]):=by
 refine⟨⟨by rw[cU,aH];show 3<=ws.length+1;lia,by rw[cU,aH];show ws.length+1<=5;lia,λx hx=> ?_⟩,_,rfl⟩
 rcases bS.mp hx with hx|hx
 ·obtain⟨w,hw,rfl⟩:=fT.mp hx;have:=hb w hw
  lia
 ·rw[iR.mp hx];decide
theorem cF9 (c q a b:Int)(ws:List Int)(h4:ws.length<=4)(Q:B->Prop)(h:Q (.pu<|aX<|ws.map (λw=>w-499)++[1])) :
  (dE (aP fO<|a9 (uOp jU (gC [] [none,none] 1 (iL<|aC 3) (cR 0) (λρ Q=>Q true ρ)<|uOp M.gSub (aC 0)<|uC<|.int 499)<|lD<|a9 (uC<|.int 1) aK) aK):US) {nx:=λ_=>Q (.pu .non),rt:=Q} [some<|.pu<|.int c,some<|.pu<|.int q,some<|.ow [.int a,.int b],some<|.ow<|ws.map .int,none]:=by
 rw[mJ,gS,gT,cQ8];refine fG (t0:=0) ws.length (λk=>(ws.map D.int).getD k .non) [some<|.pu<|.int c,some<|.pu<|.int q,some<|.ow [.int a,.int b],some<|.pu<|.lst<|ws.map .int,none] (λQ' q=> ?_) ad (λx l'=>[x,some<|.ow l']) none rfl (λ_ _ _=>rfl) (λ_ _=>cY _) (λ_ _ _ q=>q) (λ_ _ _=>rfl) (λk=> .int (ws.getD k 0-499)) ?_ ?_
 ·walk_at "u"
  rw[aH];exact q
 ·intro k l' Q' hk q';have e3:(ws.map D.int).getD k .non= .int (ws.getD k 0):=by
   rw[aI,bI,aI,aJ hk];rfl
  rw[e3]at q'⊢;walk_at "u";exact q'
 ·have e4:(List.range ws.length).map (λk=>D.int (ws.getD k 0-499))=(ws.map λw=>w-499).map D.int:=by
   apply mT
   ·simp
   ·intro i h1 h2;simp at h1;simp[aI,h1]
  rw[e4];walk_at "u";have e5:(ws.map λw=>w-499).map D.int++[D.int 1]=(ws.map (λw=>w-499)++[1]).map D.int:=by rw[cN];rfl
  rw[e5];refine⟨ac,?_,h⟩
  rw[aH,aH];exact aT (show ws.length+(0+1)<=5 by lia) ac
theorem cT2 (c q a b:Int)(w:Option B)(a0:0<=a)(a1:a<3)(hq:0<q)(Q:B->Prop)(h: ∀p,gD p->Q (.pu<|aX p)) :
  b42 {nx:=λ_=>Q (.pu .non),rt:=Q} [some<|.pu<|.int c,some<|.pu<|.int q,some<|.ow [.int a,.int b],w,none]:=by
 unfold b42;rw[aU];walk_at "u";refine⟨ac,c,[3,8,9,9,9,5,7],q,rfl,ac,hq,ac,λxs hx=> ?_⟩
 obtain⟨x0,x1,x2,x3,x4,x5,x6,rfl⟩: ∃x0 x1 x2 x3 x4 x5 x6,xs=[x0,x1,x2,x3,x4,x5,x6]:=by
  match xs,hx.1 with
  | [x0,x1,x2,x3,x4,x5,x6],_=>exact⟨x0,x1,x2,x3,x4,x5,x6,rfl⟩
 have b2:=hx.2 2 x2 9 rfl rfl;have b3:=hx.2 3 x3 9 rfl rfl;have b4:=hx.2 4 x4 9 rfl rfl;have b5:=hx.2 5 x5 5 rfl rfl;simp only[bW,jO];unfold bT3;rw[aU];walk_at "u";rw[a30];dsimp only
 by_cases c0:a=0
 ·rw[a7 c0];refine⟨ac,c,[3,8,161,41],q,rfl,ac,hq,ac,λys hy=> ?_⟩
  obtain⟨y0,y1,y2,y3,rfl⟩: ∃y0 y1 y2 y3,ys=[y0,y1,y2,y3]:=by
   match ys,hy.1 with
   | [y0,y1,y2,y3],_=>exact⟨y0,y1,y2,y3,rfl⟩
  have k2:=hy.2 2 y2 161 rfl rfl;have k3:=hy.2 3 y3 41 rfl rfl;simp only[bW,jO]
  (try walk_at "u")
  rw[show atI [D.int y0,.int y1,.int y2,.int y3] 2=some (.int y2)from cD (j:=2) rfl,show atI [D.int y0,.int y1,.int y2,.int y3] 3=some (.int y3)from cD (j:=3) rfl]
  dsimp only;exact⟨ac,h [y2-80,y3-20,1]<|rp_two ad ad⟩
 rw[a6 c0];have t2:atI [D.int x0,.int x1,.int x2,.int x3,.int x4,.int x5,.int x6] 2=some (.int x2):=cD (j:=2) rfl;have t3:atI [D.int x0,.int x1,.int x2,.int x3,.int x4,.int x5,.int x6] 3=some (.int x3):=cD (j:=3) rfl;have t4:atI [D.int x0,.int x1,.int x2,.int x3,.int x4,.int x5,.int x6] 4=some (.int x4):=cD (j:=4) rfl
 have t5:atI [D.int x0,.int x1,.int x2,.int x3,.int x4,.int x5,.int x6] 5=some (.int x5):=cD (j:=5) rfl;unfold bT2;rw[aU];walk_at "u";rw[a30];dsimp only
 by_cases c1:a=1
 ·rw[a7 c1,t2,t3,t4,t5];dsimp only;exact⟨ac,[x2-4,x3-4,x4-4,1],x5-2,rfl,ae,ae,ad,h _<|rp_sh3 ad ad ad ad⟩
 rw[a6 c1];unfold bT1;rw[aU];walk_at "u";refine⟨ac,c,[3,8,7,7,7,5,7],q,rfl,ac,hq,ac,λys hy=> ?_⟩
 obtain⟨y0,y1,y2,y3,y4,y5,y6,rfl⟩: ∃x0 x1 x2 x3 x4 x5 x6,ys=[x0,x1,x2,x3,x4,x5,x6]:=by
  match ys,hy.1 with
  | [x0,x1,x2,x3,x4,x5,x6],_=>exact⟨x0,x1,x2,x3,x4,x5,x6,rfl⟩
 have k2:=hy.2 2 y2 7 rfl rfl;have k3:=hy.2 3 y3 7 rfl rfl;have k4:=hy.2 4 y4 7 rfl rfl;have k5:=hy.2 5 y5 5 rfl rfl;have k6:=hy.2 6 y6 7 rfl rfl;simp only[bW,jO];unfold bT0;walk_at "u"
 rw[show atI [D.int y0,.int y1,.int y2,.int y3,.int y4,.int y5,.int y6] 2=some (.int y2)from cD (j:=2) rfl,show atI [D.int y0,.int y1,.int y2,.int y3,.int y4,.int y5,.int y6] 3=some (.int y3)from cD (j:=3) rfl,show atI [D.int y0,.int y1,.int y2,.int y3,.int y4,.int y5,.int y6] 4=some (.int y4)from cD (j:=4) rfl,show atI [D.int y0,.int y1,.int y2,.int y3,.int y4,.int y5,.int y6] 5=some (.int y5)from cD (j:=5) rfl,show atI [D.int y0,.int y1,.int y2,.int y3,.int y4,.int y5,.int y6] 6=some (.int y6)from cD (j:=6) rfl]
 dsimp only;exact⟨ac,[y2-3,y3-3,y4-3,y6-3,1],y5-2,rfl,ae,ae,ad,h _<|rp_sh4 ad ad ad ad ad⟩
theorem d55: ∀ds Q,bJ6 ds Q->bJ9 {nx:=λ_=>Q (.pu .non),rt:=Q} (init ["c","q","d","w","f"] ds):=by
 rintro ds Q ⟨c,q,rfl,hq,h⟩;unfold bJ9;show(aV _ _:US) _ [some<|.pu<|.int c,some<|.pu<|.int q,none,none,none];rw[aU];walk_at "u";refine⟨ac,c,[3,8],q,rfl,ac,hq,ac,λxs hx=> ?_⟩
 obtain⟨a,b,rfl⟩: ∃a b,xs=[a,b]:=by
  match xs,hx.1 with
  | [a,b],_=>exact⟨a,b,rfl⟩
 have ba:=hx.2 0 a 3 rfl rfl;simp only[bW,jO];unfold bT5;rw[aU];walk_at "u";refine⟨ac,c,[3,8,999,999,999,999],q,rfl,ac,hq,ac,λys hy=> ?_⟩
 obtain⟨y0,y1,y2,y3,y4,y5,rfl⟩: ∃x0 x1 x2 x3 x4 x5,ys=[x0,x1,x2,x3,x4,x5]:=by
  match ys,hy.1 with
  | [x0,x1,x2,x3,x4,x5],_=>exact⟨x0,x1,x2,x3,x4,x5,rfl⟩
 have k2:=hy.2 2 y2 999 rfl rfl;have k3:=hy.2 3 y3 999 rfl rfl;have k4:=hy.2 4 y4 999 rfl rfl;have k5:=hy.2 5 y5 999 rfl rfl;simp only[bW,jO]
 (try walk_at "u")
 rw[a30];dsimp only;obtain⟨ws,ew,w2,w4,wb⟩: ∃ws:List Int,cutD [D.int y0,.int y1,.int y2,.int y3,.int y4,.int y5] (some 2) (some<|a+4)=ws.map D.int/\2<=ws.length/\ws.length<=4/\ ∀w∈ws,0<=w/\w<999:=by
  rcases(show a=0\/a=1\/a=2 by lia)with rfl|rfl|rfl
  ·exact⟨[y2,y3],rfl,ae,ae,by simp;lia⟩
  ·exact⟨[y2,y3,y4],rfl,ae,ae,by simp;lia⟩
  ·exact⟨[y2,y3,y4,y5],rfl,ae,ae,by simp;lia⟩
 rw[ew];unfold bT4;rw[aU,d36];walk_at "u";rw[at1];dsimp only
 by_cases cb:b=7
 ·rw[a7 cb];exact cF9 c q a b ws w4 Q (h _<|d54 w2 w4 wb)
 ·rw[a6 cb];exact cT2 c q a b _ ba.1 ba.2 hq Q h
def c33:US:=(aV (gH (uOr (a96<|cQ<|aP b80<|a9 (aC 0)<|a9 (uC<|.ty "tuple") aK)<|cQ<|uOp (j2 true) (gN<|aO 0)<|aC 1) (dE<|uC<|.bl false) dZ)<|dE<|aP b00<|a9 (gC [] [none,none] 1 (iL<|aC 0) (cR 0) (λρ Q=>Q true ρ)<|aP wL<|a9 (aC 0) aK) aK)
def bK0:Φ:=λds Q=> ∃(r:List Int),ds=[aX r,.int (r.length:Int)]/\r.length<=1000/\Q (.pu<|.bl true)
theorem rd_row: ∀ds Q,bK0 ds Q->c33 {nx:=λ_=>Q (.pu .non),rt:=Q} (init ["f","m"] ds):=by
 rintro ds Q ⟨r,rfl,hl,h⟩;unfold c33;simp only[aX];show(aV _ _:US) _ [some<|.pu<|.tup<|r.map .int,some<|.pu<|.int (r.length:Int)];rw[aU];have two:(dE (aP b00<|a9 (gC [] [none,none] 1 (iL<|aC 0) (cR 0) (λρ Q=>Q true ρ)<|aP wL<|a9 (aC 0) aK) aK):US) {nx:=λ_=>Q (.pu .non),rt:=Q} [some<|.pu<|.tup<|r.map .int,some<|.pu<|.int (r.length:Int)]:=by
  rw[mJ,gS,gT];refine fG (t0:=0) r.length (λk=>(r.map D.int).getD k .non) [some<|.pu<|.tup<|r.map .int,some<|.pu<|.int (r.length:Int)] ?_ ad (λx l=>[x,some<|.ow l]) none rfl (λ_ _ _=>rfl) (λ_ _=>cY _) (λ_ _ _ q=>q) (λ_ _ _=>rfl) (λ_=> .bl true) ?_ ?_
  ·intro Q' q;walk_at "u";rw[aH];exact q
  ·intro k l Q' hk q;obtain⟨z,hz⟩:=cQ5 (ys:=r) (i:=k) (by rw[aH];exact hk)
   rw[hz]at q⊢;walk_at "u";exact⟨z,rfl,q⟩
  ·walk_at "u"
   have e:(List.range r.length).map (λ_=>D.bl true)=(replicate r.length true).map D.bl:=by apply mT<;>simp
   rw[e,iY];dsimp only;have e2:(replicate r.length true).all id=true:=ae
   rw[e2];exact h
 walk_at "u"
 simp only[aH,Bool.not_true,decide_true,aE9,dQ];exact two
theorem aM1 {ρ:Ev}{i:Nat}{C:Addr}{p:List Int}{Q:B->Ev->Prop}(h:ρ[i]? =some (some<|.pu<|nO C p)):bH9 "measure" (aC i) ρ Q=Q (.pu<|.int<|iM 4<|cG p) ρ:=by
 unfold bH9;rw[c82 h];rfl
theorem p6:(2:Nat)^600<=2^1000:=oS ac ac
theorem Pr.no_zero {p:Int}(pp:Pr p){a b:Int}(h:a*b%p=0):a%p=0\/b%p=0:=by
 have p2:=pp.lo
 by_cases c:a%p=0
 ·exact .inl c
 ·refine .inr ?_
  have a0:=cM a (show p≠0 by lia)
  have a1:=cV a (show 0<p by lia)
  have iv:=pp.inv (a%p) ad a1
  generalize b26 (a%p) p (p.toNat-2)=t at iv;have e:b%p=(t*(a%p))%p*b%p:=by rw[iv,yA]
  rw[e,emL,kT,<-emR,emL a b p,h,bJ,cB]
theorem c34 {p:Int}(p2:2<=p)(a:Nat×(Nat->Int))(z:Int):va p a z%p=va p a z:=iW _ _
theorem c91 {p:Int}{a g:Nat×(Nat->Int)}(hg: ∀j,g.1<j->g.2 j=0){z:Int}(h:va p a z=0\/va p g z=0): ∀k,(va p a z=0\/1<=k)->va p (powT p a g k) z=0
 | 0,hk=>by
  rcases hk with hk|hk
  ·exact hk
  ·omega
 | k+1,_=>by
  show va p (tm p (powT p a g k) g) z=0
  rw[c86 hg];rcases h with h|h
  ·rw[c91 hg (.inl h) k<|.inl h,iA,cB]
  ·rw[h,bJ,cB]
theorem c92 {p:Int}(pp:Pr p){a g:Nat×(Nat->Int)}(hg: ∀j,g.1<j->g.2 j=0){z:Int}(h:va p a z≠0)(h2:va p g z≠0): ∀k,va p (powT p a g k) z≠0
 | 0=>h
 | k+1=>by
  show va p (tm p (powT p a g k) g) z≠0
  rw[c86 hg];intro e;rcases pp.no_zero e with e|e
  ·rw[c34 pp.lo]at e;exact c92 pp hg h h2 k e
  ·rw[c34 pp.lo]at e;exact h2 e
theorem aX7 {p:Int}(pp:Pr p){z:Int}: ∀(l:List ((Nat×(Nat->Int))×Nat)) (a:Nat×(Nat->Int)),(∀x∈l,∀j,x.1.1<j->x.1.2 j=0)->va p a z≠0->(∀x∈l,va p x.1 z≠0)->va p (allT p a l) z≠0
 | [],a,_,h,_=>h
 | y::l,a,hl,h,h2=>aX7 pp l (powT p a y.1 y.2) (λx hx=>hl x (b6 _ hx)) (c92 pp (hl y<|aW ..) h (h2 y<|aW ..) _) λx hx=>h2 x (b6 _ hx)
theorem c35 {p:Int}(p2:2<=p){g:Nat×(Nat->Int)}(mg:MP p g.1 g.2)(h1:g.1=1)(z:Int):va p g z=(z+g.2 0)%p:=by
 have e:g.2 1=1:=by have:=mg.top;rw[h1]at this;exact this
 unfold va;rw[h1];show(0+g.2 0*z^0+g.2 1*z^1)%p=_;rw[e,fV,Int.pow_one]
 congr 1
 lia
def aV1 (q:Int)(F:Nat×(Nat->Int))(c:Int)(k:Nat):Prop:= ∃H:Nat×(Nat->Int),MP q H.1 H.2/\F=powT q H (fP c) k/\va q H (-c)≠0
theorem b43 {p c:Int}(p2:2<=p){a b:Nat×(Nat->Int)}(ma:MP p a.1 a.2)(mb:MP p b.1 b.2)(h:tm p a (fP c)=tm p b (fP c)):a=b:=by
 have d:a.1=b.1:=by
  have:=bP Prod.fst h;show a.1=b.1;have e:a.1+1=b.1+1:=this
  lia
 have f: ∀m,(c*a.2 m+(if m=0 then 0 else a.2 (m-1)))%p=(c*b.2 m+(if m=0 then 0 else b.2 (m-1)))%p:=λm=>by
  have:=congrFun (bP Prod.snd h) m;have e:conv a.2 (fP c).2 (a.1+1) m%p=conv b.2 (fP c).2 (b.1+1) m%p:=this;rw[aL4 c ma.z,aL4 c mb.z]at e;exact e
 have down: ∀(t m:Nat),a.1+1-m=t->a.2 m=b.2 m:=by
  intro t
  induction t with
  | zero=>
   intro m hm;rw[ma.hi m ad,mb.hi m ad]
  | succ t ih=>
   intro m hm;have i1:=ih (m+1) ad
   have e:=f (m+1);rw[a6 ad,a6 ad,jJ,i1]at e
   have e2:=Int.emod_emod_of_dvd;have r1:=ma.rng m;have r2:=mb.rng m;have e3:(a.2 m-b.2 m)%p=0:=by
    have:=t7 (c*b.2 (m+1)+a.2 m) (c*b.2 (m+1)+b.2 m) p;rw[e,Int.sub_self,cB]at this;rw[<-this]
    congr 1
    lia
   obtain⟨k,hk⟩:=bZ e3;have k0:k=0:=by
    rcases xM k 0 with z|z|z
    ·have:p*k<=p*(-1):=kJ ad ad
     lia
    ·exact z
    ·have:p*1<=p*k:=kJ ad ad
     lia
   rw[k0,bJ]at hk
   lia
 exact fX d (funext λm=>down _ m rfl)
theorem aV1.uniq {q c:Int}(pq:Pr q){F:Nat×(Nat->Int)}(c0:0<=c)(c1:c<q){k l:Nat}(h:aV1 q F c k)(h2:aV1 q F c l):k=l:=by
 have q2:=pq.lo;have ml:=MP.lin q2 c0 c1;have lz:va q (fP c) (-c)=0:=by
  rw[c35 q2 ml rfl];show(-c+c)%q=0;rw[show -c+c=0 by lia,cB]
 have main: ∀(k l:Nat) (H G:Nat×(Nat->Int)),MP q H.1 H.2->MP q G.1 G.2->va q H (-c)≠0->powT q H (fP c) k=powT q G (fP c) l->l<=k:=by
  intro k
  induction k with
  | zero=>
   intro l H G mH mG hv e;cases l with
   | zero=>exact aB _
   | succ l=>
    refine absurd ?_ hv
    rw[show H=powT q G (fP c) (l+1)from e]
    exact c91 ml.hi (.inr lz) _ (.inr ad)
  | succ k ih=>
   intro l H G mH mG hv e;cases l with
   | zero=>exact d6 _
   | succ l=>
    have:=ih l H G mH mG hv (b43 q2 (MP.powT q2 mH ml k) (MP.powT q2 mG ml l) e)
    lia
 obtain⟨H,mH,e1,v1⟩:=h;obtain⟨G,mG,e2,v2⟩:=h2;have a:=main k l H G mH mG v1 (e1.symm.trans e2);have b:=main l k G H mG mH v2 (e2.symm.trans e1)
 lia
noncomputable def hb (r q:Int)(f:Nat->Int)(m:Nat):Nat->Int
 | 0=>0
 | k+1=>(hb r q f m k*r+f (m-k))%q
theorem d56 {p:Int}(p2:2<=p){g:Nat×(Nat->Int)}(mg:MP p g.1 g.2){l:List ((Nat×(Nat->Int))×Nat)}{a:Nat×(Nat->Int)}(ma:MP p a.1 a.2)(hl: ∀x∈l,MP p x.1.1 x.1.2):allT p (tm p a g) l=tm p (allT p a l) g:=by
 rw[yV ma.hi mg.hi,wP p2 l ma hl,yV mg.hi (MP.allT p2 l ma hl).hi]
theorem aM2 {p:Int}(p2:2<=p){g:Nat×(Nat->Int)}(mg:MP p g.1 g.2){l:List ((Nat×(Nat->Int))×Nat)}{a:Nat×(Nat->Int)}(ma:MP p a.1 a.2)(hl: ∀x∈l,MP p x.1.1 x.1.2): ∀k,allT p (powT p a g k) l=powT p (allT p a l) g k
 | 0=>rfl
 | k+1=>by
  show allT p (tm p (powT p a g k) g) l=tm p (powT p (allT p a l) g k) g
  rw[d56 p2 mg (MP.powT p2 ma mg k) hl,aM2 p2 mg ma hl k]
theorem c93: ∀r:List Int,ltL r r=false
 | []=>rfl
 | a::r=>by unfold ltL;rw[a7 rfl];exact c93 r
theorem a51 {x y:(Nat×(Nat->Int))×Nat}(h:ltP x y):x.1≠y.1:=by
 intro e;unfold ltP at h;rw[e]at h;rcases h with h|h
 ·lia
 ·rw[c93]at h;exact absurd h.2 ac
theorem bT6 {q c:Int}(pq:Pr q)(c0:0<=c)(c1:c<q){g:Nat×(Nat->Int)}(mg:MP q g.1 g.2)(d1:1<=g.1)(nr:2<=g.1->NoR q g)(h:g≠fP c):va q g (-c)≠0:=by
 have q2:=pq.lo
 by_cases d2:g.1=1
 ·rw[c35 q2 mg d2];intro z;have r:=mg.rng 0;obtain⟨k,hk⟩:=bZ z;have k0:k=0:=by
   rcases xM k 0 with z|z|z
   ·have:q*k<=q*(-1):=kJ ad ad
    lia
   ·exact z
   ·have:q*1<=q*k:=kJ ad ad
    lia
  rw[k0,bJ]at hk;refine h ?_;rw[aQ4 mg d2,show g.2 0=c by lia]
 ·have:=nr ad c.toNat ad
  rw[aE6 c0]at this;exact this
theorem aX8 {q c:Int}(pq:Pr q){F:Nat×(Nat->Int)}(mF:MP q F.1 F.2){xs:List ((Nat×(Nat->Int))×Nat)}(sp:SP q F xs)(c0:0<=c)(c1:c<q) :
  (∀x∈xs,x.1=fP c->aV1 q F c x.2)/\((∀x∈xs,x.1≠fP c)->aV1 q F c 0):=by
 have q2:=pq.lo;have mx: ∀x∈xs,MP q x.1.1 x.1.2:=λx hx=>(sp.mem x hx).1
 have nz: ∀x∈xs,x.1≠fP c->va q x.1 (-c)≠0:=λx hx h=>bT6 pq c0 c1 (mx x hx) (sp.mem x hx).2.1 (sp.mem x hx).2.2.2.2.2.1 h
 have v1:va q bQ (-c)≠0:=by
  show(0+(if 0=0 then(1:Int)else 0)*(-c)^0)%q≠0
  rw[a7 rfl,fV,kW,d5,cW ac ad]
  decide
 refine⟨λx hx e=> ?_,λh=>⟨F,mF,rfl,?_⟩⟩
 ·obtain⟨l1,l2,rfl⟩:=aF2 hx;have od:=sp.ord;rw[xF,iS]at od;have m1: ∀y∈l1,MP q y.1.1 y.1.2:=λy hy=>mx y (bS.mpr<|.inl hy)
  have m2: ∀y∈l2,MP q y.1.1 y.1.2:=λy hy=>mx y (bS.mpr<|.inr<|b6 _ hy)
  have mA:=MP.allT q2 l1 (MP.one q2) m1;refine⟨allT q (allT q bQ l1) l2,MP.allT q2 l2 mA m2,?_,?_⟩
  ·rw[<-sp.prod,gZ];show allT q (powT q (allT q bQ l1) x.1 x.2) l2=_;rw[aM2 q2 (mx x hx) mA m2,e]
  ·rw[<-gZ];refine aX7 pq _ _ (λy hy=> ?_) v1 λy hy=> ?_
   ·rcases bS.mp hy with hy|hy
    ·exact(m1 y hy).hi
    ·exact(m2 y hy).hi
   ·rcases bS.mp hy with hy|hy
    ·exact nz y (bS.mpr<|.inl hy) λz=>a51 (od.2.2 y hy x<|aW ..) (z.trans e.symm)
    ·exact nz y (bS.mpr<|.inr<|b6 _ hy) λz=>a51 (od.2.1.1 y hy) (e.trans z.symm)
 ·rw[<-sp.prod];exact aX7 pq xs bQ (λy hy=>(mx y hy).hi) v1 λy hy=>nz y hy (h y hy)
noncomputable def dA (c b:Int):Int:=b*b-4*c
noncomputable def dB (d c b:Int):Int:=b*b*c*c-4*c*c*c-4*b*b*b*d-27*d*d+18*b*c*d
noncomputable def dC (e d c b:Int):Int:= -27*b*b*b*b*e*e+18*b*b*b*c*d*e-4*b*b*b*d*d*d-4*b*b*c*c*c*e+b*b*c*c*d*d+144*b*b*c*e*e-6*b*b*d*d*e-80*b*c*c*d*e+18*b*c*d*d*d-192*b*d*e*e+16*c*c*c*c*e-4*c*c*c*d*d-128*c*c*e*e+144*c*d*d*e-27*d*d*d*d+256*e*e*e
theorem hank4 (e d c b:Int):iM 4 (cG [e,d,c,b,1])=dC e d c b:=by
 have h:=id4 e d c b;have h2:27*dC e d c b=27*iM 4 (cG [e,d,c,b,1]):=by
  rw[h];unfold dC
  grind
 lia
theorem dB_lin (r u v:Int):dB (r*v) (v+r*u) (u+r)=dA v u*((r*r-u*r+v)*(r*r-u*r+v)):=by unfold dB dA;grind
theorem dC_lin (r u v w:Int):dC (r*w) (w+r*v) (v+r*u) (u+r)=dB w v u*((-(r*r*r)+u*r*r-v*r+w)*(-(r*r*r)+u*r*r-v*r+w)):=by unfold dB dC;grind
theorem dC_qu (u v s t:Int):dC (v*t) (u*t+v*s) (v+u*s+t) (u+s)=dA v u*dA t s*(((v-t)*(v-t)-(u-s)*(s*v-u*t))*((v-t)*(v-t)-(u-s)*(s*v-u*t))):=by unfold dA dC;grind
theorem Pr.or {q:Int}(pq:Pr q){a b:Int}(h:q∣a*b):q∣a\/q∣b:=by
 rcases pq.no_zero (jF h)with h|h
 ·exact .inl (bZ h)
 ·exact .inr (bZ h)
theorem Pr.sq {q:Int}(pq:Pr q){a:Int}(h:q∣a*a):q∣a:=(pq.or h).elim id id
theorem Pr.cut {q:Int}(pq:Pr q){a b:Int}(h:q∣a*b)(n: ¬q∣a):q∣b:=(pq.or h).resolve_left n
theorem Pr.sol {q:Int}(pq:Pr q){a:Int}(h: ¬q∣a)(b:Int): ∃z,q∣a*z-b:=by
 have p2:=pq.lo;have a0:=cM a (show q≠0 by lia)
 have a1:=cV a (show 0<q by lia)
 have ne:a%q≠0:=λe=>h (bZ e)
 have iv:=pq.inv (a%q) ad a1
 generalize b26 (a%q) q (q.toNat-2)=t at iv;have e1:=aD8 (t*(a%q)) q;have e2:=aD8 a q;rw[iv]at e1;refine⟨t*b,t*(a/q)*b+t*(a%q)/q*b,?_⟩;have:a*(t*b)-b=(a%q+q*(a/q))*(t*b)-b:=by rw[e2]
 rw[this];have:t*(a%q)*b=(1+q*(t*(a%q)/q))*b:=by rw[e1]
 grind
theorem Pr.no {q:Int}(pq:Pr q)(h:5<=q): ¬q∣2/\ ¬q∣3/\ ¬q∣4:=
 ⟨λh=>by have:=mZ ac h;lia,λh=>by have:=mZ ac h;lia,λh=>by have:=mZ ac h;lia⟩
theorem eX {q:Int}(pq:Pr q){a b:Int}(h: ¬q∣a)(h2: ¬q∣b): ¬q∣a*b:=λh3=>(pq.or h3).elim h h2
theorem dv2 {q a b x y e:Int}(h:q∣a)(h2:q∣b)(he:e=a*x+b*y):q∣e:=by
 rw[he];exact dvd_add (oN h) (oN h2)
theorem dv3 {q a b c x y z e:Int}(h:q∣a)(h2:q∣b)(h3:q∣c)(he:e=a*x+b*y+c*z):q∣e:=by
 rw[he];exact dvd_add (dvd_add (oN h)<|oN h2) (oN h3)
theorem dv1 {q a x e:Int}(h:q∣a)(he:e=a*x):q∣e:=by rw[he];exact oN h
theorem root2 {q:Int}(pq:Pr q){c b:Int}(h:q∣dA c b): ∃z,q∣z*z+b*z+c:=by
 by_cases c2:q∣2
 ·have e:q=2:=by have:=mZ ac c2;have:=pq.lo;lia
  subst e;refine⟨c,?_⟩;have hb:(2:Int)∣b:=pq.sq (dv2 (x:=1) (y:=2*c) h (dvd_refl 2) (by unfold dA;grind))
  rcases Int.emod_two_eq c with e|e
  ·exact dv2 (x:=c+b+1) (y:=0) (bZ e) (dvd_refl 2) (by grind)
  ·exact dv2 (a:=c+1) (x:=c) (y:=c) ad hb (by grind)
 ·obtain⟨z,hz⟩:=pq.sol c2 (-b);refine⟨z,pq.cut (a:=2*2) ?_<|eX pq c2 c2⟩;exact dv2 (x:=2*z+b) (y:= -1) hz h (by unfold dA;grind)
theorem root3 {q:Int}(pq:Pr q)(q5:5<=q){d c b:Int}(h:q∣dB d c b): ∃z,q∣z*z*z+b*z*z+c*z+d:=by
 obtain⟨n2,n3,_⟩:=pq.no q5
 by_cases cA:q∣b*b-3*c
 ·have hN:q∣2*b*b*b-9*b*c+27*d:=pq.sq (dv2 (x:=4*(b*b-3*c)*(b*b-3*c)) (y:= -27) cA h (by unfold dB;grind))
  obtain⟨z,hz⟩:=pq.sol n3 (-b);refine⟨z,pq.cut (a:=3*3*3) ?_<|eX pq (eX pq n3 n3) n3⟩;exact dv2 (x:=9*z*z+6*b*z-2*b*b+9*c) (y:=1) hz hN (by grind)
 ·obtain⟨z,hz⟩:=pq.sol (eX pq n2 cA) (9*d-b*c);have n:=eX pq n2 cA;refine⟨z,pq.cut (a:=2*(b*b-3*c)*(2*(b*b-3*c))*(2*(b*b-3*c))) ?_<|eX pq (eX pq n n) n⟩;obtain⟨A,eA⟩: ∃A,A=2*(b*b-3*c):=⟨_,rfl⟩;obtain⟨B,eB⟩: ∃B,B=9*d-b*c:=⟨_,rfl⟩;rw[<-eA,<-eB]at hz;rw[<-eA];have h1:q∣B*B*B+b*A*B*B+c*A*A*B+d*A*A*A:=dv1 (x:= -(2*b*b*b-9*b*c+27*d)) h (by rw[eA,eB];unfold dB;grind)
  exact dv2 (x:=A*A*z*z+A*z*B+B*B+b*A*(A*z+B)+c*A*A) (y:=1) hz h1 (by grind)
theorem root4d {q:Int}(pq:Pr q)(q5:5<=q){P Q R:Int}(h:q∣4*(12*R+P*P)*(12*R+P*P)*(12*R+P*P)-(72*P*R-27*Q*Q-2*P*P*P)*(72*P*R-27*Q*Q-2*P*P*P)) :
  (∃y,q∣y*y*y*y+P*y*y+Q*y+R)\/ ∃m,q∣Q/\q∣2*m-P/\q∣R-m*m:=by
 obtain⟨n2,n3,_⟩:=pq.no q5;obtain⟨I,eI⟩: ∃I,I=12*R+P*P:=⟨_,rfl⟩;obtain⟨J,eJ⟩: ∃J,J=72*P*R-27*Q*Q-2*P*P*P:=⟨_,rfl⟩;rw[<-eI,<-eJ]at h;obtain⟨s,h3,h4⟩: ∃s,q∣s*s-I/\q∣2*I*s-J:=by
  by_cases cI:q∣I
  ·have hJ:q∣J:=pq.sq (dv2 (x:=4*I*I) (y:= -1) cI h<|by grind)
   exact⟨0,dv1 (x:= -1) cI<|by grind,dv1 (x:= -1) hJ<|by grind⟩
  ·obtain⟨s,hs⟩:=pq.sol (eX pq n2 cI) J;refine⟨s,pq.cut (a:=2*I*(2*I)) ?_<|eX pq (eX pq n2 cI)<|eX pq n2 cI,hs⟩;exact dv2 (x:=2*I*s+J) (y:= -1) hs h (by grind)
 have h2:q∣27*Q*Q+2*(s+P)*(s-2*P)*(s-2*P):=dv2 (x:= -2*s+6*P) (y:=1) (a:=I-s*s) (b:=2*I*s-J) (dv1 (x:= -1) h3<|by grind) h4 (by rw[eJ,eI];grind)
 by_cases cK:q∣s-2*P
 ·have hQ:q∣Q:=pq.sq (pq.cut (a:=3*3*3) (dv2 (x:=1) (y:= -(2*(s+P)*(s-2*P))) h2 cK<|by grind)<|eX pq (eX pq n3 n3) n3)
  obtain⟨m,hm⟩:=pq.sol n2 P;refine .inr ⟨m,hQ,hm,pq.cut (a:=2*2*3) ?_<|eX pq (eX pq n2 n2) n3⟩;exact dv3 (x:= -1) (y:=s+2*P) (z:= -3*(2*m+P)) h3 cK hm (by rw[eI];grind)
 ·obtain⟨y,hy⟩:=pq.sol (eX pq n2 cK) (3*Q);have hy2:q∣6*y*y+s+P:=pq.cut (a:=2*((s-2*P)*(s-2*P))) (dv2 (x:=3*(2*(s-2*P)*y+3*Q)) (y:=1) hy h2<|by grind) (eX pq n2<|eX pq cK cK)
  refine .inl ⟨y,pq.cut (a:=2*2*(3*3)) ?_<|eX pq (eX pq n2 n2)<|eX pq n3 n3⟩
  exact dv3 (x:=6*y*y-s-P+6*P+4*(s-2*P)) (y:= -12*y) (z:= -3) hy2 hy h3 (by rw[eI];grind)
theorem root4 {q:Int}(pq:Pr q)(q5:5<=q){e d c b:Int}(h:q∣dC e d c b) :
  (∃z,q∣z*z*z*z+b*z*z*z+c*z*z+d*z+e)\/ ∃u v,q∣2*u-b/\q∣u*u+2*v-c/\q∣2*u*v-d/\q∣v*v-e:=by
 obtain⟨n2,n3,n4⟩:=pq.no q5;obtain⟨P,eP⟩: ∃P,P=16*c-6*b*b:=⟨_,rfl⟩;obtain⟨Q,eQ⟩: ∃Q,Q=64*d-32*b*c+8*b*b*b:=⟨_,rfl⟩;obtain⟨R,eR⟩: ∃R,R=256*e-64*b*d+16*b*b*c-3*b*b*b*b:=⟨_,rfl⟩;have hD:q∣4*(12*R+P*P)*(12*R+P*P)*(12*R+P*P)-(72*P*R-27*Q*Q-2*P*P*P)*(72*P*R-27*Q*Q-2*P*P*P):=dv1 (x:=452984832) h (by rw[eP,eQ,eR];unfold dC;grind)
 have n16:=eX pq n4 n4;rcases root4d pq q5 hD with⟨y,hy⟩| ⟨m,hQ,hm,hR⟩
 ·obtain⟨z,hz⟩:=pq.sol n4 (y-b);refine .inl ⟨z,pq.cut (a:=4*4*(4*4)) ?_<|eX pq n16 n16⟩;obtain⟨Y,eY⟩: ∃Y,Y=4*z+b:=⟨_,rfl⟩;have hz':q∣Y-y:=by rw[eY,show 4*z+b-y=4*z-(y-b)by lia];exact hz
  exact dv2 (x:=Y*Y*Y+Y*Y*y+Y*y*y+y*y*y+P*(Y+y)+Q) (y:=1) hz' hy (by rw[eP,eQ,eR,eY];grind)
 ·obtain⟨u,hu⟩:=pq.sol n2 b;obtain⟨v,hv⟩:=pq.sol n16 (b*b+m);refine .inr ⟨u,v,hu,pq.cut (a:=4*4) ?_ n16,pq.cut (a:=4*4*4) ?_<|eX pq n16 n4,pq.cut (a:=4*4*(4*4)) ?_<|eX pq n16 n16⟩
  ·exact dv3 (x:=4*(2*u+b)) (y:=2) (z:=1) hu hv hm (by rw[eP];grind)
  ·exact dv3 (a:=4*(2*u-b)) (x:=4*4*v) (y:=4*b) (z:=1) (dv1 (x:=4) hu<|by grind) hv (dv2 (x:=2*b) (y:= -1) hm hQ rfl) (by rw[eP,eQ];grind)
  ·exact dv3 (x:=4*4*v+b*b+m) (y:= -1) (z:=1) hv hR (dv2 (x:=b*b) (y:= -b) hm hQ rfl) (by rw[eP,eQ,eR];grind)
theorem sm3_2: ∀d c b:Fin 2,dB (d.1:Int) (c.1:Int) (b.1:Int)%2=0-> ∃z:Fin 2,((z.1:Int)*z.1*z.1+b.1*z.1*z.1+c.1*z.1+d.1)%2=0:=af
theorem sm3_3: ∀d c b:Fin 3,dB (d.1:Int) (c.1:Int) (b.1:Int)%3=0-> ∃z:Fin 3,((z.1:Int)*z.1*z.1+b.1*z.1*z.1+c.1*z.1+d.1)%3=0:=af
theorem sm4_2: ∀e d c b:Fin 2,dC (e.1:Int) (d.1:Int) (c.1:Int) (b.1:Int)%2=0->(∃z:Fin 2,((z.1:Int)*z.1*z.1*z.1+b.1*z.1*z.1*z.1+c.1*z.1*z.1+d.1*z.1+e.1)%2=0)\/ ∃u v:Fin 2,(2*(u.1:Int)-b.1)%2=0/\((u.1:Int)*u.1+2*v.1-c.1)%2=0/\(2*(u.1:Int)*v.1-d.1)%2=0/\((v.1:Int)*v.1-e.1)%2=0:=af
theorem sm4_3: ∀e d c b:Fin 3,dC (e.1:Int) (d.1:Int) (c.1:Int) (b.1:Int)%3=0->(∃z:Fin 3,((z.1:Int)*z.1*z.1*z.1+b.1*z.1*z.1*z.1+c.1*z.1*z.1+d.1*z.1+e.1)%3=0)\/ ∃u v:Fin 3,(2*(u.1:Int)-b.1)%3=0/\((u.1:Int)*u.1+2*v.1-c.1)%3=0/\(2*(u.1:Int)*v.1-d.1)%3=0/\((v.1:Int)*v.1-e.1)%3=0:=af
theorem Pr.big {q:Int}(pq:Pr q):q=2\/q=3\/5<=q:=by
 have:=pq.lo
 by_cases c:q=4
 ·subst c;exact absurd (pq.inv 2 ac ac) af
 ·omega
theorem uT {k:Nat}{b:Int}(h:0<=b/\b< (k:Int)): ∃x:Fin k,(x.1:Int)=b:=⟨⟨b.toNat,aa⟩,aE6 h.1⟩
theorem root3' {q:Int}(pq:Pr q){d c b:Int}(hd:0<=d/\d<q)(hc:0<=c/\c<q)(hb:0<=b/\b<q)(h:q∣dB d c b): ∃z,q∣z*z*z+b*z*z+c*z+d:=by
 rcases pq.big with rfl|rfl|q5
 ·obtain⟨d,rfl⟩:=uT hd;obtain⟨c,rfl⟩:=uT hc;obtain⟨b,rfl⟩:=uT hb;obtain⟨z,hz⟩:=sm3_2 d c b (jF h);exact⟨_,bZ hz⟩
 ·obtain⟨d,rfl⟩:=uT hd;obtain⟨c,rfl⟩:=uT hc;obtain⟨b,rfl⟩:=uT hb;obtain⟨z,hz⟩:=sm3_3 d c b (jF h);exact⟨_,bZ hz⟩
 ·exact root3 pq q5 h
theorem root4' {q:Int}(pq:Pr q){e d c b:Int}(he:0<=e/\e<q)(hd:0<=d/\d<q)(hc:0<=c/\c<q)(hb:0<=b/\b<q)(h:q∣dC e d c b) :
  (∃z,q∣z*z*z*z+b*z*z*z+c*z*z+d*z+e)\/ ∃u v,q∣2*u-b/\q∣u*u+2*v-c/\q∣2*u*v-d/\q∣v*v-e:=by
 rcases pq.big with rfl|rfl|q5
 ·obtain⟨e,rfl⟩:=uT he;obtain⟨d,rfl⟩:=uT hd;obtain⟨c,rfl⟩:=uT hc;obtain⟨b,rfl⟩:=uT hb;rcases sm4_2 e d c b (jF h)with⟨z,hz⟩| ⟨u,v,h1,h2,h3,h4⟩
  ·exact .inl ⟨_,bZ hz⟩
  ·exact .inr ⟨_,_,bZ h1,bZ h2,bZ h3,bZ h4⟩
 ·obtain⟨e,rfl⟩:=uT he;obtain⟨d,rfl⟩:=uT hd;obtain⟨c,rfl⟩:=uT hc;obtain⟨b,rfl⟩:=uT hb;rcases sm4_3 e d c b (jF h)with⟨z,hz⟩| ⟨u,v,h1,h2,h3,h4⟩
  ·exact .inl ⟨_,bZ hz⟩
  ·exact .inr ⟨_,_,bZ h1,bZ h2,bZ h3,bZ h4⟩
 ·exact root4 pq q5 h
theorem cgA {q a b c d:Int}(h:q∣a-b)(h2:q∣c-d):q∣a+c-(b+d):=dv2 (x:=1) (y:=1) h h2 (by grind)
theorem cgS {q a b c d:Int}(h:q∣a-b)(h2:q∣c-d):q∣a-c-(b-d):=dv2 (x:=1) (y:= -1) h h2 (by grind)
theorem cgM {q a b c d:Int}(h:q∣a-b)(h2:q∣c-d):q∣a*c-b*d:=dv2 (x:=c) (y:=b) h h2 (by grind)
theorem cgR {q:Int}(a:Int):q∣a-a:=by rw[Int.sub_self];exact Int.dvd_zero q
theorem cgE {q:Int}(a:Int):q∣a%q-a:=by
 have:=aD8 a q;exact⟨-(a/q),by grind⟩
theorem cgT {q a b:Int}(h:q∣a-b):q∣a↔q∣b:=⟨λg=>dv2 (x:=1) (y:= -1) g h (by grind),λg=>dv2 (x:=1) (y:=1) g h (by grind)⟩
theorem dA3 {q c c' b b':Int}(hc:q∣c-c')(hb:q∣b-b'):q∣dA c b-dA c' b':=by
 unfold dA
 repeat' (with_reducible (first|assumption|apply cgM|apply cgA|apply cgS|exact cgR _))
theorem dA4 {q d d' c c' b b':Int}(hd:q∣d-d')(hc:q∣c-c')(hb:q∣b-b'):q∣dB d c b-dB d' c' b':=by
 unfold dB
 repeat' (with_reducible (first|assumption|apply cgM|apply cgA|apply cgS|exact cgR _))
theorem cT3 {q e e' d d' c c' b b':Int}(he:q∣e-e')(hd:q∣d-d')(hc:q∣c-c')(hb:q∣b-b'):q∣dC e d c b-dC e' d' c' b':=by
 unfold dC
 repeat' (with_reducible (first|assumption|apply cgM|apply cgA|apply cgS|exact cgR _))
noncomputable def dF (F:Nat×(Nat->Int)):Int:=if F.1=2 then dA (F.2 0) (F.2 1)else if F.1=3 then dB (F.2 0) (F.2 1) (F.2 2)else if F.1=4 then dC (F.2 0) (F.2 1) (F.2 2) (F.2 3)else 1
theorem aX9 {q c:Int}{G:Nat×(Nat->Int)}(mG:MP q G.1 G.2)(m:Nat):q∣(tm q G<|fP c).2 m-(c*G.2 m+(if m=0 then 0 else G.2 (m-1))):=by
 show q∣conv G.2 (fP c).2 (G.1+1) m%q-_
 rw[aL4 c mG.z];exact cgE _
theorem cT4 {q c:Int}{G:Nat×(Nat->Int)}(mG:MP q G.1 G.2)(l1:1<=G.1)(l3:G.1<=3):q∣dF (tm q G<|fP c)-dF G*(va q G (-c)*va q G (-c)):=by
 have c0:=aX9 (c:=c) mG 0;have c1:=aX9 (c:=c) mG 1;have c2:=aX9 (c:=c) mG 2;have c3:=aX9 (c:=c) mG 3;have tp:=mG.top;have hv:q∣va q G (-c)-ps G.2 (-c) (G.1+1):=cgE _;have hi:=mG.hi;have e0:(tm q G<|fP c).1=G.1+1:=rfl;generalize tm q G (fP c)=T at *;obtain⟨T1,T⟩:=T;obtain⟨n,g⟩:=G;generalize va q (n,g) (-c)=V at *;dsimp only at *;subst e0;have hn:n=1\/n=2\/n=3:=aa
 rcases hn with rfl|rfl|rfl
 ·have hz:q∣V-(g 0-c):=by
   have e:ps g (-c) (1+1)=g 0-c:=by
    show 0+g 0*(-c)^0+g 1*(-c)^1=_
    rw[tp];grind
   rw[e]at hv;exact hv
  show q∣dA (T 0) (T 1)-1*(V*V)
  simp only[cF,dQ,aG1,n6,tp,Nat.reduceEqDiff]at c0 c1;have:=dA3 c0 c1;have k:=cgM hz hz;exact dv2 (x:=1) (y:= -1) this k (by unfold dA;grind)
 ·have hz:q∣V-(c*c-g 1*c+g 0):=by
   have e:ps g (-c) (2+1)=c*c-g 1*c+g 0:=by
    show 0+g 0*(-c)^0+g 1*(-c)^1+g 2*(-c)^2=_
    rw[tp];grind
   rw[e]at hv;exact hv
  show q∣dB (T 0) (T 1) (T 2)-dA (g 0) (g 1)*(V*V)
  have k:=dA4 c0 c1 c2;have k2:=cgM (cgR (q:=q)<|dA (g 0)<|g 1) (cgM hz hz);have k3:=dB_lin c (g 1) (g 0);simp only[cF,dQ,aG1,n6,tp,Nat.reduceEqDiff,Nat.reduceSub]at k;rw[show c*g 0+0=c*g 0 by omega,show c*g 1+g 0=g 0+c*g 1 by omega,show c*1+g 1=g 1+c by omega,k3]at k
  exact dv2 (x:=1) (y:= -1) k k2 (by grind)
 ·have hz:q∣V-(-(c*c*c)+g 2*c*c-g 1*c+g 0):=by
   have e:ps g (-c) (3+1)= -(c*c*c)+g 2*c*c-g 1*c+g 0:=by
    show 0+g 0*(-c)^0+g 1*(-c)^1+g 2*(-c)^2+g 3*(-c)^3=_
    rw[tp];grind
   rw[e]at hv;exact hv
  show q∣dC (T 0) (T 1) (T 2) (T 3)-dB (g 0) (g 1) (g 2)*(V*V)
  have k:=cT3 c0 c1 c2 c3;have k2:=cgM (cgR (q:=q)<|dB (g 0) (g 1)<|g 2) (cgM hz hz);have k3:=dC_lin c (g 2) (g 1) (g 0);simp only[cF,dQ,aG1,n6,tp,Nat.reduceEqDiff,Nat.reduceSub]at k;rw[show c*g 0+0=c*g 0 by omega,show c*g 1+g 0=g 0+c*g 1 by omega,show c*g 2+g 1=g 1+c*g 2 by omega,show c*1+g 2=g 2+c by omega,k3]at k
  exact dv2 (x:=1) (y:= -1) k k2 (by grind)
theorem dA5 {q u v s t:Int}:q∣dF (tm q (quF v u)<|quF t s)-dA v u*dA t s*(((v-t)*(v-t)-(u-s)*(s*v-u*t))*((v-t)*(v-t)-(u-s)*(s*v-u*t))):=by
 obtain⟨a0,a1,a2,a3⟩:=aX6 v u t s;show q∣dC (conv (quF v u).2 (quF t s).2 3 0%q) (conv (quF v u).2 (quF t s).2 3 1%q) (conv (quF v u).2 (quF t s).2 3 2%q) (conv (quF v u).2 (quF t s).2 3 3%q)-_;rw[a0,a1,a2,a3,<-dC_qu,show v*s+u*t=u*t+v*s by omega]
 exact cT3 (cgE _) (cgE _) (cgE _) (cgE _)
theorem cT5 {q:Int}(pq:Pr q){F:Nat×(Nat->Int)}(mF:MP q F.1 F.2)(f4:F.1<=4){xs:List ((Nat×(Nat->Int))×Nat)}(sp:SP q F xs){x:(Nat×(Nat->Int))×Nat}(hx:x∈xs)(h2:2<=x.2):q∣dF F:=by
 have q2:=pq.lo;obtain⟨mx,x1,_⟩:=sp.mem x hx;have dg:=aL5 q xs bQ x hx;rw[sp.prod]at dg;have e0:bQ.1=0:=rfl;have dg2:x.1.1*2<=x.1.1*x.2:=i5 _ h2
 by_cases d1:x.1.1=1
 ·have e:=aQ4 mx d1;have r:=mx.rng 0;generalize x.1.2 0=c at *;obtain⟨H,mH,eF,_⟩:=(aX8 pq mF sp r.1 r.2).1 x hx e;have ml:=MP.lin q2 r.1 r.2;obtain⟨k,hk⟩: ∃k,x.2=k+2:=⟨x.2-2,aa⟩
  rw[hk]at eF;have mK:MP q (powT q H (fP c)<|k+1).1 (powT q H (fP c)<|k+1).2:=MP.powT q2 mH ml _;have vz:va q (powT q H (fP c)<|k+1) (-c)=0:=by
   show va q (tm q (powT q H (fP c) k)<|fP c) (-c)=0
   rw[c86 ml.hi,c35 q2 ml rfl];show _*((-c+c)%q)%q=0;rw[show -c+c=0 by omega,cB,bJ,cB]
  have dK:=iN q H (fP c) (k+1);have e1:(fP c).1=1:=rfl;have dF':F.1=(powT q H (fP c)<|k+1).1+1:=by rw[eF];rfl
  have:=cT4 (c:=c) mK aa aa
  rw[vz,bJ,bJ,Int.sub_zero]at this;rw[eF];exact this
 ·have d2:x.1.1=2:=aa
  have k2:x.2=2:=by
   rw[d2]at dg;omega
  obtain⟨l1,l2,rfl⟩:=aF2 hx;have mx': ∀y∈l1++x::l2,MP q y.1.1 y.1.2:=λy hy=>(sp.mem y hy).1
  have m1: ∀y∈l1,MP q y.1.1 y.1.2:=λy hy=>mx' y (bS.mpr<|.inl hy)
  have m2: ∀y∈l2,MP q y.1.1 y.1.2:=λy hy=>mx' y (bS.mpr<|.inr<|b6 _ hy)
  have mA:=MP.allT q2 l1 (MP.one q2) m1;have mH:=MP.allT q2 l2 mA m2;have eF:F=powT q (allT q (allT q bQ l1) l2) x.1 2:=by
   rw[<-sp.prod,gZ];show allT q (powT q (allT q bQ l1) x.1 x.2) l2=_;rw[aM2 q2 mx mA m2,k2]
  generalize allT q (allT q bQ l1) l2=H at *;have dH:H.1=0:=by
   have:=iN q H x.1 2;rw[<-eF]at this;omega
  have eH:H=bQ:=by
   refine fX dH (funext λj=> ?_)
   show H.2 j=if j=0 then 1 else 0
   split
   ·rename_i z;rw[z,<-mH.top,dH]
   ·exact mH.hi j aa
  rw[eF,eH];show q∣dF (tm q (tm q bQ x.1) x.1);rw[a36 mx,bI9 mx d2];have:=dA5 (q:=q) (u:=x.1.2 1) (v:=x.1.2 0) (s:=x.1.2 1) (t:=x.1.2 0);refine(cgT this).mpr ⟨0,by grind⟩
theorem cT6 {q z w:Int}(h:q∣z-w)(g:Nat->Int): ∀n,q∣ps g z n-ps g w n
 | 0=>cgR _
 | n+1=>by
  have p: ∀k:Nat,q∣z^k-w^k:=by
   intro k
   induction k with
   | zero=>rw[fV,fV];exact cgR _
   | succ k ih=>rw[kU,kU];exact cgM ih h
  exact cgA (cT6 h g n) (cgM (cgR _)<|p n)
theorem NoR.no {q:Int}(pq:Pr q){G:Nat×(Nat->Int)}(nr:NoR q G){z:Int}(h:q∣ps G.2 z (G.1+1)):False:=by
 have q2:=pq.lo;have r0:=cM (-z) (show q≠0 by omega)
 have r1:=cV (-z) (show 0<q by omega)
 refine nr ((-z)%q).toNat aa ?_
 rw[aE6 r0];refine jF ((cgT<|cT6 ?_ G.2<|G.1+1).mpr h);have:=cgE (q:=q) (-z);exact dv1 (x:= -1) this (by grind)
theorem c36 {q:Int}(pq:Pr q){G:Nat×(Nat->Int)}(mG:MP q G.1 G.2)(l4:G.1<=4)(nr:2<=G.1->NoR q G)(nq:G.1=4->NoQ q G): ¬q∣dF G:=by
 intro h;have q2:=pq.lo;have tp:=mG.top;have rg:=mG.rng
 by_cases d:2<=G.1
 ·have no:=λz=>NoR.no pq (nr d) (z:=z)
  obtain⟨n,g⟩:=G;dsimp only at *;have hn:n=2\/n=3\/n=4:=aa
  rcases hn with rfl|rfl|rfl
  ·obtain⟨z,hz⟩:=root2 pq (show q∣dA (g 0) (g 1)from h)
   refine no z ?_
   show q∣0+g 0*z^0+g 1*z^1+g 2*z^2
   rw[tp];exact dv1 (x:=1) hz (by grind)
  ·obtain⟨z,hz⟩:=root3' pq (rg 0) (rg 1) (rg 2) (show q∣dB (g 0) (g 1) (g 2)from h)
   refine no z ?_
   show q∣0+g 0*z^0+g 1*z^1+g 2*z^2+g 3*z^3
   rw[tp];exact dv1 (x:=1) hz (by grind)
  ·rcases root4' pq (rg 0) (rg 1) (rg 2) (rg 3) (show q∣dC (g 0) (g 1) (g 2) (g 3)from h)with⟨z,hz⟩| ⟨u,v,h3,h2,h1,h0⟩
   ·refine no z ?_
    show q∣0+g 0*z^0+g 1*z^1+g 2*z^2+g 3*z^3+g 4*z^4
    rw[tp];exact dv1 (x:=1) hz (by grind)
   ·have u0:=cM u (show q≠0 by omega)
    have u1:=cV u (show 0<q by omega)
    have v0:=cM v (show q≠0 by omega)
    have v1:=cV v (show 0<q by omega)
    have mq:=MP.qu q2 v0 v1 u0 u1;have cu:=cgE (q:=q) u;have cv:=cgE (q:=q) v;generalize u%q=U at *;generalize v%q=V at *;refine nq rfl V U V U v0 v1 u0 u1 v0 v1 u0 u1 ((cR9 mG mq mq q2).mpr ?_);have eqm: ∀{a b:Int},0<=a/\a<q->q∣b-a->a=b%q:=by
     intro a b ha hb;have:=Int.emod_emod_of_dvd b (dvd_refl q);have e:=cW ha.1 ha.2;obtain⟨k,hk⟩:=hb;rw[<-e,show b=a+q*k by omega,Int.add_mul_emod_self_left]
    refine⟨eqm (rg 0) ?_,eqm (rg 1) ?_,eqm (rg 2) ?_,eqm (rg 3) ?_⟩
    ·exact dv2 (x:=V+v) (y:=1) cv h0 (by grind)
    ·exact dv3 (x:=2*v) (y:=2*U) (z:=1) cu cv h1 (by grind)
    ·exact dv3 (x:=U+u) (y:=2) (z:=1) cu cv h2 (by grind)
    ·exact dv2 (x:=2) (y:=1) cu h3 (by grind)
 ·have:dF G=1:=by
   unfold dF;rw[a6 aa,a6 aa,a6 aa]
  rw[this]at h;have:=mZ ac h
  omega
theorem c94 {q:Int}(pq:Pr q): ∀(xs:List ((Nat×(Nat->Int))×Nat)),(∀x∈xs,MP q x.1.1 x.1.2/\1<=x.1.1/\x.1.1<=4/\1<=x.2/\x.2<=4/\(2<=x.1.1->NoR q x.1)/\(x.1.1=4->NoQ q x.1))->xs.Pairwise ltP->(∀x∈xs,x.2=1)->(allT q bQ xs).1<=4-> ¬q∣dF (allT q bQ xs)
 | [],_,_,_,_=>by
  intro h;have:=mZ ac (show q∣1 from h)
  have:=pq.lo;omega
 | x::l,hm,hp,h1,h4=>by
  have q2:=pq.lo;obtain⟨mx,x1,x4,_,_,nr,nq⟩:=hm x (aW ..);have hml: ∀y∈l,MP q y.1.1 y.1.2:=λy hy=>(hm y<|b6 _ hy).1
  rw[iS]at hp;have e1:=h1 x (aW ..);have eA:allT q bQ (x::l)=tm q (allT q bQ l) x.1:=by
   show allT q (powT q bQ x.1 x.2) l=_
   rw[aM2 q2 mx (MP.one q2) hml,e1];rfl
  have mL:=MP.allT q2 l (MP.one q2) hml;rw[eA]at h4⊢
  by_cases d1:x.1.1=1
  ·have e:=aQ4 mx d1;have r:=mx.rng 0;generalize x.1.2 0=c at *;have h4':(allT q bQ l).1+1<=4:=by
    have:(tm q (allT q bQ l) x.1).1=(allT q bQ l).1+x.1.1:=rfl;omega
   have ih:=c94 pq l (λy hy=>hm y (b6 _ hy)) hp.2 (λy hy=>h1 y (b6 _ hy)) aa
   rw[e]
   by_cases z:(allT q bQ l).1=0
   ·intro h;have:dF (tm q (allT q bQ l)<|fP c)=1:=by
     have k:(tm q (allT q bQ l)<|fP c).1=(allT q bQ l).1+1:=rfl;unfold dF;rw[a6 aa,a6 aa,a6 aa]
    rw[this]at h;have:=mZ ac h
    omega
   ·have vn:va q (allT q bQ l) (-c)≠0:=by
     refine aX7 pq l bQ (λy hy=>(hml y hy).hi) ?_ λy hy=> ?_
     ·show(0+(if 0=0 then(1:Int)else 0)*(-c)^0)%q≠0
      rw[a7 rfl,fV,kW,d5,cW ac aa]
      decide
     ·obtain⟨my,y1,_,_,_,ny,_⟩:=hm y (b6 _ hy);exact bT6 pq r.1 r.2 my y1 ny λze=>a51 (hp.1 y hy) (e.trans ze.symm)
    have vn': ¬q∣va q (allT q bQ l) (-c):=λhd=>vn (by
     have:=jF hd;rw[c34 q2]at this;exact this)
    have k:=cT4 (c:=c) mL aa aa
    exact λhd=>eX pq ih (eX pq vn' vn') ((cgT k).mp hd)
  ·have ge: ∀y∈l,2<=y.1.1:=λy hy=>by
    have:=hp.1 y hy;unfold ltP at this;omega
   match l,hm,hp,h1,h4,eA,mL,hml,ge with
   | [],_,_,_,_,_,_,_,_=>
    show ¬q∣dF (tm q bQ x.1)
    rw[a36 mx];exact c36 pq mx x4 nr nq
   | [y],hm,hp,h1,h4,_,_,_,ge=>
    obtain⟨my,y1,y4,_,_,nry,nqy⟩:=hm y (b6 _<|aW ..);have ey:=h1 y (b6 _<|aW ..);have gy:=ge y (aW ..);have eL:allT q bQ [y]=y.1:=by
     show powT q bQ y.1 y.2=y.1
     rw[ey];exact a36 my
    rw[eL]at h4⊢;have ds:y.1.1+x.1.1<=4:=h4;have dx:x.1.1=2:=aa
    have dy:y.1.1=2:=aa
    have ix:=c36 pq mx x4 nr nq;have iy:=c36 pq my y4 nry nqy;have ne:=a51 (hp.1 y<|aW ..);have nr:=nr aa
    have rx0:=mx.rng 0;have rx1:=mx.rng 1;have ry0:=my.rng 0;have ry1:=my.rng 1;rw[bI9 mx dx]at ix nr ne⊢;rw[bI9 my dy]at iy ne⊢;generalize x.1.2 0=t at *;generalize x.1.2 1=s at *;generalize y.1.2 0=v at *;generalize y.1.2 1=u at *;have ix: ¬q∣dA t s:=ix;have iy: ¬q∣dA v u:=iy;have res: ¬q∣(v-t)*(v-t)-(u-s)*(s*v-u*t):=by
     intro hr
     by_cases us:q∣u-s
     ·have hv:q∣v-t:=pq.sq (dv2 (x:=1) (y:=s*v-u*t) hr us<|by grind)
      have small: ∀{a b:Int},0<=a/\a<q->0<=b/\b<q->q∣a-b->b=a:=by
       intro a b ha hb ⟨k,hk⟩;have k0:k=0:=by
        rcases xM k 0 with z|z|z
        ·have:q*k<=q*(-1):=kJ aa aa
         omega
        ·exact z
        ·have:q*1<=q*k:=kJ aa aa
         omega
       rw[k0,bJ]at hk;omega
      exact ne (by rw[small ry0 rx0 hv,small ry1 rx1 us])
     ·obtain⟨z,hz⟩:=pq.sol us (-(v-t));refine NoR.no pq nr (z:=z) ?_;show q∣0+t*z^0+s*z^1+1*z^2;refine pq.cut (a:=(u-s)*(u-s)) ?_ (eX pq us us);exact dv2 (x:=(u-s)*z-(v-t)+s*(u-s)) (y:=1) hz hr (by grind)
    exact λhd=>eX pq (eX pq iy ix) (eX pq res res) ((cgT<|dA5 (q:=q) (u:=u) (v:=v) (s:=s) (t:=t)).mp hd)
   | y::y2::l',hm,_,h1,h4,_,_,_,ge=>
    have g1:=ge y (aW ..);have g2:=ge y2 (b6 _<|aW ..);have b1:=h1 y (b6 _<|aW ..);have b2:=h1 y2 (b6 _<|b6 _<|aW ..);have dg:=aL5 q (y2::l') (powT q bQ y.1 y.2) y2 (aW ..);rw[iN,b1,b2]at dg;have ds:(allT q bQ (y::y2::l')).1+x.1.1<=4:=h4;have eq:allT q bQ (y::y2::l')=allT q (powT q bQ y.1 1) (y2::l'):=by rw[<-b1];rfl
    rw[eq]at ds;have e0:bQ.1=0:=rfl;omega
theorem aT2 {q a b:Int}(ha:0<=a/\a<q)(hb:0<=b/\b<q)(h:q∣a-b):a=b:=by
 obtain⟨k,hk⟩:=h;have k0:k=0:=by
  rcases xM k 0 with z|z|z
  ·have:q*k<=q*(-1):=kJ ad ad
   lia
  ·exact z
  ·have:q*1<=q*k:=kJ ad ad
   lia
 rw[k0,bJ]at hk
 lia
theorem c95 {q a b:Int}(h:a%q=b%q):q∣a-b:=bZ (Int.emod_eq_emod_iff_emod_sub_eq_zero.mp h)
theorem d57 {q v u v' u' w s w' s':Int}(pq:Pr q)(nr:NoR q (quF v u))(e0:q∣v*w-v'*w')(e1:q∣(v*s+u*w)-(v'*s'+u'*w'))(e2:q∣(v+u*s+w)-(v'+u'*s'+w'))(e3:q∣(u+s)-(u'+s')) :
  (q∣u-u'/\q∣v-v')\/(q∣u-s'/\q∣v-w'):=by
 have c1:q∣(u'-u)*(w'-v)+(v'-v)*(s'-u)-u*(u'-u)*(s'-u):=dv3 (x:= -(u*u-v)) (y:=u) (z:= -1) e3 e2 e1 (by grind)
 have c0:q∣(v'-v)*(w'-v)-v*(u'-u)*(s'-u):=dv3 (x:= -(u*v)) (y:=v) (z:= -1) e3 e2 e0 (by grind)
 have root: ∀a b:Int,q∣b*b-u*a*b+v*a*a->q∣a/\q∣b:=λa b h=>by
  by_cases ha:q∣a
  ·exact⟨ha,pq.sq<|dv2 (x:=1) (y:=u*b-v*a) h ha<|by grind⟩
  ·exfalso
   obtain⟨z,hz⟩:=pq.sol ha (-b);refine NoR.no pq nr (z:=z) ?_;refine pq.cut (a:=a*a) ?_ (eX pq ha ha);show q∣a*a*(0+v*z^0+u*z^1+1*z^2);exact dv2 (x:=1) (y:=a*z-b+u*a) h hz (by grind)
 have pr:q∣((v'-v)*(v'-v)-u*(u'-u)*(v'-v)+v*(u'-u)*(u'-u))*((w'-v)*(w'-v)-u*(s'-u)*(w'-v)+v*(s'-u)*(s'-u)):=
  dv2 (x:=((v'-v)*(w'-v)-v*(u'-u)*(s'-u))-u*((u'-u)*(w'-v)+(v'-v)*(s'-u)-u*(u'-u)*(s'-u))) (y:=v*((u'-u)*(w'-v)+(v'-v)*(s'-u)-u*(u'-u)*(s'-u))) c0 c1 (by grind)
 rcases pq.or pr with h|h
 ·obtain⟨h1,h2⟩:=root _ _ h;exact .inl ⟨dv1 (x:= -1) h1<|by grind,dv1 (x:= -1) h2<|by grind⟩
 ·obtain⟨h1,h2⟩:=root _ _ h;exact .inr ⟨dv1 (x:= -1) h1<|by grind,dv1 (x:= -1) h2<|by grind⟩
theorem aQ5 {q:Int}{g:Nat×(Nat->Int)}(mg:MP q g.1 g.2)(h2:g.1=2):g=quF (g.2 0) (g.2 1):=by
 obtain⟨n,f⟩:=g;obtain rfl:n=2:=h2;refine fX rfl (funext λj=> ?_)
 match j with
 | 0=>rfl
 | 1=>rfl
 | 2=>exact mg.top
 | j+3=>exact mg.hi (j+3) (show 2<j+3 by lia)
theorem d58 {q:Int}(pq:Pr q){a b c d:Nat×(Nat->Int)}(ma:MP q a.1 a.2)(mb:MP q b.1 b.2)(mc:MP q c.1 c.2)(md':MP q d.1 d.2)(a2:a.1=2)(b2:b.1=2)(c2:c.1=2)(d2:d.1=2)(nr:NoR q a)(h:tm q a b=tm q c d):(a=c/\b=d)\/(a=d/\b=c):=by
 have ra:=ma.rng;have rb:=mb.rng;have rc:=mc.rng;have rd:=md'.rng;have ea:=aQ5 ma a2;have eb:=aQ5 mb b2;have ec:=aQ5 mc c2;have ed:=aQ5 md' d2;have v0:=ra 0;have u0:=ra 1;have w0:=rb 0;have s0:=rb 1;have v1:=rc 0;have u1:=rc 1;have w1:=rd 0;have s1:=rd 1;generalize a.2 0=v at *;generalize a.2 1=u at *;generalize b.2 0=w at *;generalize b.2 1=s at *;generalize c.2 0=v' at *
 generalize c.2 1=u' at *;generalize d.2 0=w' at *;generalize d.2 1=s' at *;subst ea eb ec ed;obtain⟨f0,f1,f2,f3⟩:=aX6 v u w s;obtain⟨g0,g1,g2,g3⟩:=aX6 v' u' w' s';have hm: ∀m,conv (quF v u).2 (quF w s).2 3 m%q=conv (quF v' u').2 (quF w' s').2 3 m%q:=λm=>congrFun (bP Prod.snd h) m
 have e0:=c95 (hm 0);have e1:=c95 (hm 1);have e2:=c95 (hm 2);have e3:=c95 (hm 3);rw[f0,g0]at e0;rw[f1,g1]at e1;rw[f2,g2]at e2;rw[f3,g3]at e3;rcases d57 pq nr e0 e1 e2 e3 with⟨h1,h2⟩| ⟨h1,h2⟩
 ·obtain rfl:=aT2 u0 u1 h1;obtain rfl:=aT2 v0 v1 h2;obtain rfl:=aT2 s0 s1 (dv1 (x:=1) e3<|by grind)
  obtain rfl:=aT2 w0 w1 (dv1 (x:=1) e2<|by grind)
  exact .inl ⟨rfl,rfl⟩
 ·obtain rfl:=aT2 u0 s1 h1;obtain rfl:=aT2 v0 w1 h2;obtain rfl:=aT2 s0 u1 (dv1 (x:=1) e3<|by grind)
  obtain rfl:=aT2 w0 v1 (dv1 (x:=1) e2<|by grind)
  exact .inr ⟨rfl,rfl⟩
theorem bT7: ∀a b:List Int,ltL a b=true->ltL b a=true->False
 | [],[],h,_=>by simp[ltL]at h
 | [],_::_,_,h=>by simp[ltL]at h
 | _::_,[],h,_=>by simp[ltL]at h
 | x::a,y::b,h,h2=>by
  unfold ltL at h h2
  by_cases c:x=y
  ·rw[a7 c]at h;rw[a7 c.symm]at h2;exact bT7 a b h h2
  ·rw[a6 c]at h;rw[a6 λz=>c z.symm]at h2
   have:=kQ h;have:=kQ h2
   lia
theorem bT8 {x y:(Nat×(Nat->Int))×Nat}(h:ltP x y)(h2:ltP y x):False:=by
 unfold ltP at h h2;rcases h with h|h
 ·rcases h2 with h2|h2<;>lia
 ·rcases h2 with h2|h2
  ·lia
  ·exact bT7 _ _ h.2 h2.2
theorem cT7 {α:Type}{R:α->α->Prop}(as: ∀x y,R x y->R y x->False): ∀{a b:List α},a.Pairwise R->b.Pairwise R->(∀x,x∈a↔x∈b)->a=b
 | [],[],_,_,_=>rfl
 | [],y::b,_,_,h=>by have:=(h y).mpr (aW ..);cases this
 | x::a,[],_,_,h=>by have:=(h x).mp (aW ..);cases this
 | x::a,y::b,ha,hb,h=>by
  rw[iS]at ha hb;have e:x=y:=by
   rcases aS.mp ((h x).mp<|aW ..)with e|m1
   ·exact e
   ·rcases aS.mp ((h y).mpr<|aW ..)with e|m2
    ·exact e.symm
    ·exact(as _ _ (ha.1 y m2)<|hb.1 x m1).elim
  subst e;rw[cT7 as ha.2 hb.2 λz=>⟨λm=> ?_,λm=> ?_⟩]
  ·rcases aS.mp ((h z).mp<|b6 _ m)with e|m'
   ·subst e;exact(as _ _ (ha.1 z m)<|ha.1 z m).elim
   ·exact m'
  ·rcases aS.mp ((h z).mpr<|b6 _ m)with e|m'
   ·subst e;exact(as _ _ (hb.1 z m)<|hb.1 z m).elim
   ·exact m'
theorem aY0 (p:Int): ∀(l:List ((Nat×(Nat->Int))×Nat)) (a:Nat×(Nat->Int)),a.1<=(allT p a l).1
 | [],a=>aB _
 | x::l,a=>by
  have:=aY0 p l (powT p a x.1 x.2);rw[iN]at this;exact aT (Nat.le_add_right _ _) this
theorem bK1 {d k:Nat}(h:2<=d)(k1:1<=k):2<=d*k/\(d*k<=3->k=1)/\(d*k<=2->d=2):=by
 have h1:d*1<=d*k:=i5 _ k1;refine⟨ad,λz=> ?_,λz=>ad⟩
 by_cases c:k=1
 ·exact c
 ·have:2*2<=d*k:=iU h ad
  lia
theorem aY1 {q:Int}(q2:2<=q){N:List ((Nat×(Nat->Int))×Nat)}(mem: ∀x∈N,MP q x.1.1 x.1.2/\2<=x.1.1/\1<=x.2)(h4:(allT q bQ N).1<=4) :
  N=[]\/(∃g,N=[(g,1)]/\allT q bQ N=g)\/ ∃g h:Nat×(Nat->Int),g.1=2/\h.1=2/\allT q bQ N=tm q g h/\((g=h/\N=[(g,2)])\/N=[(g,1),(h,1)]):=by
 match N,mem,h4 with
 | [],_,_=>exact .inl rfl
 | [x],mem,h4=>
  obtain⟨mx,d2,k1⟩:=mem x (aW ..);obtain⟨g,k⟩:=x;have hd:(powT q bQ g k).1<=4:=h4;rw[iN]at hd;have hd':g.1*k<=4:=by have:bQ.1=0:=rfl;lia
  by_cases c:k=1
  ·subst c;exact .inr (.inl ⟨g,rfl,a36 mx⟩)
  ·have k2:2<=k:=by have:1<=k:=k1;lia
   have:2*2<=g.1*2:=sK _ d2;have h1:g.1*2<=g.1*k:=i5 _ k2;have k3:k=2:=by
    by_cases z:k=2
    ·exact z
    ·have:2*3<=g.1*k:=iU d2 ad
     lia
   subst k3;refine .inr (.inr ⟨g,g,by have:2<=g.1:=d2;lia,by have:2<=g.1:=d2;lia,?_,.inl ⟨rfl,rfl⟩⟩)
   show tm q (tm q bQ g) g=_
   rw[a36 mx]
 | x::y::l,mem,h4=>
  obtain⟨mx,d2,k1⟩:=mem x (aW ..);obtain⟨my,d2',k1'⟩:=mem y (b6 _<|aW ..);obtain⟨a1,a2,a3⟩:=bK1 d2 k1;obtain⟨b1,b2,b3⟩:=bK1 d2' k1';have e:(powT q (powT q bQ x.1 x.2) y.1 y.2).1=x.1.1*x.2+y.1.1*y.2:=by
   rw[iN,iN];show 0+_+_=_;rw[Nat.zero_add]
  match l,mem,h4 with
  | [],_,h4=>
   have h4':(powT q (powT q bQ x.1 x.2) y.1 y.2).1<=4:=h4;rw[e]at h4';have kx:=a2 ad
   have ky:=b2 ad
   have gx:=a3 ad
   have gy:=b3 ad
   obtain⟨g,k⟩:=x;obtain⟨h,k'⟩:=y;obtain rfl:k=1:=kx;obtain rfl:k'=1:=ky;refine .inr (.inr ⟨g,h,gx,gy,?_,.inr rfl⟩);show tm q (tm q bQ g) h=_;rw[a36 mx]
  | z::l,mem,h4=>
   exfalso
   obtain⟨mz,d3,k3⟩:=mem z (b6 _<|b6 _<|aW ..);have c1:=(bK1 d3 k3).1;have ge:=aY0 q l (powT q (powT q (powT q bQ x.1 x.2) y.1 y.2) z.1 z.2);have h4':(allT q (powT q (powT q (powT q bQ x.1 x.2) y.1 y.2) z.1 z.2) l).1<=4:=h4;rw[iN,e]at ge
   lia
theorem b44 {q c:Int}(q2:2<=q)(c0:0<=c)(c1:c<q): ∀(k:Nat) {a b:Nat×(Nat->Int)},MP q a.1 a.2->MP q b.1 b.2->powT q a (fP c) k=powT q b (fP c) k->a=b
 | 0,_,_,_,_,h=>h
 | k+1,a,b,ma,mb,h=>by
  have ml:=MP.lin q2 c0 c1;exact b44 q2 c0 c1 k ma mb (b43 q2 (MP.powT q2 ma ml k) (MP.powT q2 mb ml k) h)
theorem b45 {q:Int}(q2:2<=q): ∀(L:List ((Nat×(Nat->Int))×Nat)) {G G':Nat×(Nat->Int)},(∀x∈L,∃c,x.1=fP c/\0<=c/\c<q)->MP q G.1 G.2->MP q G'.1 G'.2->allT q G L=allT q G' L->G=G'
 | [],_,_,_,_,_,h=>h
 | x::L,G,G',hL,mG,mG',h=>by
  obtain⟨c,e,c0,c1⟩:=hL x (aW ..);have ml:=MP.lin q2 c0 c1;have mL: ∀y∈L,MP q y.1.1 y.1.2:=λy hy=>by
   obtain⟨c',e',d0,d1⟩:=hL y (b6 _ hy);rw[e'];exact MP.lin q2 d0 d1
  have h':allT q (powT q G x.1 x.2) L=allT q (powT q G' x.1 x.2) L:=h;rw[e]at h';exact b44 q2 c0 c1 x.2 mG mG' (b45 q2 L (λy hy=>hL y (b6 _ hy)) (MP.powT q2 mG ml _) (MP.powT q2 mG' ml _) h')
theorem aQ6: ∀{xs:List ((Nat×(Nat->Int))×Nat)},xs.Pairwise ltP->(∀x∈xs,1<=x.1.1)-> ∀x∈xs.dropWhile (λx=>x.1.1==1),2<=x.1.1
 | [],_,_,x,hx=>by simp at hx
 | y::xs,hp,h1,x,hx=>by
  rw[iS]at hp
  by_cases c:y.1.1=1
  ·rw[List.dropWhile_cons_of_pos<|by simpa using c]at hx
   exact aQ6 hp.2 (λz hz=>h1 z (b6 _ hz)) x hx
  ·rw[List.dropWhile_cons_of_neg<|by simpa using c]at hx
   have hy:=h1 y (aW ..);rcases aS.mp hx with rfl|hx
   ·lia
   ·have:=hp.1 x hx;unfold ltP at this
    lia
theorem bE7 {xs:List ((Nat×(Nat->Int))×Nat)}: ∀x∈xs.takeWhile (λx=>x.1.1==1),x.1.1=1:=λx hx=>by
 have:=cX.mp (List.all_takeWhile (l:=xs) (p:=λx=>x.1.1==1)) x hx
 simpa using this
theorem c96 {q:Int}(pq:Pr q){F:Nat×(Nat->Int)}(mF:MP q F.1 F.2){xs ys:List ((Nat×(Nat->Int))×Nat)}(sx:SP q F xs)(sy:SP q F ys){x:(Nat×(Nat->Int))×Nat}(hx:x∈xs)(h1:x.1.1=1):x∈ys:=by
 obtain⟨mx,_,_,k1,_⟩:=sx.mem x hx;have e:=aQ4 mx h1;have c0:=(mx.rng 0).1;have c1:=(mx.rng 0).2;have M1:=(aX8 pq mF sx c0 c1).1 x hx e
 by_cases c: ∃y∈ys,y.1=fP (x.1.2 0)
 ·obtain⟨y,hy,ey⟩:=c;have M2:=(aX8 pq mF sy c0 c1).1 y hy ey;have:x=y:=fX (e.trans ey.symm) (aV1.uniq pq c0 c1 M1 M2);rw[this];exact hy
 ·have M2:=(aX8 pq mF sy c0 c1).2 λy hy z=>c ⟨y,hy,z⟩
  have:=aV1.uniq pq c0 c1 M1 M2
  lia
theorem SP.uniq {q:Int}(pq:Pr q){F:Nat×(Nat->Int)}(mF:MP q F.1 F.2)(f4:F.1<=4){xs ys:List ((Nat×(Nat->Int))×Nat)}(sx:SP q F xs)(sy:SP q F ys):xs=ys:=by
 have q2:=pq.lo;have ex:=List.takeWhile_append_dropWhile (p:=λx:(Nat×(Nat->Int))×Nat=>x.1.1==1) (l:=xs)
 have ey:=List.takeWhile_append_dropWhile (p:=λx:(Nat×(Nat->Int))×Nat=>x.1.1==1) (l:=ys)
 have lx:=bE7 (xs:=xs);have ly:=bE7 (xs:=ys);have nx:=aQ6 sx.ord λx hx=>(sx.mem x hx).2.1
 have ny:=aQ6 sy.ord λx hx=>(sy.mem x hx).2.1
 have px:=sx.prod;have py:=sy.prod;have ox:=sx.ord;have oy:=sy.ord;have mx:=sx.mem;have my:=sy.mem;have tx: ∀x∈xs,x.1.1=1->x∈ys:=λx hx h=>c96 pq mF sx sy hx h
 have ty: ∀x∈ys,x.1.1=1->x∈xs:=λx hx h=>c96 pq mF sy sx hx h
 generalize xs.takeWhile (λx=>x.1.1==1)=Lx at *
 generalize xs.dropWhile (λx=>x.1.1==1)=Nx at *
 generalize ys.takeWhile (λx=>x.1.1==1)=Ly at *
 generalize ys.dropWhile (λx=>x.1.1==1)=Ny at *
 subst ex ey;rw[xF]at ox oy;have eL:Lx=Ly:=by
  refine cT7 (λ_ _=>bT8) ox.1 oy.1 λx=>⟨λh=> ?_,λh=> ?_⟩
  ·rcases bS.mp (tx x (jG _ h)<|lx x h)with z|z
   ·exact z
   ·have:=ny x z;have:=lx x h
    lia
  ·rcases bS.mp (ty x (jG _ h)<|ly x h)with z|z
   ·exact z
   ·have:=nx x z;have:=ly x h
    lia
 subst eL;have hL: ∀x∈Lx,∃c,x.1=fP c/\0<=c/\c<q:=λx hx=>by
  have m:=(mx x<|jG _ hx).1;exact⟨_,aQ4 m<|lx x hx,(m.rng 0).1,(m.rng 0).2⟩
 have mL: ∀x∈Lx,MP q x.1.1 x.1.2:=λx hx=>(mx x<|jG _ hx).1
 have mNx: ∀x∈Nx,MP q x.1.1 x.1.2/\2<=x.1.1/\1<=x.2:=λx hx=>by
  have m:=mx x (dM _ hx);exact⟨m.1,nx x hx,m.2.2.2.1⟩
 have mNy: ∀x∈Ny,MP q x.1.1 x.1.2/\2<=x.1.1/\1<=x.2:=λx hx=>by
  have m:=my x (dM _ hx);exact⟨m.1,ny x hx,m.2.2.2.1⟩
 have m1:=MP.one q2;have gx:=MP.allT q2 Nx m1 λx hx=>(mNx x hx).1
 have gy:=MP.allT q2 Ny m1 λx hx=>(mNy x hx).1
 have turn: ∀N:List ((Nat×(Nat->Int))×Nat),(∀x∈N,MP q x.1.1 x.1.2)->allT q bQ (Lx++N)=allT q (allT q bQ N) Lx:=λN hN=>by
  have mA:=MP.allT q2 Lx m1 mL;have mB:=MP.allT q2 N m1 hN;rw[gZ];have e1:allT q bQ Lx=tm q (allT q bQ Lx) bQ:=(bI8 q2 mA).symm;rw[e1,wP q2 N m1 hN];have e2:allT q (allT q bQ N) Lx=allT q (tm q (allT q bQ N) bQ) Lx:=by rw[bI8 q2 mB]
  rw[e2,wP q2 Lx m1 mL,yV mA.hi mB.hi]
 rw[turn Nx λx hx=>(mNx x hx).1]at px
 rw[turn Ny λx hx=>(mNy x hx).1]at py
 have eG:allT q bQ Nx=allT q bQ Ny:=b45 q2 Lx hL gx gy (px.trans py.symm);have hx4:(allT q bQ Nx).1<=4:=by
  have:=aY0 q Lx (allT q bQ Nx);rw[px]at this
  lia
 have hy4:(allT q bQ Ny).1<=4:=by rw[<-eG];exact hx4
 have eN:Nx=Ny:=by
  have oX:=ox.2.1;have oY:=oy.2.1;have irx: ∀x∈Nx,NoR q x.1/\(x.1.1=4->NoQ q x.1):=λx hx=>by
   have m:=mx x (dM _ hx);exact⟨m.2.2.2.2.2.1<|nx x hx,m.2.2.2.2.2.2⟩
  have iry: ∀x∈Ny,NoR q x.1/\(x.1.1=4->NoQ q x.1):=λx hx=>by
   have m:=my x (dM _ hx);exact⟨m.2.2.2.2.2.1<|ny x hx,m.2.2.2.2.2.2⟩
  have noq: ∀{g a b:Nat×(Nat->Int)},MP q a.1 a.2->MP q b.1 b.2->a.1=2->b.1=2->(g.1=4->NoQ q g)->g=tm q a b->False:=λ{g a b} ma mb a2 b2 nq e=>by
   have g4:g.1=4:=by
    rw[e];show a.1+b.1=4
    lia
   refine nq g4 _ _ _ _ (ma.rng 0).1 (ma.rng 0).2 (ma.rng 1).1 (ma.rng 1).2 (mb.rng 0).1 (mb.rng 0).2 (mb.rng 1).1 (mb.rng 1).2 ?_
   rw[<-aQ5 ma a2,<-aQ5 mb b2];exact e
  have mp2: ∀{N:List ((Nat×(Nat->Int))×Nat)} {g h:Nat×(Nat->Int)},(∀x∈N,MP q x.1.1 x.1.2/\2<=x.1.1/\1<=x.2)->((g=h/\N=[(g,2)])\/N=[(g,1),(h,1)])->MP q g.1 g.2/\MP q h.1 h.2:=λ{N g h} mN f=>by
   rcases f with⟨rfl,rfl⟩|rfl
   ·have:=(mN _<|aW ..).1;exact⟨this,this⟩
   ·exact⟨(mN _<|aW ..).1,(mN _<|b6 _<|aW ..).1⟩
  rcases aY1 q2 mNx hx4 with rfl| ⟨g,rfl,ge⟩| ⟨g,h,g2,h2,ge,fx⟩
  ·rcases aY1 q2 mNy hy4 with rfl| ⟨g',rfl,ge'⟩| ⟨g',h',g2',h2',ge',fy⟩
   ·rfl
   ·exfalso
    have z:=bP Prod.fst (eG.trans ge');have z':0=g'.1:=z;have:=(mNy _<|aW ..).2.1;have:2<=g'.1:=this
    lia
   ·exfalso
    have z:=bP Prod.fst (eG.trans ge');have z':0=g'.1+h'.1:=z
    lia
  ·rcases aY1 q2 mNy hy4 with rfl| ⟨g',rfl,ge'⟩| ⟨g',h',g2',h2',ge',fy⟩
   ·exfalso
    have z:=bP Prod.fst (ge.symm.trans eG);have z':g.1=0:=z;have:=(mNx _<|aW ..).2.1;have:2<=g.1:=this
    lia
   ·rw[ge.symm.trans<|eG.trans ge']
   ·exfalso
    obtain⟨ma,mb⟩:=mp2 mNy fy;exact noq ma mb g2' h2' (irx _<|aW ..).2 (ge.symm.trans<|eG.trans ge')
  ·obtain⟨mg,mh⟩:=mp2 mNx fx;rcases aY1 q2 mNy hy4 with rfl| ⟨g',rfl,ge'⟩| ⟨g',h',g2',h2',ge',fy⟩
   ·exfalso
    have z:=bP Prod.fst (ge.symm.trans eG);have z':g.1+h.1=0:=z
    lia
   ·exfalso
    exact noq mg mh g2 h2 (iry _<|aW ..).2 (ge'.symm.trans<|eG.symm.trans ge)
   ·obtain⟨mg',mh'⟩:=mp2 mNy fy;have nr:NoR q g:=by
     rcases fx with⟨_,rfl⟩|rfl
     ·exact(irx _<|aW ..).1
     ·exact(irx _<|aW ..).1
    rcases d58 pq mg mh mg' mh' g2 h2 g2' h2' nr (ge.symm.trans<|eG.trans ge')with⟨rfl,rfl⟩| ⟨rfl,rfl⟩
    ·rcases fx with⟨e,rfl⟩|rfl
     ·rcases fy with⟨_,rfl⟩|rfl
      ·rfl
      ·subst e;rw[iS]at oY;exact(a51 (oY.1 _<|aW ..) rfl).elim
     ·rcases fy with⟨e,rfl⟩|rfl
      ·subst e;rw[iS]at oX;exact(a51 (oX.1 _<|aW ..) rfl).elim
      ·rfl
    ·rcases fx with⟨e,rfl⟩|rfl
     ·subst e;rcases fy with⟨_,rfl⟩|rfl
      ·rfl
      ·rw[iS]at oY;exact(a51 (oY.1 _<|aW ..) rfl).elim
     ·rw[iS]at oX;have l1:=oX.1 _ (aW ..);rcases fy with⟨e,rfl⟩|rfl
      ·exact(a51 l1 e.symm).elim
      ·rw[iS]at oY;have l2:=oY.1 _ (aW ..);exact(bT8 l1 l2).elim
 rw[eN]
noncomputable def prD (i:Nat):Bool:=((List.range i).map λk:Nat=>decide (0< (2+(i:Int))%(2+(k:Int)))).all id
noncomputable def sqL (m:Int)(i:Nat):List Int:=((List.range i).filter λk:Nat=>sqB m (2+(k:Int))&&prD k).map λk:Nat=>2+(k:Int)
theorem prD_C: ∀k,k<198->prD k=prC k:=by
 have h:(List.range 198).all (λk=>decide (prD k=prC k))=true:=af
 exact λk hk=>kQ (cX.mp h k<|dW.mpr hk)
theorem d59 (m:Int):sqL m 198=prL.filter (sqB m):=by
 unfold sqL prL;rw[List.filter_map,List.filter_filter];refine bP _ (List.filter_congr λk hk=> ?_)
 rw[prD_C k<|dW.mp hk];try rfl
theorem cT8 (m:Int)(i:Nat):sqL m (i+1)=sqL m i++(if(sqB m (2+(i:Int))&&prD i)=true then [2+(i:Int)]else []):=by
 unfold sqL;rw[jN,aF1,cN]
 congr 1
 by_cases c:(sqB m (2+(i:Int))&&prD i)=true
 ·rw[a7 c];simp[c]
 ·rw[a6 c];simp[c]
theorem d60 (m:Int)(i:Nat):(sqL m i).length<=i:=by
 unfold sqL;rw[aH];exact aT (List.length_filter_le _ _) (by rw[sP];exact aB _)
def aH5:Φ:=λds Q=> ∃m:Int,ds=[.int m]/\Q (.ow<|(prL.filter<|sqB m).map .int)
def aT3:US:=(tI 1)
def aT4:US:=(aV (kI (aJ7<|a9 (uC<|.int 2)<|a9 (uC<|.int 200) aK) (cR 2)<|gH (b78 (cQ<|uOp (j2 false) (uOp oE (aC 0)<|uOp j9 (aC 2)<|aC 2)<|uC<|.int 0)<|cQ<|aP b00<|a9 (gC [2] [none,some 2,none] 2 (aJ7<|a9 (uC<|.int 2)<|a9 (aC 2) aK) (cR 0) (λρ Q=>Q true ρ)<|uOp (nB λi j=>decide (j<i)) (uOp oE (aC 1)<|aC 0)<|uC<|.int 0) aK) (aZ7 1<|aC 2) dZ) aT3)
def aH6:US:=(aV (cE 1<|lD aK) aT4)
theorem c37: ∀ds Q,aH5 ds Q->aH6 {nx:=λ_=>Q (.pu .non),rt:=Q} (init ["a","f","p"] ds):=by
 rintro ds Q ⟨m,rfl,h⟩;unfold aH6;show(aV _ _:US) _ [some<|.pu<|.int m,none,none];rw[aU];walk_at "u";refine⟨ac,?_⟩
 unfold aT4;rw[aU];refine bV 198 (λi=> .int (2+(i:Int))) [some<|.pu<|.int m,some<|.ow [],none] (λQ' q=> ?_) (λi ρ=> ∃x,ρ=[some<|.pu<|.int m,some<|.ow<|(sqL m i).map .int,x]) ⟨none,rfl⟩ ?_ ?_
 ·walk_at "u"
  refine⟨⟨ac,ac,ac,ac⟩,?_⟩
  exact q
 ·rintro i ρ hi ⟨x,rfl⟩;rw[cT8];have p2:(2:Int)<=2+(i:Int):=ad
  have p3:2+(i:Int)<200:=ad
  have pq:0< (2+(i:Int))*(2+(i:Int)):=yD ad ad
  walk_at "u"
  refine⟨ae,cmL ad ad,ad,?_⟩
  rw[dY _ pq]
  by_cases c:m%((2+(i:Int))*(2+(i:Int)))=0
  ·rw[a7 c,show sqB m (2+(i:Int))=true from dP c,xW]
   refine fG (t0:=0) i (λk=> .int (2+(k:Int))) [some<|.pu<|.int m,some<|.ow<|(sqL m i).map .int,some<|.pu<|.int<|2+(i:Int)] (λQ' q=> ?_) ad (λx l'=>[x,some<|.pu<|.int<|2+(i:Int),some<|.ow l']) none rfl (λ_ _ _=>rfl) (λ_ _=>cY _) (λ_ _ _ q=>q) (λ_ _ _=>rfl) (λk:Nat=> .bl (decide (0< (2+(i:Int))%(2+(k:Int))))) ?_ ?_
   ·walk_at "u"
    refine⟨⟨ac,ac,ad,ad⟩,?_⟩
    rw[show(2+(i:Int)-2).toNat=i by lia]
    exact q
   ·intro k l' Q' hk q;walk_at "u";refine⟨ad,?_⟩
    rw[dY _ ad]
    exact q
   ·have e:(List.range i).map (λk:Nat=>D.bl (decide (0< (2+(i:Int))%(2+(k:Int)))))=((List.range i).map λk:Nat=>decide (0< (2+(i:Int))%(2+(k:Int)))).map D.bl:=by rw[fA];rfl
    rw[e];dsimp only;rw[iY];dsimp only;change (if prD i=true then _ else _)
    by_cases d:prD i=true
    ·rw[a7 d,a7 d];refine⟨?_,some<|.pu<|.int<|2+(i:Int),?_⟩
     ·rw[aH];exact kN (d60 m i) (b9 hi ac)
     ·rw[cN];rfl
    ·rw[a6 d,a6 d,i7];exact⟨_,rfl⟩
  ·rw[a6 c,show sqB m (2+(i:Int))=false from cL c,Bool.false_and,a6 ac,i7]
   exact⟨_,rfl⟩
 ·rintro ρ ⟨x,rfl⟩;dsimp only;unfold aT3;walk_at "u";rw[d59];exact h
def b46:Φ:=λds Q=> ∃(n a b:Nat) (f:Nat->Int) (z:Int),ds=[aX<|rwF n f,.int z]/\d99 n a b f z/\Q (.pu<|.int<|ps f z n)
def b47:US:=(aV (cE 2<|uC<|.int 0)<|aV (kI (c71<|a9 (aC 0) aK) (cR 3)<|cE 2<|uOp jU (uOp j9 (aC 2)<|aC 1)<|aC 3)<|tI 2)
theorem cT9: ∀ds Q,b46 ds Q->b47 {nx:=λ_=>Q (.pu .non),rt:=Q} (init ["f","z","v","c"] ds):=by
 rintro ds Q ⟨n,a,b,f,z,rfl,ok,h⟩;unfold b47;simp only[aX];show(aV _ _:US) _ [some<|.pu<|.tup<|(rwF n f).map .int,some<|.pu<|.int z,none,none];walk_at "u";refine bV n (λk=>((rwF n f).map D.int).getD (n-1-k) .non) [some<|.pu<|.tup<|(rwF n f).map .int,some<|.pu<|.int z,some<|.pu<|.int 0,none] ?_
  (λk ρ=> ∃c,ρ=[some<|.pu<|.tup<|(rwF n f).map .int,some<|.pu<|.int z,some<|.pu<|.int<|hor f n z k,c]) ⟨none,rfl⟩ ?_ ?_
 ·intro Q' q;walk_at "u";rw[bH];exact q
 ·rintro k ρ hk ⟨c,rfl⟩;rw[nW aa]
  walk_at "u"
  have room:=ok.room;have:(b+1)*k<=(b+1)*n:=i5 _ aa
  exact⟨ae,.inr ⟨Sm.pow (aP6 ok.fb ok.zb k) aa,Sm.pow ok.zb (by have:=ok.b8;omega)⟩,_,rfl⟩
 ·rintro ρ ⟨c,rfl⟩;walk_at "u";rw[c83];exact h
def rW:Φ:=λds Q=> ∃(U V e:Nat) (u b:Nat->Int),ds=[aX<|rwF U u,aX<|rwF V b]/\1<=U/\U<=100/\1<=V/\V<=100/\e<8000/\(∀j,V<=j->b j=0)/\(∀j,(u j).natAbs<=2^e)/\(∀j,(b j).natAbs<=2^e)/\Q (.pu<|aX<|rwF (U+V-1)<|conv u b U)
def yZ:US:=(aV (cE 2<|uOp j9 (lD<|a9 (uC<|.int 0) aK)<|uOp M.gSub (uOp jU (gN<|aO 0)<|gN<|aO 1)<|uC<|.int 1)<|aV (kI (kG<|a9 (gN<|aO 0) aK) (cR 3)<|kI (kG<|a9 (gN<|aO 1) aK) (cR 4)<|bC1 2 (uOp jU (uIx (aO 2)<|uOp jU (aC 3)<|aC 4)<|uOp j9 (uIx (aO 0)<|aC 3)<|uIx (aO 1)<|aC 4)<|uOp jU (aC 3)<|aC 4)<|dE<|aP fO<|a9 (aC 2) aK)
theorem cU0 (u b:Nat->Int)(i N:Nat):(rwF N λm=>if m<i+0 then conv u b (i+1) m else conv u b i m)=rwF N (conv u b i):=by
 apply jZ
 intro m hm
 by_cases c:m<i+0
 ·rw[a7 c];show conv u b i m+u i*shF b i m=_;unfold shF;rw[a6 aa]
  omega
 ·rw[a6 c]
theorem cU1 {u b:Nat->Int}{i V N:Nat}(hz: ∀j,V<=j->b j=0):(rwF N λm=>if m<i+V then conv u b (i+1) m else conv u b i m)=rwF N (conv u b (i+1)):=by
 apply jZ
 intro m hm
 by_cases c:m<i+V
 ·rw[a7 c]
 ·rw[a6 c];show _=conv u b i m+u i*shF b i m;unfold shF;rw[a7 aa,hz _ aa]
  omega
theorem cU2 (u b:Nat->Int)(i j N:Nat):(rwF N λx=>if x=i+j then conv u b i (i+j)+u i*b j else if x<i+j then conv u b (i+1) x else conv u b i x)=rwF N λm=>if m<i+(j+1)then conv u b (i+1) m else conv u b i m:=by
 apply jZ
 intro m hm
 by_cases c:m=i+j
 ·subst c;rw[a7 rfl,a7 aa]
  show _=conv u b i (i+j)+u i*shF b i (i+j)
  unfold shF;rw[a7 aa,show i+j-i=j by omega]
 ·rw[a6 c]
  by_cases c3:m<i+j
  ·rw[a7 c3,a7 aa]
  ·rw[a6 c3,a6 aa]
theorem bK2: ∀ds Q,rW ds Q->yZ {nx:=λ_=>Q (.pu .non),rt:=Q} (init ["l","r","w","i","j"] ds):=by
 rintro ds Q ⟨U,V,e,u,b,rfl,U1,U9,V1,V9,e8,hz,hu,hb,h⟩;unfold yZ;simp only[aX];show(aV _ _:US) _ [some<|.pu<|.tup<|(rwF U u).map .int,some<|.pu<|.tup<|(rwF V b).map .int,none,none,none];walk_at "u";rw[bH,bH,show(U:Int)+(V:Int)-1=((U+V-1:Nat):Int)by omega,eM,bE0]
 refine⟨ac,⟨aa,aa,aT (show 1*(U+V-1)<=300 by omega) ac⟩,?_⟩
 refine bV U (λi=> .int (0+i)) [some<|.pu<|.tup<|(rwF U u).map .int,some<|.pu<|.tup<|(rwF V b).map .int,some<|.ow<|(rwF (U+V-1) λ_=>0).map .int,none,none] ?_
  (λi ρ=> ∃x y,ρ=[some<|.pu<|.tup<|(rwF U u).map .int,some<|.pu<|.tup<|(rwF V b).map .int,some<|.ow<|(rwF (U+V-1)<|conv u b i).map .int,x,y]) ⟨none,none,rfl⟩ ?_ ?_
 ·intro Q' q;walk_at "u";rw[bH];refine⟨⟨aa,aa⟩,?_⟩
  rw[eM];exact q
 ·rintro i ρ hi ⟨x,y,rfl⟩;rw[d5];refine⟨ae,?_⟩
  show(kI _ _ _:US) _ [some<|.pu<|.tup<|(rwF U u).map .int,some<|.pu<|.tup<|(rwF V b).map .int,some<|.ow<|(rwF (U+V-1)<|conv u b i).map .int,some<|.pu<|.int (i:Int),y]
  refine bV V (λj=> .int (0+j)) [some<|.pu<|.tup<|(rwF U u).map .int,some<|.pu<|.tup<|(rwF V b).map .int,some<|.ow<|(rwF (U+V-1)<|conv u b i).map .int,some<|.pu<|.int (i:Int),y] ?_
   (λj ρ=> ∃y,ρ=[some<|.pu<|.tup<|(rwF U u).map .int,some<|.pu<|.tup<|(rwF V b).map .int,some<|.ow<|(rwF (U+V-1) λm=>if m<i+j then conv u b (i+1) m else conv u b i m).map .int,some<|.pu<|.int (i:Int),y]) ⟨y,by rw[cU0]⟩ ?_ ?_
  ·intro Q' q;walk_at "u";rw[bH];refine⟨⟨aa,aa⟩,?_⟩
   rw[eM];exact q
  ·rintro j ρ hj ⟨y,rfl⟩;rw[d5];have hij:i+j<U+V-1:=aa
   have c2:(i:Int)+(j:Int)=((i+j:Nat):Int):=aa
   walk_at "u"
   rw[c2,qX hij,qX hi,qX hj];dsimp only;rw[bH,bI4 hij,a6<|show ¬i+j<i+j by omega]
   refine⟨ae,.inr ⟨Sm.pow (hu i) aa,Sm.pow (hb j) aa⟩,some<|.pu<|.int (j:Int),?_⟩
   rw[aX4 hij,cU2]
  ·rintro ρ ⟨y,rfl⟩;rw[cU1 hz];exact⟨_,_,rfl⟩
 ·rintro ρ ⟨x,y,rfl⟩;walk_at "u";exact h
theorem c97 {b:Nat->Int}{d:Nat}(h1:b d=1)(hb: ∀j,d<j->b j=0): ∀(N:Nat) {f:Nat->Int},(∀m,N+d<=m->f m=0)-> ∀m,d<=m->divL b d N f m=0
 | 0,f,h,m,hm=>h m ad
 | N+1,f,h,m,hm=>by
  refine c97 h1 hb N (f:=divS b d N f) (λm hm=> ?_) m hm
  unfold divS shF;rw[a7 ad]
  by_cases c:m=N+d
  ·rw[c,show N+d-N=d by lia,h1]
   lia
  ·rw[h m ad,hb (m-N) ad]
   lia
theorem cU3 (b g:Nat->Int)(d i j L:Nat):(rwF L λx=>if x=i+j then g (i+j)-g (i+d)*b j else if x<i+j then divS b d i g x else g x)=rwF L λm=>if m<i+(j+1)then divS b d i g m else g m:=by
 apply jZ
 intro m hm
 by_cases c:m=i+j
 ·subst c;rw[a7 rfl,a7 ad]
  unfold divS shF;rw[a7 ad,show i+j-i=j by lia]
 ·rw[a6 c]
  by_cases c3:m<i+j
  ·rw[a7 c3,a7 ad]
  ·rw[a6 c3,a6 ad]
theorem cG0 (b g:Nat->Int)(d i L:Nat):(rwF L λm=>if m<i+0 then divS b d i g m else g m)=rwF L g:=by
 apply jZ
 intro m hm
 by_cases c:m<i+0
 ·rw[a7 c];unfold divS shF;rw[a6 ad]
  lia
 ·rw[a6 c]
theorem cG1 {b:Nat->Int}{d:Nat}(hb: ∀j,d<j->b j=0)(g:Nat->Int)(i L:Nat):(rwF L λm=>if m<i+(d+1)then divS b d i g m else g m)=rwF L (divS b d i g):=by
 apply jZ
 intro m hm
 by_cases c:m<i+(d+1)
 ·rw[a7 c]
 ·rw[a6 c];unfold divS shF;rw[a7 ad,hb _ ad]
  lia
def bK3:Φ:=λds Q=> ∃(L d a e:Nat) (f b:Nat->Int),ds=[aX<|rwF L f,aX<|rwF (d+1) b]/\c27 L d a e f b/\d+1<=L/\(∀m,L<=m->f m=0)/\Q (.pu<|aX<|rwF (fK (divL b d (L-d) f) L)<|divL b d (L-d) f)
def b48:US:=(dE<|aP fO<|a9 (aC 2) aK)
def bT9:US:=(aV (aZ4 (b78 (cQ<|uOp (nB λi j=>decide (j<i)) (gN<|aO 2)<|uC<|.int 0)<|cQ<|uOp (j2 false) (uIx (aO 2)<|jA<|uC<|.int 1)<|uC<|.int 0)<|uPop 2) b48)
def bU0:US:=(aV (cE 2<|uSl (aO 2) yH<|wF<|aC 3) bT9)
def bU1:US:=(aV (kI (bC9<|a9 (uOp M.gSub (uOp M.gSub (gN<|aO 0)<|uC<|.int 1)<|aC 3)<|a9 (jA<|uC<|.int 1)<|a9 (jA<|uC<|.int 1) aK) (cR 4)<|aV (cE 5<|uIx (aO 2)<|uOp jU (aC 4)<|aC 3)<|kI (kG<|a9 (gN<|aO 1) aK) (cR 6)<|bC1 2 (uOp M.gSub (uIx (aO 2)<|uOp jU (aC 4)<|aC 6)<|uOp j9 (aC 5)<|uIx (aO 1)<|aC 6)<|uOp jU (aC 4)<|aC 6) bU0)
def bU2:US:=(aV (cE 3<|uOp M.gSub (gN<|aO 1)<|uC<|.int 1) bU1)
def bK4:US:=(aV (cE 2<|aP a83<|a9 (aC 0) aK) bU2)
theorem d61: ∀ds Q,bK3 ds Q->bK4 {nx:=λ_=>Q (.pu .non),rt:=Q} (init ["f","g","l","w","a","p","j"] ds):=by
 rintro ds Q ⟨L,d,a,e,f,b,rfl,ok,dL,hf,h⟩;have L9:=ok.L9;have d9:=ok.d9;have room:=ok.room;unfold bK4;simp only[aX]at h⊢;show(aV _ _:US) _ [some<|.pu<|.tup<|(rwF L f).map .int,some<|.pu<|.tup<|(rwF (d+1) b).map .int,none,none,none,none,none];rw[aU];walk_at "u";unfold bU2;rw[aU];walk_at "u";rw[bH];have e1:((d+1:Nat):Int)-1=(d:Int):=ad
 rw[e1];obtain⟨N,hN⟩: ∃N:Nat,N=L-d:=⟨_,rfl⟩;rw[<-hN]at h;unfold bU1;rw[aU];refine bV N (λk=> .int (((N:Int))-1-k)) [some<|.pu<|.tup<|(rwF L f).map .int,some<|.pu<|.tup<|(rwF (d+1) b).map .int,some<|.ow<|(rwF L f).map .int,some<|.pu<|.int (d:Int),none,none,none] ?_
  (λk ρ=> ∃g z4 z5 z6,ρ=[some<|.pu<|.tup<|(rwF L f).map .int,some<|.pu<|.tup<|(rwF (d+1) b).map .int,some<|.ow<|(rwF L g).map .int,some<|.pu<|.int (d:Int),z4,z5,z6]/\
   divL b d (N-k) g=divL b d N f/\ ∀m,m<L->(g m).natAbs<=2^(a+(e+1)*k))
  ⟨f,none,none,none,rfl,rfl,λm hm=>by simpa using ok.fb m hm⟩ ?_ ?_
 ·intro Q' q;simp only[bC9];walk_at "u";rw[bH];refine⟨trivial,⟨ad,ad,ad,ad⟩,?_⟩
  rw[show((L:Int)-1-(d:Int)- -1).toNat=N by lia,show(L:Int)-1-(d:Int)=(N:Int)-1 by lia]
  exact q
 ·rintro k ρ hk ⟨g,z4,z5,z6,rfl,hL,hb⟩;obtain⟨i,hi⟩: ∃i:Nat,i=N-1-k:=⟨_,rfl⟩;have ei:(N:Int)-1-(k:Int)=(i:Int):=ad
  have hiN:i<N:=ad
  have hid:i+d<L:=ad
  rw[ei];have c1:(i:Int)+(d:Int)=((i+d:Nat):Int):=ad
  walk_at "u"
  rw[c1,qX hid];dsimp only;refine⟨ae,?_⟩
  have smg:Sm (g<|i+d):=Sm.pow (hb _ hid) (by
   have:(e+1)*k<=(e+1)*L:=i5 _ ad
   lia)
  refine bV (d+1) (λj=> .int (0+(j:Int))) [some<|.pu<|.tup<|(rwF L f).map .int,some<|.pu<|.tup<|(rwF (d+1) b).map .int,some<|.ow<|(rwF L g).map .int,some<|.pu<|.int (d:Int),some<|.pu<|.int (i:Int),some<|.pu<|.int<|g<|i+d,z6] ?_
   (λj ρ=> ∃z6,ρ=[some<|.pu<|.tup<|(rwF L f).map .int,some<|.pu<|.tup<|(rwF (d+1) b).map .int,some<|.ow<|(rwF L λm=>if m<i+j then divS b d i g m else g m).map .int,some<|.pu<|.int (d:Int),some<|.pu<|.int (i:Int),some<|.pu<|.int<|g<|i+d,z6]) ⟨z6,by rw[cG0]⟩ ?_ ?_
  ·intro Q' qq;walk_at "u";rw[bH];refine⟨⟨ad,ad⟩,?_⟩
   rw[eM];exact qq
  ·rintro j ρ hj ⟨z6,rfl⟩;rw[d5];have hij:i+j<L:=ad
   have c2:(i:Int)+(j:Int)=((i+j:Nat):Int):=ad
   walk_at "u"
   rw[c2,qX hij,qX hj];dsimp only;rw[bH,bI4 hij,a6<|show ¬i+j<i+j by lia]
   refine⟨ae,.inr ⟨smg,Sm.pow (ok.bb j) (by have:=ok.e8;lia)⟩,some<|.pu<|.int (j:Int),?_⟩
   rw[aX4 hij,cU3]
  ·rintro ρ ⟨z6,rfl⟩;rw[cG1 ok.beyond];have en:N-k=i+1:=ad
   have en2:N-(k+1)=i:=ad
   rw[en]at hL;refine⟨_,_,_,_,rfl,by rw[en2];exact hL,?_⟩
   have:=b25 hid hb ok.bb;rw[show a+(e+1)*(k+1)=a+(e+1)*k+(e+1)by rw[xZ];lia]
   exact this
 ·rintro ρ ⟨g,z4,z5,z6,rfl,hL,hb⟩;dsimp only;rw[n6]at hL;have hg:g=divL b d N f:=hL;subst hg;have hz: ∀m,d<=m->divL b d N f m=0:=c97 ok.one ok.beyond N λm hm=>hf m ad
  generalize divL b d N f=g at *;unfold bU0;rw[aU];walk_at "u";rw[c24 _ _ (by rw[bH];lia),<-sY,bR4 _ _ _ ad]
  have ec:fK g L=fK g d:=rT (by have:=rS g d;lia) (λm h1 h2=>by
   by_cases c:m<d
   ·exact aP4 g d m h1 c
   ·exact hz m ad) (aP3 g d)
  rw[ec]at h;unfold bT9;rw[aU];refine⟨λm ρ=>ρ=[some<|.pu<|.tup<|(rwF L f).map .int,some<|.pu<|.tup<|(rwF (d+1) b).map .int,some<|.ow<|(rwF m g).map .int,some<|.pu<|.int (d:Int),z4,z5,z6]/\m<=d/\fK g m=fK g d,⟨d,rfl,aB _,rfl⟩,?_⟩
  rintro m ρ ⟨rfl,hm,hc⟩;have fin:fK g m=m->Q (.pu<|.tup<|(rwF m g).map D.int):=λe=>by
   rw[<-hc,e]at h;exact h
  walk_at "u"
  rw[bH];split
  ·rename_i h0
   obtain⟨m',rfl⟩: ∃m',m=m'+1:=⟨m-1,ad⟩
   rw[a33 ad]
   dsimp only;rw[show m'+1-1=m' by lia]
   split
   ·rename_i h1
    refine⟨?_,m',ad,?_,ad,?_⟩
    ·intro z;have:=bP length z;rw[bH]at this;simp at this
    ·have e5:((rwF (m'+1) g).map D.int).dropLast=(rwF m' g).map D.int:=by
      unfold rwF;rw[jN];simp
     rw[e5]
    ·rw[<-hc];show _=if g m'=0 then fK g m' else m'+1;rw[a7 h1]
   ·rename_i h1
    unfold b48;walk_at "u";refine fin ?_;show(if g m'=0 then fK g m' else m'+1)=m'+1;rw[a6 h1]
  ·have:m=0:=ad
   subst this;unfold b48;walk_at "u";exact fin rfl
structure d62 (n:Nat)(f:Nat->Int)(p:Int)(x:(Nat×(Nat->Int))×Nat):Prop where
 rf:RF n f
 pr:p∈prL
 mx:MP p x.1.1 x.1.2
 d1:1<=x.1.1
 d2:x.1.1<=2
 dn:x.1.1<=n
 k1:1<=x.2
 k4:x.2<=4
 nr:x.1.1=2->NoR p x.1
 fine:2<=x.2-> ∃c∈jC n f x.1,c%(p*p)≠0
def bK5:Φ:=λds Q=> ∃(n:Nat) (f:Nat->Int) (p:Int) (x:(Nat×(Nat->Int))×Nat),ds=[aX<|rwF (n+1) f,.int p,ptD n f x]/\d62 n f p x/\Q (.pu<|.bl true)
def bU3:US:=(dE<|uOrV (uOp (j2 false) (aC 4)<|uC<|.int 1)<|aP d25<|a9 (gC [1] [none,some 1,none] 2 (iL<|aC 6) (cR 0) (λρ Q=>Q true ρ)<|uOp (nB λi j=>decide (j<i)) (uOp oE (aC 0)<|uOp j9 (aC 1)<|aC 1)<|uC<|.int 0) aK)
def b49:US:=(aV (gH (uOr (a96<|cQ<|aP bK0<|a9 (aC 5)<|a9 (gN<|aO 6) aK)<|cQ<|uOp (cM9 true) (aC 5)<|aC 6) (dE<|uC<|.bl false) dZ) bU3)
def b50:US:=(aV (cE 6<|aP bK3<|a9 (aC 0)<|a9 (aC 3) aK) b49)
def bU4:US:=(aV (gH (b78 (cQ<|uOp (j2 false) (gN<|aO 3)<|uC<|.int 3)<|cQ<|aP d25<|a9 (gC [3,1] [none,some 3,some 1,none] 3 (kG<|a9 (aC 1) aK) (cR 0) (λρ Q=>Q true ρ)<|uOp (j2 false) (uOp oE (aP b46<|a9 (aC 1)<|a9 (aC 0) aK)<|aC 2)<|uC<|.int 0) aK) (dE<|uC<|.bl false) dZ) b50)
def bU5:US:=(aV (gH (uOr (a96<|cQ<|aP b00<|a9 (gC [1] [none,some 1,none] 2 (iL<|aC 3) (cR 0) (λρ Q=>Q true ρ)<|c05 (nB λi j=>decide (i<=j)) (nB λi j=>decide (i<j)) (uC<|.int 0) (aC 0)<|aC 1) aK)<|uOr (a96<|cQ<|aP wL<|a9 (aC 4) aK)<|cQ<|uOp (nB λi j=>decide (i<j)) (aC 4)<|uC<|.int 1) (dE<|uC<|.bl false) dZ) bU4)
def bU6:US:=(aV (gH (uOr (a96<|cQ<|aP b80<|a9 (aC 3)<|a9 (uC<|.ty "tuple") aK)<|uOr (cQ<|uOp (nB λi j=>decide (i<j)) (gN<|aO 3)<|uC<|.int 2)<|uOr (cQ<|uOp (nB λi j=>decide (j<i)) (gN<|aO 3)<|uC<|.int 3)<|uOr (a96<|cQ<|aP bK0<|a9 (aC 3)<|a9 (gN<|aO 3) aK)<|cQ<|uOp (j2 true) (uIx (aO 3)<|jA<|uC<|.int 1)<|uC<|.int 1) (dE<|uC<|.bl false) dZ) bU5)
def bU7:US:=(aV (cC9 (aC 2)<|rL<|fB 3<|fB 4<|fB 5 rK) bU6)
def bK6:US:=(aV (gH (uOr (a96<|cQ<|aP b80<|a9 (aC 2)<|a9 (uC<|.ty "tuple") aK)<|cQ<|uOp (j2 true) (gN<|aO 2)<|uC<|.int 3) (dE<|uC<|.bl false) dZ) bU7)
theorem d63: ∀ds Q,bK5 ds Q->bK6 {nx:=λ_=>Q (.pu .non),rt:=Q} (init ["f","p","a","g","t","l","u"] ds):=by
 rintro ds Q ⟨n,f,p,x,rfl,ok,h⟩;obtain⟨rf,pr,mx,d1,d2,dn,k1,k4,nr,fine⟩:=ok;have pp:=yT pr;have p2:=pp.lo;have p3:=pp.hi;have n4:=rf.n4;obtain⟨⟨m,g⟩,k⟩:=x;dsimp only at *;have rl:(jC n f (m,g)).length<=1000:=by
  unfold jC;rw[a88];have:=rS (divL g m (n+1-m) f) (n+1)
  lia
 unfold bK6 ptD;simp only[aX];show(aV _ _:US) _ [some<|.pu<|.tup<|(rwF (n+1) f).map .int,some<|.pu<|.int p,some<|.pu<|.tup [.tup<|(rwF (m+1) g).map .int,.int (k:Int),.tup<|(jC n f (m,g)).map .int],none,none,none,none];rw[aU];walk_at "u";rw[a6 ac]
 unfold bU7;rw[aU];walk_at "u";refine⟨ac,ac,ac,trivial,?_⟩
 unfold bU6;rw[aU];walk_at "u";rw[bH];rw[a6 ad,a6 ad]
 refine⟨rwF (m+1) g,by simp only[aX,a88],by rw[a88];lia,?_⟩
 dsimp only;rw[a6 ac,a33 ad]
 dsimp only;rw[show m+1-1=m by lia,mx.top,a6 ac]
 unfold bU5;rw[aU];walk_at "u"
 refine fG (t0:=0) (m+1) (λj=>((rwF (m+1) g).map D.int).getD j .non) [some<|.pu<|.tup<|(rwF (n+1) f).map .int,some<|.pu<|.int p,some<|.pu<|.tup [.tup<|(rwF (m+1) g).map .int,.int (k:Int),.tup<|(jC n f (m,g)).map .int],some<|.pu<|.tup<|(rwF (m+1) g).map .int,some<|.pu<|.int (k:Int),some<|.pu<|.tup<|(jC n f (m,g)).map .int,none] (λQ' q=> ?_) ad (λx l'=>[x,some<|.pu<|.int p,some<|.ow l']) none rfl (λ_ _ _=>rfl) (λ_ _=>cY _) (λ_ _ _ q=>q) (λ_ _ _=>rfl) (λ_=> .bl true) ?_ ?_
 ·walk_at "u"
  rw[bH];exact q
 ·intro j l' Q' hj q;have:=mx.rng j;rw[nW hj];walk_at "u";rw[a7 this.1,dP this.2];rw[nW hj]at q;exact q
 ·have e:(List.range<|m+1).map (λ_=>D.bl true)=((List.range<|m+1).map λ_=>true).map D.bl:=by rw[fA];rfl
  rw[e];dsimp only;rw[iY];dsimp only;rw[show((List.range<|m+1).map λ_=>true).all id=true by simp]
  rw[a6 ac]
  walk_at "u"
  refine⟨(k:Int),rfl,?_⟩
  dsimp only;rw[a6 ac]
  rw[a6 ad]
  have go5:b50 {nx:=λ_=>Q (.pu .non),rt:=Q} [some<|.pu<|.tup<|(rwF (n+1) f).map .int,some<|.pu<|.int p,some<|.pu<|.tup [.tup<|(rwF (m+1) g).map .int,.int (k:Int),.tup<|(jC n f (m,g)).map .int],some<|.pu<|.tup<|(rwF (m+1) g).map .int,some<|.pu<|.int (k:Int),some<|.pu<|.tup<|(jC n f (m,g)).map .int,none]:=by
   unfold b50;rw[aU];walk_at "u";refine⟨n+1,m,9,8,f,g,rfl,bJ0 pp n4 rf.fb (g:=(m,g)) mx ad,ad,λj hj=>rf.hi j ad,?_⟩
   change b49 _ [some<|.pu<|.tup<|(rwF (n+1) f).map .int,some<|.pu<|.int p,some<|.pu<|.tup [.tup<|(rwF (m+1) g).map .int,.int (k:Int),.tup<|(jC n f (m,g)).map .int],some<|.pu<|.tup<|(rwF (m+1) g).map .int,some<|.pu<|.int (k:Int),some<|.pu<|.tup<|(jC n f (m,g)).map .int,some<|.pu<|.tup<|(jC n f (m,g)).map .int]
   generalize jC n f (m,g)=r at *;unfold b49;rw[aU];walk_at "u";rw[aH];refine⟨r,rfl,rl,?_⟩;dsimp only;rw[a6 ac]
   refine bR3 (a:=r) (b:=r) ?_
   rw[dP rfl,kS];dsimp only;rw[a6 ac]
   unfold bU3;walk_at "u"
   by_cases ck:k=1
   ·rw[a7 ad]
    exact h
   ·rw[a6 ad]
    have pq:0<p*p:=yD ad ad
    refine fG (t0:=0) r.length (λj=>(r.map D.int).getD j .non) [some<|.pu<|.tup<|(rwF (n+1) f).map .int,some<|.pu<|.int p,some<|.pu<|.tup [.tup<|(rwF (m+1) g).map .int,.int (k:Int),.tup<|r.map .int],some<|.pu<|.tup<|(rwF (m+1) g).map .int,some<|.pu<|.int (k:Int),some<|.pu<|.tup<|r.map .int,some<|.pu<|.tup<|r.map .int] (λQ' q=> ?_) ad (λx l'=>[x,some<|.pu<|.int p,some<|.ow l']) none rfl (λ_ _ _=>rfl) (λ_ _=>cY _) (λ_ _ _ q=>q) (λ_ _ _=>rfl) (λj=> .bl (decide (0<r.getD j 0%(p*p)))) ?_ ?_
    ·walk_at "u"
     rw[aH];exact q
    ·intro j l' Q' hj q;have e3:(r.map D.int).getD j .non= .int (r.getD j 0):=by
      rw[aI,bI,aI,aJ hj];rfl
     rw[e3]at q⊢;walk_at "u";refine⟨cmL ad ad,ad,?_⟩
     rw[dY _ pq];exact q
    ·have e:(List.range r.length).map (λj=>D.bl (decide (0<r.getD j 0%(p*p))))=((List.range r.length).map λj=>decide (0<r.getD j 0%(p*p))).map D.bl:=by rw[fA];rfl
     rw[e];dsimp only;rw[iY];dsimp only;obtain⟨c,hc,hn⟩:=fine ad
     have:((List.range r.length).map λj=>decide (0<r.getD j 0%(p*p))).any id=true:=by
      rw[List.any_eq_true];obtain⟨j,hj,rfl⟩:=xH hc;refine⟨_,fT.mpr ⟨j,dW.mpr hj,rfl⟩,?_⟩;have:=cM r[j] (show p*p≠0 by lia)
      rw[aI,aJ hj];exact dP (by show 0<r[j]%(p*p);lia)
     rw[this];exact h
  unfold bU4;rw[aU];walk_at "u";rw[bH]
  by_cases c2:m=2
  ·rw[a7 ad]
   refine fG (t0:=0) p.toNat (λk=> .int (0+(k:Int))) [some<|.pu<|.tup<|(rwF (n+1) f).map .int,some<|.pu<|.int p,some<|.pu<|.tup [.tup<|(rwF (m+1) g).map .int,.int (k:Int),.tup<|(jC n f (m,g)).map .int],some<|.pu<|.tup<|(rwF (m+1) g).map .int,some<|.pu<|.int (k:Int),some<|.pu<|.tup<|(jC n f (m,g)).map .int,none] (λQ' q=> ?_) ad (λx l'=>[x,some<|.pu<|.tup<|(rwF (m+1) g).map .int,some<|.pu<|.int p,some<|.ow l']) none rfl (λ_ _ _=>rfl) (λ_ _=>cY _) (λ_ _ _ q=>q) (λ_ _ _=>rfl) (λj:Nat=> .bl (decide (ps g (j:Int) (m+1)%p=0))) ?_ ?_
   ·walk_at "u"
    exact⟨⟨ad,ad⟩,q⟩
   ·intro j l' Q' hj q;rw[d5]at q⊢;walk_at "u";refine⟨m+1,8,8,g,(j:Int),rfl,⟨λi=>b31 pp mx i,ad,ad,ac,ad⟩,?_⟩
    walk_at "u"
    refine⟨ad,?_⟩
    rw[dY _ ad]
    exact q
   ·have e:(List.range p.toNat).map (λj:Nat=>D.bl (decide (ps g (j:Int) (m+1)%p=0)))=((List.range p.toNat).map λj:Nat=>decide (ps g (j:Int) (m+1)%p=0)).map D.bl:=by rw[fA];rfl
    rw[e];dsimp only;rw[iY];dsimp only;rw[no_any λk hk=>cL (NoR.any p2 (nr c2) k hk)]
    rw[a6 ac]
    exact go5
  ·rw[a6 ad]
   exact go5
theorem c98 {u b:Nat->Int}{A C:Nat}(hu: ∀j,(u j).natAbs<=A)(hb: ∀j,(b j).natAbs<=C): ∀(n m:Nat),(conv u b n m).natAbs<=n*(A*C)
 | 0,m=>by simp[conv]
 | n+1,m=>by
  show(conv u b n m+u n*shF b n m).natAbs<=_
  have ih:=c98 hu hb n m;have h1:(u n*shF b n m).natAbs<=A*C:=by
   rw[gL];refine iU (hu n) ?_;unfold shF;split
   ·exact hb _
   ·exact d6 _
  have:=xL (conv u b n m) (u n*shF b n m);rw[succ_mul]
  lia
structure Far (p:Int)(A:Nat×(Nat->Int))(u:Nat->Int):Prop where
 hi: ∀j,A.1<j->u j=0
 cg: ∀j,u j%p=A.2 j
 bd: ∀j,(u j).natAbs<=2^(11*A.1)
theorem Far.one {p:Int}(p2:2<=p):Far p bQ (λj=>if j=0 then 1 else 0):=
 ⟨λj hj=>a6 (by have:0<j:=hj;lia),λj=>by
  show(if j=0 then(1:Int)else 0)%p=if j=0 then 1 else 0
  split
  ·exact cW ac ad
  ·exact cB p,λj=>by show(if j=0 then(1:Int)else 0).natAbs<=2^(11*0);split<;>decide⟩
theorem Far.tm {p:Int}(pp:Pr p){A g:Nat×(Nat->Int)}{u:Nat->Int}(F:Far p A u)(mg:MP p g.1 g.2)(g1:1<=g.1)(a4:A.1<=4):Far p (tm p A g) (conv u g.2 (A.1+1)):=by
 refine⟨λj hj=> ?_,λj=> ?_,λj=> ?_⟩
 ·have hj':A.1+g.1<j:=hj;exact lF (d:=g.1) mg.hi (A.1+1) j ad
 ·show conv u g.2 (A.1+1) j%p=conv A.2 g.2 (A.1+1) j%p
  have e:A.2=md p u:=funext λj=>(F.cg j).symm
  rw[e,b30]
 ·have h:=c98 F.bd (λj=>b31 pp mg j) (A.1+1) j
  refine aT h ?_
  show(A.1+1)*(2^(11*A.1)*2^8)<=2^(11*(A.1+g.1))
  have e1:A.1+1<=2^3:=by have:(2:Nat)^3=8:=rfl;lia
  have e2:2^3*(2^(11*A.1)*2^8)=2^(11*A.1+11):=by rw[<-jQ,<-jQ];congr 1;lia
  exact aT (sK _ e1) (by rw[e2];exact oS ac ad)
noncomputable def c38 (n:Nat)(f:Nat->Int)(p:Int)(xs:List ((Nat×(Nat->Int))×Nat)):D:= .tup [.int p,.lst<|xs.map<|ptD n f]
noncomputable def qQ (x:(Nat×(Nat->Int))×Nat):D:= .tup [.int ((x.1.1+1:Nat):Int),.tup<|(rwF (x.1.1+1) x.1.2).map .int]
def b51:Φ:=λds Q=> ∃(n:Nat) (f:Nat->Int) (p:Int) (xs:List ((Nat×(Nat->Int))×Nat)),ds=[aX<|rwF (n+1) f,.int p,c38 n f p xs]/\RF n f/\p∈prL/\SP p (n,md p f) xs/\(∀x∈xs,d62 n f p x)/\Q (.pu<|.bl true)
def aQ7:US:=(dE<|c64 (uOp (j2 false) (gN<|aO 4)<|gN<|aO 0)<|aP b00<|a9 (gC [1] [none,none,some 1,none] 3 (d16<|a9 (aC 4)<|a9 (aC 0) aK) (rL<|fB 0<|fB 1 rK) (λρ Q=>Q true ρ)<|uOp (j2 false) (uOp oE (uOp M.gSub (aC 0)<|aC 1)<|aC 2)<|uC<|.int 0) aK)
def bE8:US:=(aV (kI (kG<|a9 (gN<|aO 3) aK) (cR 5)<|aV (gH (uOr (b78 (cQ<|uOp (nB λi j=>decide (j<i)) (aC 5)<|uC<|.int 0)<|cQ<|uOp gGeP (uIx (aO 3)<|uOp M.gSub (aC 5)<|uC<|.int 1)<|uIx (aO 3)<|aC 5)<|uOr (cQ<|uOp (nB λi j=>decide (j<i)) (gN<|aO 4)<|gN<|aO 0)<|cQ<|uOp (nB λi j=>decide (j<i)) (uIx (uV<|uIx (uV<|uIx (aO 2)<|uC<|.int 1)<|aC 5)<|uC<|.int 1)<|uC<|.int 4) (dE<|uC<|.bl false) dZ)<|kI (kG<|a9 (uIx (uV<|uIx (uV<|uIx (aO 2)<|uC<|.int 1)<|aC 5)<|uC<|.int 1) aK) (cR 6)<|cE 4<|aP rW<|a9 (aC 4)<|a9 (uIx (uV<|uIx (aO 3)<|aC 5)<|uC<|.int 1) aK) aQ7)
def aQ8:US:=(aV (cE 4<|gF<|a9 (uC<|.int 1) aK) bE8)
def aQ9:US:=(aV (cE 3<|gC [] [none,none] 1 (iL<|uIx (aO 2)<|uC<|.int 1) (cR 0) (λρ Q=>Q true ρ)<|gF<|a9 (gN<|uV<|uIx (aO 0)<|uC<|.int 0)<|a9 (uIx (aO 0)<|uC<|.int 0) aK) aQ8)
def bE9:US:=(aV (gH (uOr (a96<|cQ<|aP b80<|a9 (uIx (aO 2)<|uC<|.int 1)<|a9 (uC<|.ty "list") aK)<|a96<|cQ<|aP b00<|a9 (gC [0,1] [none,some 0,some 1,none] 3 (iL<|uIx (aO 2)<|uC<|.int 1) (cR 0) (λρ Q=>Q true ρ)<|aP bK5<|a9 (aC 1)<|a9 (aC 2)<|a9 (aC 0) aK) aK) (dE<|uC<|.bl false) dZ) aQ9)
def b52:US:=(aV (gH (uOr (a96<|cQ<|aP b80<|a9 (aC 2)<|a9 (uC<|.ty "tuple") aK)<|uOr (cQ<|uOp (j2 true) (gN<|aO 2)<|uC<|.int 2)<|uOr (a96<|cQ<|aP wL<|a9 (uIx (aO 2)<|uC<|.int 0) aK)<|cQ<|uOp (j2 true) (uIx (aO 2)<|uC<|.int 0)<|aC 1) (dE<|uC<|.bl false) dZ) bE9)
theorem d64 {x y:(Nat×(Nat->Int))×Nat}(h:ltP x y):(if((x.1.1+1:Nat):Int)=((y.1.1+1:Nat):Int)then leL (rwF (y.1.1+1) y.1.2) (rwF (x.1.1+1) x.1.2)else decide (((y.1.1+1:Nat):Int)<=((x.1.1+1:Nat):Int)))=false:=by
 unfold ltP at h;rcases h with h| ⟨h1,h2⟩
 ·rw[a6 ad,cL ad]
 ·rw[a7 ad]
  unfold leL;rw[h2];rfl
theorem cU4: ∀ds Q,b51 ds Q->b52 {nx:=λ_=>Q (.pu .non),rt:=Q} (init ["f","p","a","r","w","k","t"] ds):=by
 rintro ds Q ⟨n,f,p,xs,rfl,rf,pr,sp,hx,h⟩;have pp:=yT pr;have p2:=pp.lo;have p3:=pp.hi;have n4:=rf.n4;have xl:=sp.len;have big:(1000:Nat)<=sizeLine:=ac
 unfold b52 c38;simp only[aX];show(aV _ _:US) _ [some<|.pu<|.tup<|(rwF (n+1) f).map .int,some<|.pu<|.int p,some<|.pu<|.tup [.int p,.lst<|xs.map<|ptD n f],none,none,none,none];rw[aU];walk_at "u";rw[a6 ac]
 rw[at0];dsimp only;refine⟨p,rfl,?_⟩;dsimp only;rw[a6 ac,a6 λz=>z rfl]
 unfold bE9;rw[aU];walk_at "u";rw[at1];dsimp only;have xg: ∀j,j<xs.length->(xs.map<|ptD n f).getD j .non=ptD n f (xs.getD j (bQ,0)):=λj hj=>by
  rw[aI,bI,aI,aJ hj];rfl
 have xm: ∀j,j<xs.length->xs.getD j (bQ,0)∈xs:=λj hj=>by
  rw[aI,aJ hj];exact dO hj
 refine fG (t0:=0) xs.length (λj=>(xs.map<|ptD n f).getD j .non) [some<|.pu<|.tup<|(rwF (n+1) f).map .int,some<|.pu<|.int p,some<|.pu<|.tup [.int p,.lst<|xs.map<|ptD n f],none,none,none,none] (λQ' q=> ?_) ad (λx l'=>[x,some<|.pu<|.tup<|(rwF (n+1) f).map .int,some<|.pu<|.int p,some<|.ow l']) none rfl (λ_ _ _=>rfl) (λ_ _=>cY _) (λ_ _ _ q=>q) (λ_ _ _=>rfl) (λ_=> .bl true) ?_ ?_
 ·walk_at "u"
  rw[at1];dsimp only;rw[aH];exact q
 ·intro j l' Q' hj q;rw[xg j hj]at q⊢;walk_at "u";exact⟨n,f,p,_,rfl,hx _<|xm j hj,q⟩
 ·have e:(List.range xs.length).map (λ_=>D.bl true)=((List.range xs.length).map λ_=>true).map D.bl:=by rw[fA];rfl
  rw[e];dsimp only;rw[iY];dsimp only;rw[show((List.range xs.length).map λ_=>true).all id=true by simp]
  rw[a6 ac]
  change aQ9 _ [some<|.pu<|.tup<|(rwF (n+1) f).map .int,some<|.pu<|.int p,some<|.pu<|.tup [.int p,.lst<|xs.map<|ptD n f],none,none,none,none]
  unfold aQ9;rw[aU,yP];refine fG (t0:=0) xs.length (λj=>(xs.map<|ptD n f).getD j .non) [some<|.pu<|.tup<|(rwF (n+1) f).map .int,some<|.pu<|.int p,some<|.pu<|.tup [.int p,.lst<|xs.map<|ptD n f],none,none,none,none] (λQ' q=> ?_) ad (λx l'=>[x,some<|.ow l']) none rfl (λ_ _ _=>rfl) (λ_ _=>cY _) (λ_ _ _ q=>q) (λ_ _ _=>rfl) (λj=>qQ (xs.getD j (bQ,0))) ?_ ?_
  ·walk_at "u"
   rw[at1];dsimp only;rw[aH];exact q
  ·intro j l' Q' hj q;rw[xg j hj]at q⊢;unfold ptD at q⊢;simp only[aX]at q⊢;walk_at "u";rw[a30];dsimp only;rw[bH];exact⟨ac,q⟩
  ·have er:(List.range xs.length).map (λj=>qQ (xs.getD j (bQ,0)))=xs.map qQ:=by
    apply mT
    ·simp
    ·intro i h1 h2;simp at h1;simp[aI,h1]
   rw[er];change aQ8 _ [some<|.pu<|.tup<|(rwF (n+1) f).map .int,some<|.pu<|.int p,some<|.pu<|.tup [.int p,.lst<|xs.map<|ptD n f],some<|.ow<|xs.map qQ,none,none,none];unfold aQ8;rw[aU];walk_at "u";refine⟨ac,?_⟩
   unfold bE8;rw[aU];have dg: ∀k,(allT p bQ<|xs.take k).1<=n:=λk=>by
    have e1:allT p bQ xs=allT p (allT p bQ<|xs.take k) (xs.drop k):=by rw[<-gZ,List.take_append_drop]
    have e2:=aY0 p (xs.drop k) (allT p bQ<|xs.take k);rw[<-e1,sp.prod]at e2;exact e2
   refine bV xs.length (λj=> .int (0+(j:Int))) [some<|.pu<|.tup<|(rwF (n+1) f).map .int,some<|.pu<|.int p,some<|.pu<|.tup [.int p,.lst<|xs.map<|ptD n f],some<|.ow<|xs.map qQ,some<|.pu<|.tup [.int 1],none,none] (λQ' q=> ?_)
    (λk ρ=> ∃u z5 z6,ρ=[some<|.pu<|.tup<|(rwF (n+1) f).map .int,some<|.pu<|.int p,some<|.pu<|.tup [.int p,.lst<|xs.map<|ptD n f],some<|.ow<|xs.map qQ,some<|.pu<|.tup<|(rwF ((allT p bQ<|xs.take k).1+1) u).map .int,z5,z6]/\Far p (allT p bQ<|xs.take k) u) ⟨_,none,none,rfl,Far.one p2⟩ ?_ ?_
   ·walk_at "u"
    rw[aH];refine⟨⟨ad,ad⟩,?_⟩
    rw[eM];exact q
   ·rintro k ρ hk ⟨u,z5,z6,rfl,far⟩;rw[d5];have dk:=dg k;have dk1:=dg (k+1);have ek:allT p bQ (xs.take<|k+1)=powT p (allT p bQ<|xs.take k) (xs.getD k (bQ,0)).1 (xs.getD k (bQ,0)).2:=by
     rw[List.take_succ,aJ hk,gZ,aI,aJ hk];rfl
    rw[ek]at dk1⊢;have lt1:1<=k->ltP (xs.getD (k-1) (bQ,0)) (xs.getD k (bQ,0)):=λz=>by
     rw[aI,aJ<|show k-1<xs.length by lia,aI,aJ hk]
     exact aC0.mp sp.ord (k-1) k ad hk ad
    obtain⟨_,x1,x4,y1,y4,_⟩:=sp.mem _ (xm k hk);have mx:=(hx _<|xm k hk).mx;have rk: ∀j,j<xs.length->atI (xs.map qQ) (j:Int)=some (qQ<|xs.getD j (bQ,0)):=λj hj=>cD (by
     rw[bI,aJ hj,aI,aJ hj];rfl)
    have rkk:=rk k hk;have pk:atI (xs.map<|ptD n f) (k:Int)=some (ptD n f<|xs.getD k (bQ,0)):=cD (by
     rw[bI,aJ hk,aI,aJ hk];rfl)
    generalize xs.getD k (bQ,0)=x at *;generalize allT p bQ (xs.take k)=A at *;have t1:atI [D.tup<|(rwF (x.1.1+1) x.1.2).map .int,.int (x.2:Int),aX<|jC n f x.1] 1=some (.int (x.2:Int)):=cD (j:=1) rfl;have dj: ∀j,j<=x.2->(powT p A x.1 j).1<=4:=λj hj=>by
     rw[iN]at dk1⊢;have:=i5 x.1.1 hj
     lia
    suffices go: ∀U:UD,(U.nx=λρ=> ∃u z5 z6,ρ=[some<|.pu<|.tup<|(rwF (n+1) f).map .int,some<|.pu<|.int p,some<|.pu<|.tup [.int p,.lst<|xs.map<|ptD n f],some<|.ow<|xs.map qQ,some<|.pu<|.tup<|(rwF ((powT p A x.1 x.2).1+1) u).map .int,z5,z6]/\Far p (powT p A x.1 x.2) u)->
      (kI (kG<|a9 (uIx (uV<|uIx (uV<|uIx (aO 2)<|uC<|.int 1)<|aC 5)<|uC<|.int 1) aK) (cR 6) (cE 4<|aP rW<|a9 (aC 4)<|a9 (uIx (uV<|uIx (aO 3)<|aC 5)<|uC<|.int 1) aK):US) U [some<|.pu<|.tup<|(rwF (n+1) f).map .int,some<|.pu<|.int p,some<|.pu<|.tup [.int p,.lst<|xs.map<|ptD n f],some<|.ow<|xs.map qQ,some<|.pu<|.tup<|(rwF (A.1+1) u).map .int,some<|.pu<|.int (k:Int),z6]by
     have ptE:ptD n f x= .tup [.tup<|(rwF (x.1.1+1) x.1.2).map .int,.int (x.2:Int),aX<|jC n f x.1]:=rfl;walk_at "u";refine⟨ae,?_⟩
     simp only[at1,pk,ptE,t1,bH];have i1: ¬(((n+1:Nat):Int)< ((A.1+1:Nat):Int)):=ad
     have i2: ¬((4:Int)< (x.2:Int)):=ad
     by_cases c0:0< (k:Int)
     ·rw[a7 c0,show(k:Int)-1=((k-1:Nat):Int)by lia,rk (k-1) ad]
      have rkx:atI (xs.map qQ) (k:Int)=some (qQ x):=by assumption
      rw[rkx];dsimp only;refine⟨_,_,_,_,rfl,rfl,?_⟩;rw[d64<|lt1 ad]
      dsimp only;rw[a6 ac,a6 i1,a6 i2]
      exact go _ rfl
     ·rw[a6 c0,a6 i1,a6 i2];exact go _ rfl
    intro U hU;have ptE:ptD n f x= .tup [.tup<|(rwF (x.1.1+1) x.1.2).map .int,.int (x.2:Int),aX<|jC n f x.1]:=rfl;refine bV x.2 (λj=> .int (0+(j:Int))) [some<|.pu<|.tup<|(rwF (n+1) f).map .int,some<|.pu<|.int p,some<|.pu<|.tup [.int p,.lst<|xs.map<|ptD n f],some<|.ow<|xs.map qQ,some<|.pu<|.tup<|(rwF (A.1+1) u).map .int,some<|.pu<|.int (k:Int),z6] (λQ' q=> ?_)
     (λj ρ=> ∃v z6,ρ=[some<|.pu<|.tup<|(rwF (n+1) f).map .int,some<|.pu<|.int p,some<|.pu<|.tup [.int p,.lst<|xs.map<|ptD n f],some<|.ow<|xs.map qQ,some<|.pu<|.tup<|(rwF ((powT p A x.1 j).1+1) v).map .int,some<|.pu<|.int (k:Int),z6]/\Far p (powT p A x.1 j) v) ⟨u,z6,rfl,far⟩ ?_ ?_
    ·walk_at "u"
     simp only[at1,pk,ptE,t1];refine⟨⟨ad,ad⟩,?_⟩
     rw[eM];exact q
    ·rintro j ρ hj ⟨v,z6,rfl,fv⟩;have d4:=dj j ad
     have rkE:qQ x= .tup [.int ((x.1.1+1:Nat):Int),.tup<|(rwF (x.1.1+1) x.1.2).map .int]:=rfl;walk_at "u";refine⟨ae,?_⟩
     rw[rkk,rkE];dsimp only;rw[at1];dsimp only;refine⟨(powT p A x.1 j).1+1,x.1.1+1,60,v,x.1.2,rfl,ad,ad,ad,ad,ac,mx.z,λi=>aT (fv.bd i) (oS ac ad),λi=>aT (b31 pp mx i) (oS ac ac),?_⟩
     refine⟨_,some<|.pu<|.int<|0+(j:Int),?_,fv.tm pp mx x1 d4⟩
     simp only[aX];rw[show(powT p A x.1 j).1+1+(x.1.1+1)-1=(powT p A x.1<|j+1).1+1 by show _=(powT p A x.1 j).1+x.1.1+1;lia]
    ·rintro ρ ⟨v,z6,rfl,fv⟩;rw[hU];exact⟨_,_,_,rfl,fv⟩
   ·rintro ρ ⟨u,z5,z6,rfl,far⟩;rw[xB<|aB _,sp.prod]at far⊢;dsimp only at far⊢;change aQ7 _ [some<|.pu<|.tup<|(rwF (n+1) f).map .int,some<|.pu<|.int p,some<|.pu<|.tup [.int p,.lst<|xs.map<|ptD n f],some<|.ow<|xs.map qQ,some<|.pu<|.tup<|(rwF (n+1) u).map .int,z5,z6];unfold aQ7;walk_at "u";rw[bH,bH,a7 rfl]
    refine b22 (t0:=0) (t1:=1) (n+1) (λj=>((rwF (n+1) u).map D.int).getD j .non) (λj=>((rwF (n+1) f).map D.int).getD j .non) [some<|.pu<|.tup<|(rwF (n+1) f).map .int,some<|.pu<|.int p,some<|.pu<|.tup [.int p,.lst<|xs.map<|ptD n f],some<|.ow<|xs.map qQ,some<|.pu<|.tup<|(rwF (n+1) u).map .int,z5,z6] (λQ' q=> ?_) ad (λx y l'=>[x,y,some<|.pu<|.int p,some<|.ow l']) none none rfl (λ_ _ _ _ _=>rfl) (λ_ _ _=>⟨ae,ae⟩) (λ_ _ _ _ q=>q) (λ_ _ _ _=>rfl) (λ_=> .bl true) ?_ ?_
    ·walk_at "u"
     rw[bH,bH,Nat.min_self];exact q
    ·intro j l' Q' hj q;rw[nW hj,nW hj]at q⊢;have e6:=far.cg j;have e7:u j%p=f j%p:=e6;walk_at "u";refine⟨ad,?_⟩
     rw[dY _ ad,Int.emod_eq_emod_iff_emod_sub_eq_zero.mp e7,dP rfl]
     exact q
    ·have e8:(List.range<|n+1).map (λ_=>D.bl true)=((List.range<|n+1).map λ_=>true).map D.bl:=by rw[fA];rfl
     rw[e8];dsimp only;rw[iY];dsimp only;rw[show((List.range<|n+1).map λ_=>true).all id=true by simp]
     exact h
theorem d65 {p:List Int}{n:Nat}(rp:gD p)(hn:p.length=n+1)(q:Int):q∣dF (n,md q<|fOf p)-iM 4 (cG p):=by
 rcases rp.cases with⟨x,y,rfl,_⟩| ⟨x,y,z,rfl,_⟩| ⟨x,y,z,w,rfl,_⟩
 ·have h:3=n+1:=hn;obtain rfl:n=2:=aa
  rw[id2];exact dA3 (c:=x%q) (b:=y%q) (cgE x) (cgE y)
 ·have h:4=n+1:=hn;obtain rfl:n=3:=aa
  rw[id3];exact dA4 (d:=x%q) (c:=y%q) (b:=z%q) (cgE x) (cgE y) (cgE z)
 ·have h:5=n+1:=hn;obtain rfl:n=4:=aa
  rw[hank4];exact cT3 (e:=x%q) (d:=y%q) (c:=z%q) (b:=w%q) (cgE x) (cgE y) (cgE z) (cgE w)
theorem c39 {p:List Int}{n:Nat}{q:Int}(rp:gD p)(hn:p.length=n+1)(pq:Pr q)(mF:MP q n (md q<|fOf p)){xs:List ((Nat×(Nat->Int))×Nat)}(sp:SP q (n,md q<|fOf p) xs):(∃x∈xs,2<=x.2)↔iM 4 (cG p)%q=0:=by
 have hi:=rp.ok.hi;have n4:n<=4:=aa
 have cg:=cgT (d65 rp hn q);constructor
 ·rintro⟨x,hx,h2⟩;exact jF (cg.mp<|cT5 pq (F:=(n,md q<|fOf p)) mF n4 sp hx h2)
 ·intro h;refine aC1 λno=> ?_
  have h1: ∀x∈xs,x.2=1:=λx hx=>by
   have:=(sp.mem x hx).2.2.2.1;have: ¬2<=x.2:=λh2=>no ⟨x,hx,h2⟩
   omega
  have:=c94 pq xs sp.mem sp.ord h1 (by rw[sp.prod];exact n4)
  rw[sp.prod]at this;exact this (cg.mpr<|bZ h)
def a52:Φ:=λds Q=> ∃(C:Addr) (p:List Int) (n:Nat),ds=[nO C p]/\gD p/\p.length=n+1/\ ∀xf,SPs n (fOf p) (iM 4<|cG p) xf->Q (.ow<|aL6 n (fOf p) (iM 4<|cG p) xf)
def a53:US:=(dE<|aP nY<|a9 (bH9 "poly"<|aC 0)<|a9 (bH9 "measure"<|aC 0) aK)
theorem bU8: ∀ds Q,a52 ds Q->a53 {nx:=λ_=>Q (.pu .non),rt:=Q} (init ["r"] ds):=by
 rintro ds Q ⟨C,p,n,rfl,rp,hn,h⟩;have rf:=rp.rf;have row:=rp.row;rw[hn,jJ]at rf row;unfold a53;show(dE _:US) _ [some<|.pu<|nO C p];rw[mJ,gS,gT,bE6 (C:=C) (p:=p) rfl,gT,aM1 (C:=C) (p:=p) rfl];refine⟨n,fOf p,iM 4<|cG p,?_,rf,h⟩;rw[row];rfl
theorem bU9 (p:Int): ∀(l:List ((Nat×(Nat->Int))×Nat)) (a:Nat×(Nat->Int)),(allT p a l).1=a.1+(l.map λx=>x.1.1*x.2).sum
 | [],a=>by simp[allT]
 | x::l,a=>by
  show(allT p (powT p a x.1 x.2) l).1=_
  rw[bU9 p l,iN,bW,sum_cons]
  lia
theorem aY2 {α:Type}(w:α->Nat): ∀(l:List α) (x:α),x∈l->w x<=(l.map w).sum
 | y::l,x,hx=>by
  rw[bW,sum_cons];rcases aS.mp hx with rfl|hx
  ·lia
  ·have:=aY2 w l x hx
   lia
theorem c99 {α:Type}(w:α->Nat): ∀(l:List α) (x y:α),x∈l->y∈l->x≠y->w x+w y<=(l.map w).sum
 | z::l,x,y,hx,hy,ne=>by
  rw[bW,sum_cons];rcases aS.mp hx with e|hx
  ·rcases aS.mp hy with e'|hy
   ·exact absurd (e.trans e'.symm) ne
   ·have:=aY2 w l y hy;rw[e]
    lia
  ·rcases aS.mp hy with e'|hy
   ·have:=aY2 w l x hx;rw[e']
    lia
   ·have:=c99 w l x y hx hy ne
    lia
theorem pt_all {p:List Int}{n:Nat}(rp:gD p)(hn:p.length=n+1)(wh:Wh n (fOf p) (iM 4<|cG p)){xf:Int->List ((Nat×(Nat->Int))×Nat)}(hs:SPs n (fOf p) (iM 4<|cG p) xf){q:Int}(hq:q∈prL)(hd:sqB (iM 4<|cG p) q=true): ∀x∈xf q,d62 n (fOf p) q x:=by
 intro x hx;have rf:=rp.rf;rw[hn,jJ]at rf;have n4:=rf.n4;have pq:=yT hq;have mF:=rf.mp pq.lo;have sp:=hs q hq hd;obtain⟨yf,hy,fine⟩:=wh;have eu:xf q=yf q:=SP.uniq pq mF n4 sp (hy q hq hd);have dv:iM 4 (cG p)%q=0:=by
  have h1:iM 4 (cG p)%(q*q)=0:=kQ hd;obtain⟨c,hc⟩:=bZ h1;exact jF ⟨q*c,by rw[hc,kT]⟩
 obtain⟨y,hy1,hy2⟩:=(c39 rp hn pq mF sp).mpr dv;have dsum:((xf q).map λx=>x.1.1*x.2).sum=n:=by
  have:=bU9 q (xf q) bQ;rw[sp.prod]at this;have e0:n=0+((xf q).map λx=>x.1.1*x.2).sum:=this
  lia
 obtain⟨mx,x1,x4,k1,k4,nr,_⟩:=sp.mem x hx;obtain⟨my,y1,y4,l1,_⟩:=sp.mem y hy1;have w1:x.1.1*1<=x.1.1*x.2:=i5 _ k1;have w2:y.1.1*2<=y.1.1*y.2:=i5 _ hy2;have s1:=aY2 (λx:(Nat×(Nat->Int))×Nat=>x.1.1*x.2) (xf q) x hx
 have d2:x.1.1<=2:=by
  by_cases c:x=y
  ·subst c
   lia
  ·have s2:=c99 (λx:(Nat×(Nat->Int))×Nat=>x.1.1*x.2) (xf q) x y hx hy1 c
   lia
 refine⟨rf,hq,mx,x1,d2,ad,k1,k4,λz=>nr ad,λz=> ?_⟩
 exact fine q hq hd x (eu▸hx) z
def cA0:US:=(dE<|uC<|.bl true)
def bK7:US:=(aV (d96 4 (a9 (uC<|.int 2) aK)<|aV (cE 5<|aP a52<|a9 (aC 2) aK)<|aV (gH (bP6<|uOr (a96<|cQ<|aP b80<|a9 (aC 5)<|a9 (uC<|.ty "list") aK)<|cQ<|uOp (j2 true) (gN<|aO 5)<|gN<|aO 3) (dE<|uC<|.bl false) dZ)<|aV (gH (bP6<|a96<|cQ<|aP b00<|a9 (gC [2] [none,none,some 2,none] 3 (d16<|a9 (aC 3)<|a9 (aC 5) aK) (rL<|fB 0<|fB 1 rK) (λρ Q=>Q true ρ)<|aP b51<|a9 (bH9 "poly"<|aC 2)<|a9 (aC 0)<|a9 (aC 1) aK) aK) (dE<|uC<|.bl false) dZ)<|cO8 5 6) cA0)
def aY3:US:=(aV (cE 3<|aP aH5<|a9 (bH9 "measure"<|aC 2) aK) bK7)
def bK8:US:=(aV (gH (bP6<|cQ<|uOp (j2 false) (uIx (aO 1)<|uC<|.int 0)<|uC<|.int 3) (cE 2<|b13 ["poly","degree","measure"] mI<|a9 (uIx (uV<|lD<|a9 (gF<|a9 (jA<|uC<|.int 1)<|a9 (jA<|uC<|.int 14)<|a9 (jA<|uC<|.int 11)<|a9 (uC<|.int 1) aK)<|a9 (gF<|a9 (uC<|.int 1)<|a9 (uC<|.int 0)<|a9 (jA<|uC<|.int 1)<|a9 (uC<|.int 0)<|a9 (uC<|.int 1) aK)<|a9 (gF<|a9 (jA<|uC<|.int 2)<|a9 (uC<|.int 0)<|a9 (uC<|.int 0)<|a9 (uC<|.int 0)<|a9 (uC<|.int 1) aK)<|a9 (gF<|a9 (uC<|.int 1)<|a9 (uC<|.int 1)<|a9 (uC<|.int 1)<|a9 (uC<|.int 1)<|a9 (uC<|.int 1) aK) aK)<|uIx (aO 1)<|uC<|.int 1) aK)<|cE 2<|aP bJ7<|a9 (aC 0)<|a9 (uC<|.int 1)<|a9 (uC<|.int 1000000009) aK) aY3)
def bK9:US:=(aV (cE 1<|aP qL<|a9 (aP aK9<|a9 (aC 0)<|a9 (uC<|.int 0) aK)<|a9 (lD<|a9 (uC<|.int 4)<|a9 (uC<|.int 4) aK)<|a9 (uC<|.int 1000000007) aK) bK8)
theorem d66 (Q:B->Prop)(h:Q (.pu<|.bl true))(z0 z1:Option B)(C:Addr)(p:List Int)(rp:gD p)(wh:Wh' p):aY3 {nx:=λ_=>Q (.pu .non),rt:=Q} [z0,z1,some<|.pu<|nO C p,none,none,none,none]:=by
 have lo:=rp.ok.lo;have hi:=rp.ok.hi;obtain⟨n,hn⟩: ∃n,p.length=n+1:=⟨p.length-1,aa⟩
 have rf:=rp.rf;have row:=rp.row;unfold Wh' at wh;rw[hn,jJ]at rf wh row;unfold aY3;rw[aU,yP,gS,gT,aM1 (C:=C) (p:=p) rfl];refine⟨_,rfl,?_⟩;change bK7 _ [z0,z1,some<|.pu<|nO C p,some<|.ow<|(prL.filter<|sqB<|iM 4<|cG p).map .int,none,none,none];unfold bK7;rw[aU];generalize hsz:iM 4 (cG p)=sz at *;have hm0: ∀q∈prL.filter (sqB sz),q∈prL/\sqB sz q=true:=λq hq=>mU.mp hq
 have fl:(prL.filter<|sqB sz).length<=46:=aT (List.length_filter_le _ _) ac
 refine⟨2,rfl,⟨ac,ac⟩,λi ρ=> ∃z0 z1 z4 z5 z6,ρ=[z0,z1,some<|.pu<|nO C p,some<|.ow<|(prL.filter<|sqB sz).map .int,z4,z5,z6],⟨_,_,_,_,_,rfl⟩,?_,?_⟩
 ·rintro i ρ hi ⟨z0,z1,z4,z5,z6,rfl⟩;refine⟨ae,?_⟩
  rw[aU];walk_at "u";refine⟨C,p,n,rfl,rp,hn,λxf hs=> ?_⟩
  rw[hsz]at hs⊢;have pa: ∀q∈prL.filter (sqB sz),∀x∈xf q,d62 n (fOf p) q x:=λq hq=>pt_all rp hn (by rw[hsz];exact wh) (by rw[hsz];exact hs) (hm0 q hq).1 (by rw[hsz];exact(hm0 q hq).2)
  have pl:(aL6 n (fOf p) sz xf).length=(prL.filter<|sqB sz).length:=by unfold aL6;rw[aH]
  dsimp only;rw[pl,aH,a6 λz=>z rfl]
  have due: ∀j,j< (prL.filter<|sqB sz).length->((prL.filter<|sqB sz).map D.int).getD j .non= .int ((prL.filter<|sqB sz).getD j 0)/\(aL6 n (fOf p) sz xf).getD j .non=c38 n (fOf p) ((prL.filter<|sqB sz).getD j 0) (xf<|(prL.filter<|sqB sz).getD j 0)/\(prL.filter<|sqB sz).getD j 0∈prL.filter (sqB sz):=λj hj=>by
   unfold aL6;refine⟨?_,?_,?_⟩
   ·rw[aI,bI,aI,aJ hj];rfl
   ·rw[aI,bI,aI,aJ hj];rfl
   ·rw[aI,aJ hj];exact dO hj
  refine b22 (t0:=0) (t1:=1) (prL.filter<|sqB sz).length (λj=>((prL.filter<|sqB sz).map D.int).getD j .non) (λj=>(aL6 n (fOf p) sz xf).getD j .non) [z0,z1,some<|.pu<|nO C p,some<|.pu<|.lst<|(prL.filter<|sqB sz).map .int,some<|.pu<|.int<|0+(i:Int),some<|.pu<|.lst<|aL6 n (fOf p) sz xf,z6] (λQ' q=> ?_) ad (λx y l'=>[x,y,some<|.pu<|nO C p,some<|.ow l']) none none rfl (λ_ _ _ _ _=>rfl) (λ_ _ _=>⟨ae,ae⟩) (λ_ _ _ _ q=>q) (λ_ _ _ _=>rfl) (λ_=> .bl true) ?_ ?_
  ·walk_at "u"
   rw[pl,aH,Nat.min_self];exact q
  ·intro j l' Q' hj q;obtain⟨e1,e2,e3⟩:=due j hj;rw[e1,e2]at q⊢;obtain⟨m1,m2⟩:=hm0 _ e3;have ptA:=pa _ e3;generalize (prL.filter<|sqB sz).getD j 0=q' at *;rw[gS,gT,bE6 (C:=C) (p:=p) rfl];walk_at "u";refine⟨n,fOf p,q',xf q',by rw[row],rf,m1,hs q' m1 m2,ptA,q⟩
  ·have e8:(List.range (prL.filter<|sqB sz).length).map (λ_=>D.bl true)=((List.range (prL.filter<|sqB sz).length).map λ_=>true).map D.bl:=by rw[fA];rfl
   rw[e8];dsimp only;rw[iY];dsimp only;rw[show((List.range (prL.filter<|sqB sz).length).map λ_=>true).all id=true by simp]
   rw[a6 ac]
   refine⟨ac,ae,aL6 n (fOf p) sz xf,[none,none,some<|.pu<|nO C p,some<|.ow<|(prL.filter<|sqB sz).map .int,none,none,none],rfl,by rw[pl];lia,λd hd=> ?_,⟨rfl,?_,rfl,b07 _,trivial⟩,rfl,rfl,⟨_,_,_,_,_,rfl⟩⟩
   ·unfold aL6 at hd;obtain⟨q,hq,rfl⟩:=fT.mp hd;obtain⟨m1,m2⟩:=hm0 q hq;exact⟨q,_,rfl,by rw[aH];exact(hs q m1 m2).len⟩
   ·simp only[nkB,nO,aX,D.nk,D.nks,b07,Bool.and_true]
 ·rintro ρ ⟨z0,z1,z4,z5,z6,rfl⟩;unfold cA0;walk_at "u";exact h
theorem cU5 (ρ:Ev)(Q':B->Ev->Prop)(q:Q' (.ow [D.tup [D.int<|-1,D.int<|-14,D.int<|-11,D.int 1],D.tup [D.int 1,D.int 0,D.int<|-1,D.int 0,D.int 1],D.tup [D.int<|-2,D.int 0,D.int 0,D.int 0,D.int 1],D.tup [D.int 1,D.int 1,D.int 1,D.int 1,D.int 1]]) ρ):(lD<|a9 (gF<|a9 (jA<|uC<|.int 1)<|a9 (jA<|uC<|.int 14)<|a9 (jA<|uC<|.int 11)<|a9 (uC<|.int 1) aK)<|a9 (gF<|a9 (uC<|.int 1)<|a9 (uC<|.int 0)<|a9 (jA<|uC<|.int 1)<|a9 (uC<|.int 0)<|a9 (uC<|.int 1) aK)<|a9 (gF<|a9 (jA<|uC<|.int 2)<|a9 (uC<|.int 0)<|a9 (uC<|.int 0)<|a9 (uC<|.int 0)<|a9 (uC<|.int 1) aK)<|a9 (gF<|a9 (uC<|.int 1)<|a9 (uC<|.int 1)<|a9 (uC<|.int 1)<|a9 (uC<|.int 1)<|a9 (uC<|.int 1) aK) aK) ρ Q':=by
 walk_at "u"
 exact⟨ac,ac,ac,ac,ac,q⟩
theorem d67 {b:Int}(b2:0<=b/\b<4): ∃p∈vJ,atI [D.tup [D.int<|-1,D.int<|-14,D.int<|-11,D.int 1],D.tup [D.int 1,D.int 0,D.int<|-1,D.int 0,D.int 1],D.tup [D.int<|-2,D.int 0,D.int 0,D.int 0,D.int 1],D.tup [D.int 1,D.int 1,D.int 1,D.int 1,D.int 1]] b=some (aX p):=by
 rcases(show b=0\/b=1\/b=2\/b=3 by lia)with rfl|rfl|rfl|rfl
 ·exact⟨[-1,-14,-11,1],af,cD (j:=0) rfl⟩
 ·exact⟨[1,0,-1,0,1],af,cD (j:=1) rfl⟩
 ·exact⟨[-2,0,0,0,1],af,cD (j:=2) rfl⟩
 ·exact⟨[1,1,1,1,1],af,cD (j:=3) rfl⟩
theorem d68 {ks:List Str}{φ:ΦM}{tl ti:UE}{ρ:Ev}{l:List D}{k:Int}{d:D}{Q':B->Ev->Prop}(ht: ∀Q:B->Ev->Prop,Q (.ow l) ρ->tl ρ Q)(hi: ∀Q:B->Ev->Prop,Q (.pu<|.int k) ρ->ti ρ Q)(e:atI l k=some d)(q:φ [d] (λl=> ∀C,Q' (.pu<|.obj C ks l) ρ) λ_ _=>False):b13 ks φ (a9 (uIx (uV tl) ti) aK) ρ Q':=by
 unfold b13 a9 uIx uV;refine ht _ (hi _ ?_);show gIx (.lst l) (.int k) _;unfold gIx;simp only[mC];rw[e];exact q
theorem ix_one {ρ:Ev}{a b:Int}(h1:ρ[1]? =some (some<|.ow [.int a,.int b]))(Q:B->Ev->Prop)(q:Q (.pu<|.int b) ρ):uIx (aO 1) (uC<|.int 1) ρ Q:=by
 have a1:atI [D.int a,.int b] 1=some (.int b):=cD (j:=1) rfl;unfold uIx aO aZ3;rw[h1];dsimp only[uC,B.d];unfold gIx;simp only[mC];rw[a1];exact q
theorem d69 {p:List Int}(hp:p∈vJ){ρ:Ev}{Q':B->Ev->Prop}(go: ∀C p,gD p->Wh' p->Q' (.pu<|nO C p) ρ):mI [aX p] (λl=> ∀C,Q' (.pu<|.obj C ["poly","degree","measure"] l) ρ) λ_ _=>False:=
 ⟨p,rfl,nG p hp,λ_ wh C=>go C p (nG p hp) wh,λred=>absurd red (aM0 p hp).irr,λz=>absurd (aM0 p hp) z⟩
theorem cG2 {ρ:Ev}{a b:Int}(b2:0<=b/\b<4)(h1:ρ[1]? =some (some<|.ow [.int a,.int b])){Q':B->Ev->Prop}(go: ∀C p,gD p->Wh' p->Q' (.pu<|nO C p) ρ):b13 ["poly","degree","measure"] mI (a9 (uIx (uV<|lD<|a9 (gF<|a9 (jA<|uC<|.int 1)<|a9 (jA<|uC<|.int 14)<|a9 (jA<|uC<|.int 11)<|a9 (uC<|.int 1) aK)<|a9 (gF<|a9 (uC<|.int 1)<|a9 (uC<|.int 0)<|a9 (jA<|uC<|.int 1)<|a9 (uC<|.int 0)<|a9 (uC<|.int 1) aK)<|a9 (gF<|a9 (jA<|uC<|.int 2)<|a9 (uC<|.int 0)<|a9 (uC<|.int 0)<|a9 (uC<|.int 0)<|a9 (uC<|.int 1) aK)<|a9 (gF<|a9 (uC<|.int 1)<|a9 (uC<|.int 1)<|a9 (uC<|.int 1)<|a9 (uC<|.int 1)<|a9 (uC<|.int 1) aK) aK)<|uIx (aO 1)<|uC<|.int 1) aK) ρ Q':=by
 obtain⟨p,hp,e⟩:=d67 b2;exact d68 (cU5 ρ) (ix_one h1) e (d69 hp go)
theorem d70 (Q:B->Prop)(h:Q (.pu<|.bl true)){ns:List Int}(hns:ns.length<=63){a b:Int}(b2:0<=b/\b<4):bK8 {nx:=λ_=>Q (.pu .non),rt:=Q} [some<|.pu<|.rol<|ns.map .int,some<|.ow [.int a,.int b],none,none,none,none,none]:=by
 have a0:atI [D.int a,.int b] 0=some (.int a):=cD (j:=0) rfl;have go: ∀C p,gD p->Wh' p->aY3 {nx:=λ_=>Q (.pu .non),rt:=Q} [some<|.pu<|.rol<|ns.map .int,some<|.ow [.int a,.int b],some<|.pu<|nO C p,none,none,none,none]:=λC p rp wh=>d66 Q h _ _ C p rp wh
 unfold bK8;rw[aU];walk_at "u";rw[a0];dsimp only
 by_cases c3:a=3
 ·rw[a7 c3];exact cG2 b2 rfl go
 ·rw[a6 c3];exact⟨ns,1,1000000009,rfl,hns,ac,ac,λC p rp wh=>go C p rp wh⟩
theorem rd_law: ∀ds Q,d94 ds Q->bK9 {nx:=λ_=>Q (.pu .non),rt:=Q} (init ["s","d","r","u","a","f","p"] ds):=by
 rintro ds Q ⟨ns,rfl,hns,h⟩;unfold bK9;show(aV _ _:US) _ [some<|.pu<|.rol<|ns.map .int,none,none,none,none,none,none];rw[aU];walk_at "u";refine⟨ns,0,rfl,hns,ac,ac,λc=> ?_⟩
 walk_at "u"
 refine⟨ac,c,[4,4],1000000007,rfl,ac,ac,ac,λys hy=> ?_⟩
 obtain⟨a,b,rfl⟩: ∃a b,ys=[a,b]:=by
  match ys,hy.1 with
  | [a,b],_=>exact⟨a,b,rfl⟩
 have b1:=hy.2 0 a 4 rfl rfl;have b2:=hy.2 1 b 4 rfl rfl;exact d70 Q h hns b2
abbrev oG:=rA
abbrev oH:=rB
theorem a11: ∀ds Q,oG ds Q->oH {nx:=λ_=>Q (.pu .non),rt:=Q} (init ["f","p","u","s","total","v","w"] ds):=aU9
theorem cG3:bootBuiltins "sorted"=some (.builtin "sorted"):=af
end M
end
namespace M
open PySem PySem.Spec PyProof.Rows L2
set_option maxHeartbeats 4000000
noncomputable def top (i:Nat):Stmt:=PySem.Challenge.pw_ringhouse_k18_papers.main.body.getD i (.Pass ⟨0,0,0,0⟩)
noncomputable abbrev bL0:Stmt:=top 1
noncomputable abbrev cA1:List Str:=["row","size"]
noncomputable abbrev bV0:List Str:=["row"]
noncomputable abbrev aH7:Stmt:=top 2
noncomputable abbrev b53:List Str:=["row","size"]
noncomputable abbrev aT5:List Str:=["row","size"]
noncomputable abbrev rE:Stmt:=top 3
noncomputable abbrev a03:List Str:=["f","g","degree","size","left","quotient","at","many","j","c"]
noncomputable abbrev wQ:List Str:=["f","g"]
noncomputable abbrev a54:Stmt:=top 4
noncomputable abbrev aT6:List Str:=["f","z","value","c"]
noncomputable abbrev aM3:List Str:=["f","z"]
noncomputable abbrev rX:Stmt:=top 13
noncomputable abbrev zA:List Str:=["row","p"]
noncomputable abbrev aA8:List Str:=["row","p"]
noncomputable abbrev tZ:Stmt:=top 14
noncomputable abbrev a55:List Str:=["a","b","p","low","turn","quotient","rest"]
noncomputable abbrev a04:List Str:=["a","b","p"]
noncomputable abbrev zB:Stmt:=top 15
noncomputable abbrev aH8:List Str:=["f","k","p"]
noncomputable abbrev aT7:List Str:=["f","k","p"]
noncomputable abbrev u4:Stmt:=top 16
noncomputable abbrev a56:List Str:=["c","p","value","step"]
noncomputable abbrev a05:List Str:=["c","p"]
noncomputable abbrev b54:Stmt:=top 19
noncomputable abbrev bV1:List Str:=["m","guess","better"]
noncomputable abbrev bF0:List Str:=["m"]
noncomputable abbrev pP:Stmt:=top 20
noncomputable abbrev wR:List Str:=[]
noncomputable abbrev uU:List Str:=[]
noncomputable abbrev zC:Stmt:=top 22
noncomputable abbrev aM4:List Str:=["poly","p","parts","left"]
noncomputable abbrev aA9:List Str:=["poly","p"]
noncomputable abbrev vM:Stmt:=top 23
noncomputable abbrev aB0:List Str:=["f","p","parts","left","c","often"]
noncomputable abbrev a57:List Str:=["f","p"]
noncomputable abbrev jV:Stmt:=top 24
noncomputable abbrev nI:List Str:=["f","p","pair"]
noncomputable abbrev rO:List Str:=["f","p"]
noncomputable abbrev kY:Stmt:=top 25
noncomputable abbrev qR:List Str:=["f","p","u","s","total","v","w"]
noncomputable abbrev oJ:List Str:=["f","p"]
noncomputable abbrev aH9:Stmt:=top 28
noncomputable abbrev b55:List Str:=["ring"]
noncomputable abbrev aT8:List Str:=["ring"]
noncomputable abbrev qB:Stmt:=top 29
noncomputable abbrev vN:List Str:=["poly","size"]
noncomputable abbrev a58:List Str:=["poly","size"]
noncomputable abbrev rY:Stmt:=top 30
noncomputable abbrev zD:List Str:=["poly","p"]
noncomputable abbrev aB1:List Str:=["poly","p"]
noncomputable abbrev o8:Stmt:=top 31
noncomputable abbrev u5:List Str:=["poly","rows","p","parts","g","often","rest"]
noncomputable abbrev a06:List Str:=["poly","rows"]
noncomputable abbrev lJ:Stmt:=top 34
noncomputable abbrev pQ:List Str:=["row"]
noncomputable abbrev uW:List Str:=["row"]
noncomputable abbrev nJ:Stmt:=top 35
noncomputable abbrev u6:List Str:=["row"]
noncomputable abbrev rP:List Str:=["row"]
noncomputable abbrev aR0:Stmt:=top 37
noncomputable abbrev bF1:List Str:=["poly","pair"]
noncomputable abbrev b56:List Str:=["poly"]
noncomputable abbrev zE:Stmt:=top 38
noncomputable abbrev aM5:List Str:=["m","found","d"]
noncomputable abbrev aB2:List Str:=["m"]
noncomputable abbrev o9:Stmt:=top 39
noncomputable abbrev uX:List Str:=["poly","z","left"]
noncomputable abbrev u7:List Str:=["poly"]
noncomputable abbrev kZ:Stmt:=top 40
noncomputable abbrev qS:List Str:=["poly","v","w","u","s"]
noncomputable abbrev oK:List Str:=["poly"]
noncomputable abbrev zF:Stmt:=top 42
noncomputable abbrev aM6:List Str:=["total","times","square","gap"]
noncomputable abbrev aB3:List Str:=["total","times"]
noncomputable abbrev aY4:Stmt:=top 44
noncomputable abbrev cA2:List Str:=["table","total","sign","i"]
noncomputable abbrev j4:List Str:=["table"]
noncomputable abbrev uY:Stmt:=top 45
noncomputable abbrev a59:List Str:=["table","i"]
noncomputable abbrev aM7:List Str:=["table","i"]
noncomputable abbrev uZ:Stmt:=top 47
noncomputable abbrev a60:List Str:=["poly","n","sums"]
noncomputable abbrev aM8:List Str:=["poly"]
noncomputable abbrev qC:Stmt:=top 48
noncomputable abbrev vO:List Str:=["poly","many","n","sums","k","total"]
noncomputable abbrev a61:List Str:=["poly","many"]
noncomputable abbrev iP:Stmt:=top 52
noncomputable abbrev v3:List Str:=["poly","pair"]
noncomputable abbrev u8:List Str:=["poly"]
noncomputable abbrev j5:Stmt:=top 53
noncomputable abbrev u9:List Str:=["poly","size","found","p","f"]
noncomputable abbrev a07:List Str:=["poly","size"]
noncomputable abbrev c40:Stmt:=top 55
noncomputable abbrev cU6:List Str:=["_law_script","_law_k"]
noncomputable abbrev cA3:List Str:=["_law_script","_law_k"]
noncomputable abbrev bL1:Stmt:=top 56
noncomputable abbrev cA4:List Str:=["_law_cell_here","_law_k","_law_prime","_law_far"]
noncomputable abbrev bV2:List Str:=["_law_cell_here","_law_k","_law_prime"]
noncomputable abbrev bL2:Stmt:=top 57
noncomputable abbrev cA5:List Str:=["_law_cell_here","_law_widths","_law_prime","_law_left_here","_law_found","_law_k"]
noncomputable abbrev bV3:List Str:=["_law_cell_here","_law_widths","_law_prime"]
noncomputable abbrev aR1:Stmt:=top 58
noncomputable abbrev bF2:List Str:=["_law_poly_here","_law_s","_law_row_here","_law_low","_law_at"]
noncomputable abbrev b57:List Str:=["_law_poly_here","_law_s"]
noncomputable abbrev bL3:Stmt:=top 59
noncomputable abbrev c41:List Str:=["_law_cell_here","_law_prime","_law_deep","_law_wide","_law_found"]
noncomputable abbrev cA6:List Str:=["_law_cell_here","_law_prime"]
noncomputable abbrev zG:Stmt:=top 60
noncomputable abbrev aM9:List Str:=["_law_cell_here","_law_known"]
noncomputable abbrev aB4:List Str:=["_law_cell_here"]
noncomputable abbrev c42:Stmt:=top 61
noncomputable abbrev cU7:List Str:=["_law_script","_law_k","_law_prime","_law_found","_law_j"]
noncomputable abbrev cA7:List Str:=["_law_script","_law_k","_law_prime"]
noncomputable abbrev bL4:Stmt:=top 62
noncomputable abbrev cA8:List Str:=["_law_poly_here","_law_r","_law_total","_law_place"]
noncomputable abbrev bV4:List Str:=["_law_poly_here","_law_r"]
noncomputable abbrev bL5:Stmt:=top 63
noncomputable abbrev cA9:List Str:=["_law_found"]
noncomputable abbrev bV5:List Str:=["_law_found"]
noncomputable abbrev cB0:Stmt:=top 64
noncomputable abbrev cU8:List Str:=["_law_found","_law_many"]
noncomputable abbrev cU9:List Str:=["_law_found","_law_many"]
noncomputable abbrev a62:Stmt:=top 65
noncomputable abbrev aT9:List Str:=["_law_one","_law_two","_law_places","_law_i","_law_j"]
noncomputable abbrev aN0:List Str:=["_law_one","_law_two"]
noncomputable abbrev a89:Stmt:=top 66
noncomputable abbrev aR2:List Str:=["_law_amount","_law_found","_law_p"]
noncomputable abbrev b58:List Str:=["_law_amount"]
noncomputable abbrev c43:Stmt:=top 67
noncomputable abbrev cV0:List Str:=["_law_poly_here","_law_g","_law_left_here","_law_low","_law_at","_law_part_here","_law_j"]
noncomputable abbrev cB1:List Str:=["_law_poly_here","_law_g"]
noncomputable abbrev aR3:Stmt:=top 68
noncomputable abbrev b59:List Str:=["_law_poly_here","_law_p","_law_part_here","_law_g","_law_turns","_law_left_here","_law_due"]
noncomputable abbrev cB2:List Str:=["_law_poly_here","_law_p","_law_part_here"]
noncomputable abbrev a90:Stmt:=top 69
noncomputable abbrev aN1:List Str:=["_law_poly_here","_law_p","_law_paper_here","_law_ranks","_law_far","_law_k","_law_turn"]
noncomputable abbrev bV6:List Str:=["_law_poly_here","_law_p","_law_paper_here"]
noncomputable abbrev aB5:Stmt:=top 70
noncomputable abbrev cV1:List Str:=["_law_script","_law_deep","_law_ring_here","_law_due","_law_again","_law_found","_law_paper_here"]
noncomputable abbrev PP_law:List Str:=["_law_script"]
local macro_rules| `(tactic| walk_at "s")=> `(tactic| exact⟨rfl,rfl,rfl,by decide +kernel,rfl,by decide +kernel,by decide +kernel⟩)
theorem b60:aZ cA1 bV0 (aD bL0):=by walk_at "s"
theorem bV7:aZ b53 aT5 (aD aH7):=by walk_at "s"
theorem eE:aZ a03 wQ (aD rE):=by walk_at "s"
theorem rZ:aZ aT6 aM3 (aD a54):=by walk_at "s"
theorem b92:aZ zA aA8 (aD rX):=by walk_at "s"
theorem jX:aZ a55 a04 (aD tZ):=by walk_at "s"
theorem bV8:aZ aH8 aT7 (aD zB):=by walk_at "s"
theorem mM:aZ a56 a05 (aD u4):=by walk_at "s"
theorem wS:aZ bV1 bF0 (aD b54):=by walk_at "s"
theorem aN2:aZ wR uU (aD pP):=by walk_at "s"
theorem vP:aZ aM4 aA9 (aD zC):=by walk_at "s"
theorem iE:aZ aB0 a57 (aD vM):=by walk_at "s"
theorem rQ:aZ nI rO (aD jV):=by walk_at "s"
theorem eV:aZ qR oJ (aD kY):=by walk_at "s"
theorem bV9:aZ b55 aT8 (aD aH9):=by walk_at "s"
theorem b61:aZ vN a58 (aD qB):=by walk_at "s"
theorem b93:aZ zD aB1 (aD rY):=by walk_at "s"
theorem iH:aZ u5 a06 (aD o8):=by walk_at "s"
theorem aN3:aZ pQ uW (aD lJ):=by walk_at "s"
theorem aA1:aZ u6 rP (aD nJ):=by walk_at "s"
theorem aI0:aZ bF1 b56 (aD aR0):=by walk_at "s"
theorem vQ:aZ aM5 aB2 (aD zE):=by walk_at "s"
theorem nK:aZ uX u7 (aD o9):=by walk_at "s"
theorem fQ:aZ qS oK (aD kZ):=by walk_at "s"
theorem vR:aZ aM6 aB3 (aD zF):=by walk_at "s"
theorem oA:aZ cA2 j4 (aD aY4):=by walk_at "s"
theorem bL6:aZ a59 aM7 (aD uY):=by walk_at "s"
theorem zH:aZ a60 aM8 (aD uZ):=by walk_at "s"
theorem j6:aZ vO a61 (aD qC):=by walk_at "s"
theorem uA:aZ v3 u8 (aD iP):=by walk_at "s"
theorem mO:aZ u9 a07 (aD j5):=by walk_at "s"
theorem d71:aZ cU6 cA3 (aD c40):=by walk_at "s"
theorem b62:aZ cA4 bV2 (aD bL1):=by walk_at "s"
theorem wT:aZ cA5 bV3 (aD bL2):=by walk_at "s"
theorem zI:aZ bF2 b57 (aD aR1):=by walk_at "s"
theorem a91:aZ c41 cA6 (aD bL3):=by walk_at "s"
theorem vS:aZ aM9 aB4 (aD zG):=by walk_at "s"
theorem a92:aZ cU7 cA7 (aD c42):=by walk_at "s"
theorem aN4:aZ cA8 bV4 (aD bL4):=by walk_at "s"
theorem cV2:aZ cA9 bV5 (aD bL5):=by walk_at "s"
theorem sc_row:aZ cU8 cU9 (aD cB0):=by walk_at "s"
theorem sA:aZ aT9 aN0 (aD a62):=by walk_at "s"
theorem aI1:aZ aR2 b58 (aD a89):=by walk_at "s"
theorem zJ:aZ cV0 cB1 (aD c43):=by walk_at "s"
theorem aN5:aZ b59 cB2 (aD aR3):=by walk_at "s"
theorem wU:aZ aN1 bV6 (aD a90):=by walk_at "s"
theorem a63:aZ cV1 PP_law (aD aB5):=by walk_at "s"
noncomputable abbrev oB:Stmt:=(bI1<|top 8).getD 0 (.Pass ⟨0,0,0,0⟩)
theorem b94:aZ ["self","left","right"] ["self","left","right"] (aD oB):=by walk_at "s"
noncomputable abbrev uB:Stmt:=(bI1<|top 10).getD 0 (.Pass ⟨0,0,0,0⟩)
theorem bW0:aZ ["self","prime","number"] ["self","prime","number"] (aD uB):=by walk_at "s"
noncomputable abbrev a64:Stmt:=(bI1<|top 51).getD 0 (.Pass ⟨0,0,0,0⟩)
theorem cB3:aZ ["self","poly","size"] ["self","poly"] (aD a64):=by walk_at "s"
structure Zs (mg:Str->Option Value):Prop where
 z0:mg "len"=none
 z1:mg "max"=none
 z2:mg "list"=none
 z3:mg "reversed"=none
 z4:mg "range"=none
 z5:mg "enumerate"=none
 z6:mg "tuple"=none
 z7:mg "sorted"=none
 z8:mg "all"=none
 z9:mg "abs"=none
 z10:mg "sum"=none
 z11:mg "min"=none
 z12:mg "isinstance"=none
 z13:mg "int"=none
 z14:mg "bool"=none
 z15:mg "any"=none
 z16:mg "zip"=none
abbrev DT (P:Program)(w:World)(K:Frag)(mg:Str->Option Value)(base:Heap)(N:List Str)(q:Str)(t:Stmt)(k:Nat)(u:US):Prop:= ∀{f:Addr} {cdv:Value} {A:Around} {outer:List Env} {s:Shared} {H:Hp} {E:XK},gM k (A.deeper<|envOfC q (aD t) s.heap.objs.size f cdv)->qW (qV CX0 P w K mg base N q (aD t) f cdv A outer s H E).nox (dJ t) u
section
variable (P:Program)(w:World)(K:Frag)(mg:Str->Option Value)(base:Heap)
abbrev bW1:=Fn P w K mg base "cut" bV0 1 a32
abbrev bW2:=Fn P w K mg base "padded" aT5 1 a45
abbrev lK:=Fn P w K mg base "poly_parted" wQ 2 gA
abbrev aN6:=Fn P w K mg base "poly_at" aM3 1 rV
abbrev vT:=Fn P w K mg base "mod_poly" aA8 2 iZ
abbrev aV2:=Fn P w K mg base "mod_parted" a04 4 r6
abbrev bW3:=Fn P w K mg base "scaled" aT7 3 uS
abbrev aV3:=Fn P w K mg base "inverse_of" a05 1 qY
abbrev cG4:=Fn P w K mg base "root" bF0 1 aQ1
abbrev v4:=Fn P w K mg base "small_primes" uU 1 kH
abbrev b95:=Fn P w K mg base "split_by" aA9 6 vC
abbrev b63:=Fn P w K mg base "lines_out" a57 5 tV
abbrev aA2:=Fn P w K mg base "rootless_parts" rO 2 lP
abbrev a12:=Fn P w K mg base "two_by_two_split" oJ 1 oG
abbrev bW4:=Fn P w K mg base "papers" aT8 9 a52
abbrev a65:=Fn P w K mg base "papers_of" a58 8 nY
abbrev b96:=Fn P w K mg base "parts_at" aB1 7 vE
abbrev aV4:=Fn P w K mg base "outside_of" a06 3 rC
abbrev aN7:=Fn P w K mg base "is_ring_poly" uW 1 nZ
abbrev lX:=Fn P w K mg base "need_ring_poly" rP 2 gU
abbrev c44:=Fn P w K mg base "apart" b56 4 aH1
abbrev aB6:=Fn P w K mg base "dividers" aB2 1 qA
abbrev aI2:=Fn P w K mg base "line_and_rest" u7 3 nE
abbrev a13:=Fn P w K mg base "two_by_two_apart" oK 3 kA
abbrev b97:=Fn P w K mg base "two_with" aB3 2 vH
abbrev cV3:=Fn P w K mg base "det" j4 5 (gG 4)
abbrev bL7:=Fn P w K mg base "without" aM7 1 yQ
abbrev bL8:=Fn P w K mg base "measure" aM8 6 yW
abbrev b64:=Fn P w K mg base "root_sums" a61 1 tT
abbrev cB4:=Fn P w K mg base "_law_cell" cA3 1 aK9
abbrev bW5:=Fn P w K mg base "_law_mixed" bV2 1 a29
abbrev bW6:=Fn P w K mg base "_law_draws" bV3 2 qL
abbrev c45:=Fn P w K mg base "_law_shifted" b57 1 yY
abbrev d72:=Fn P w K mg base "_law_poly" cA6 3 bJ6
abbrev b98:=Fn P w K mg base "_law_known_ring" aB4 2 vK
abbrev d73:=Fn P w K mg base "_law_ring" cA7 12 bJ7
abbrev cV4:=Fn P w K mg base "_law_value" bV4 1 b46
abbrev b65:=Fn P w K mg base "_law_whole" bV5 1 wL
abbrev TF_row:=Fn P w K mg base "_law_row" cU9 2 bK0
abbrev bL9:=Fn P w K mg base "_law_times_out" aN0 1 rW
abbrev c46:=Fn P w K mg base "_law_squared" b58 1 aH5
abbrev d74:=Fn P w K mg base "_law_left" cB1 1 bK3
abbrev d75:=Fn P w K mg base "_law_part" cB2 3 bK5
abbrev cV5:=Fn P w K mg base "_law_paper" bV6 4 b51
end
section
variable {P:Program}{w:World}{K:Frag}{mg:Str->Option Value}{base:Heap}
theorem cG5 (Z:Zs mg):DT P w K mg base cA1 "cut" bL0 0 b24:=λhr=>
 (cS 1 b60.nd (bY (bM 0) rfl Z.z0)<|bT (aJ6 i8 (PUW.pt<|uN (gQ zX (aR 1) aF)<|qJ<|gQ j3 (dG (bM 0)<|aL cC (aR 1) aF) aF)<|bK<|us_g 1 b60.nd aF iu_sub)<|fJ<|cD8 (aR 0) a17<|nU<|aR 1)
theorem bM0 (Z:Zs mg):DT P w K mg base b53 "padded" aH7 0 a46:=λhr=>
 (fJ<|aL eC (aR 0)<|aL d23 (d7<|b7 aA)<|aL cC (aR 1)<|bY (bM 0) rfl Z.z0)
theorem aN8 (Z:Zs mg)(zM:bW1 P w K mg base):DT P w K mg base a03 "poly_parted" rE 1 pM:=λhr=>
 (cS 2 eE.nd (aL cC (bY (bM 1) rfl Z.z0) aF)<|cS 3 eE.nd (dD (cu_max rfl) rfl Z.z1 bt_max (b7<|aE (aL cC (bY (bM 0) rfl Z.z0)<|aR 2) aA))<|cS 4 eE.nd (fM aW5 rfl Z.z2 a86 (aQ 0 aA))<|cS 5 eE.nd (aL dR (fN<|b7 aA)<|aR 3)<|bT (tO 6 eE.nd (d18 rfl Z.z3 rfl Z.z4 (aQ 3 aA))<|cS 7 eE.nd (dG (bM 4)<|aL eC (aR 6)<|aR 2)<|bT (yG 5 (pv 5) (aR 7)<|aR 6)<|bK<|aZ5 i8 rfl (d17 (by rfl) Z.z5<|aQ 1 aA) (v8 rfl (eK 8 (dI eE.nd rfl (Or.inl rfl))<|eK 9 (dI eE.nd rfl (Or.inl rfl)) pZ) (cT<|cT mD)) (bK<|d15 4 (pv 4) (aL eC (aR 6)<|aR 8) (aL dR (aR 7)<|aR 9) cI6))<|fJ<|d7<|aE (fE zM hr<|aE (fM jW rfl Z.z6 gR (aQ 5 aA)) aA)<|aE (fE zM hr<|aE (fM jW rfl Z.z6 gR (aQ 4 aA)) aA) aA)
theorem b99 (Z:Zs mg):DT P w K mg base aT6 "poly_at" a54 0 yU:=λhr=>
 (cS 2 rZ.nd aF<|bT (tO 3 rZ.nd (c72 rfl Z.z3 (aQ 0 aA))<|bK<|a97 2 rZ.nd<|aL eC (aL dR (aR 2)<|aR 1)<|aR 3)<|bK<|nT 2<|pv 2)
theorem b66 (Z:Zs mg)(zM:bW1 P w K mg base):DT P w K mg base zA "mod_poly" rX 1 vB:=λhr=>
 (fJ<|fE zM hr<|aE (fM jW rfl Z.z6 gR (aE (rM ["c","p",".acc"] (aD rX).names zA (j1<|aR 0) (λ_ _ _ _ _ _=>gI) λ_ _ _ _ _ _=>(aL iC (aR 0)<|aR 1)) aA)) aA)
theorem aR4 (Z:Zs mg)(fL:vT P w K mg base)(uD:aV3 P w K mg base)(cH:lK P w K mg base)(zN:bW3 P w K mg base):DT P w K mg base a55 "mod_parted" tZ 3 r8:=λhr=>
 (cS 3 jX.nd (fE fL hr<|aQ 1<|aQ 2 aA)<|cS 4 jX.nd (fE uD hr<|aE (dG (bM 3)<|iG aF)<|aQ 2 aA)<|bT (bG4 (fE cH hr<|aE (fE fL hr<|aQ 0<|aQ 2 aA)<|aE (fE zN hr<|aQ 3<|aQ 4<|aQ 2 aA) aA)<|v8 rfl (eK 5 (dI jX.nd rfl (Or.inl rfl))<|eK 6 (dI jX.nd rfl (Or.inl rfl)) pZ) (cT<|cT mD))<|fJ<|d7<|aE (fE zN hr<|aQ 5<|aQ 4<|aQ 2 aA)<|aE (fE fL hr<|aQ 6<|aQ 2 aA) aA)
theorem bM1 (Z:Zs mg)(fL:vT P w K mg base):DT P w K mg base aH8 "scaled" zB 2 a34:=λhr=>
 (fJ<|fE fL hr<|aE (fM jW rfl Z.z6 gR (aE (rM ["c","k",".acc"] (aD zB).names aH8 (j1<|aR 0) (λ_ _ _ _ _ _=>gI) λ_ _ _ _ _ _=>(aL dR (aR 1)<|aR 0)) aA))<|aQ 2 aA)
theorem aR5 (Z:Zs mg):DT P w K mg base a56 "inverse_of" u4 0 qZ:=λhr=>
 (cS 2 mM.nd aF<|bT (tO 3 mM.nd (fY rfl Z.z4 (aE (aL cC (aR 1) aF) aA))<|bK<|a97 2 mM.nd<|aL iC (aL dR (aR 2)<|aR 0)<|aR 1)<|bK<|nT 2<|pv 2)
theorem c47 (Z:Zs mg):DT P w K mg base bV1 "root" b54 0 aQ2:=λhr=>
 (cS 1 wS.nd (aR 0)<|cS 2 wS.nd (aL aG3 (aL eC (aR 0) aF) aF)<|bT (aJ6 i8 (gQ aZ9 (aR 2)<|aR 1)<|cS 1 wS.nd (aR 2)<|bK<|a97 2 wS.nd<|aL aG3 (aL eC (aR 1)<|aL aG3 (aR 0)<|aR 1) aF)<|bK<|nT 1<|pv 1)
theorem aI3 (Z:Zs mg){j7:Addr}(iF:mg "SMALL_PRIMES"=some (.ref j7))(uE:KT K j7 (T_SMALL_PRIMES.map V.int)):DT P w K mg base wR "small_primes" pP 0 nX:=λhr=>
 (fJ<|fM aW5 rfl Z.z2 a86 (aE (d24 rfl iF uE) aA))
theorem b67 (Z:Zs mg)(hZ:v4 P w K mg base)(vU:b63 P w K mg base)(fL:vT P w K mg base)(nL:aA2 P w K mg base):DT P w K mg base aM4 "split_by" zC 5 vD:=λhr=>
 (jB (aW3 cM1 (aR 1) (cL8 hZ hr ac rfl) rfl) (bK bO4)<|bT (bG4 (fE vU hr<|aE (fE fL hr<|aQ 0<|aQ 1 aA)<|aQ 1 aA)<|v8 rfl (eK 2 (dI vP.nd rfl (Or.inl rfl))<|eK 3 (dI vP.nd rfl (Or.inl rfl)) pZ) (cT<|cT mD))<|fJ<|aL eC (aR 2)<|fE nL hr<|aQ 3<|aQ 1 aA)
theorem aV5 (Z:Zs mg)(nP:aN6 P w K mg base)(uF:aV2 P w K mg base):DT P w K mg base aB0 "lines_out" vM 4 tW:=λhr=>
 (cS 2 iE.nd (fN aA)<|cS 3 iE.nd (aR 0)<|bT (tO 4 iE.nd (fY rfl Z.z4 (aQ 1 aA))<|cS 5 iE.nd aF<|bT (aJ6 i8 (gQ j3 (aL iC (fE nP hr<|aQ 3<|tN (iG<|aR 4) aA)<|aR 1) aF)<|cS 3 iE.nd (dG (uM<|fE uF hr<|aQ 3<|lN (d7<|aQ 4<|b7 aA)<|aQ 1 aA) aF)<|bK<|us_g 5 iE.nd aF bZ7)<|bK<|aU6 (gQ zX (aR 5) aF)<|bK<|pJ 2 (pv 2)<|d7<|lN (d7<|aQ 4<|b7 aA)<|aQ 5 aA)<|fJ<|d7<|aQ 2<|aQ 3 aA)
theorem a66 (Z:Zs mg)(l6:a12 P w K mg base):DT P w K mg base nI "rootless_parts" jV 1 lQ:=λhr=>
 (jB (gQ j3 (bY (bM 0) rfl Z.z0) aF) (fJ<|fN aA)<|cS 2 rQ.nd (cK8 (gQ j3 (bY (bM 0) rfl Z.z0) aF) (fE l6 hr<|aQ 0<|aQ 1 aA)<|fN aA)<|jB (gQ j3 (bY (bM 2) rfl Z.z0) aF) (fJ<|fN<|lN (d7<|aQ 0<|b7 aA) aA)<|jB (gQ (ou_eqD hr.units) (dG (bM 2) aF)<|dG (bM 2) aF) (fJ<|fN<|lN (d7<|aE (dG (bM 2) aF)<|b7 aA) aA)<|fJ<|rM ["g",".acc"] (aD jV).names nI (j1<|dD cO6 rfl Z.z7 cG3 (aQ 2 aA)) (λ_ _ _ _ _ _=>gI) λ_ _ _ _ _ _=>(d7<|aQ 0<|b7 aA))
theorem zK (Z:Zs mg):DT P w K mg base qR "two_by_two" kY 0 oH:=λhr=>
 (bT (tO 2 eV.nd (fY rfl Z.z4 (aQ 1 aA))<|cS 3 eV.nd (aL iC (aL cC (dG (bM 0) aF)<|aR 2)<|aR 1)<|cS 4 eV.nd (aL cC (dG (bM 0) aF)<|aL dR (aR 2)<|aR 3)<|bK<|tO 5 eV.nd (fY rfl Z.z4 (aQ 1 aA))<|cS 6 eV.nd (aL iC (aL cC (aR 4)<|aR 5)<|aR 1)<|bK<|aU6 (PUW.pt<|uN (gQ j3 (aL iC (aL dR (aR 5)<|aR 6)<|aR 1)<|dG (bM 0) aF)<|qJ<|gQ j3 (aL iC (aL eC (aL dR (aR 2)<|aR 6)<|aL dR (aR 5)<|aR 3)<|aR 1)<|dG (bM 0) aF)<|fJ<|fN<|lN (d7<|aQ 5<|aQ 2<|b7 aA)<|lN (d7<|aQ 6<|aQ 3<|b7 aA) aA)<|fJ<|fN aA)
theorem bM2 (Z:Zs mg)(k7:a65 P w K mg base):DT P w K mg base b55 "papers" aH9 8 a53:=λhr=>
 (fJ<|fE k7 hr<|aE (bI0<|aR 0)<|aE (bI0<|aR 0) aA)
theorem aV6 (Z:Zs mg)(hZ:v4 P w K mg base)(zO:b96 P w K mg base):DT P w K mg base vN "papers_of" qB 7 tX:=λhr=>
 (fJ<|rM ["p","poly","size",".acc"] (aD qB).names vN (j1<|cL8 hZ hr ac rfl) (λ_ _ _ _ _ _=>(d10<|gQ j3 (aL iC (aR 2)<|aL dR (aR 0)<|aR 0) aF)) λ_ _ _ _ _ _=>(d7<|aQ 0<|aE (fE zO hr<|aQ 1<|aQ 0 aA) aA))
theorem b68 (Z:Zs mg)(zP:b95 P w K mg base)(cH:lK P w K mg base):DT P w K mg base zD "parts_at" rY 6 vF:=λhr=>
 (fJ<|a23 (js:=[0]) (N:=["g","often","poly",".acc"]) (cap:=[none,none,some 0,none]) (last:=3) (esc:=(aD rY).names) (XN:=zD) rfl rfl af ac ac rfl (j1<|fE zP hr<|aQ 0<|aQ 1 aA) (λ_ _ _ _ _ _=>(v8 rfl (eK 0 (dI (show Nodup (["g","often","poly",".acc"]:List Str)by decide +kernel) rfl (Or.inl rfl))<|eK 1 (dI (show Nodup (["g","often","poly",".acc"]:List Str)by decide +kernel) rfl (Or.inl rfl)) pZ) (cT<|cT mD))) (λ_ _ _ _ _ _=>gI) (λ_ _ _ _ _ _=>(d7<|aQ 0<|aQ 1<|aE (dG (uM<|fE cH hr<|aQ 2<|aQ 0 aA) aF) aA)))
theorem aR6 (Z:Zs mg)(cH:lK P w K mg base):DT P w K mg base u5 "outside_of" o8 2 rD:=λhr=>
 (bT (aZ5 i8 rfl (j1<|aR 1) (v8 rfl (eK 2 (dI iH.nd rfl (Or.inr rfl))<|eK 3 (dI iH.nd rfl (Or.inl rfl)) pZ) (cT<|cT mD)) (bK<|aZ5 i8 rfl (j1<|aR 3) (v8 rfl (eK 4 (dI iH.nd rfl (Or.inl rfl))<|eK 5 (dI iH.nd rfl (Or.inl rfl))<|eK 6 (dI iH.nd rfl (Or.inl rfl)) pZ) (cT<|cT<|cT mD)) (bK<|aU6 (PUW.pt<|uN (gQ d93 (aR 5) aF)<|qJ<|qI<|dD (a21 rfl) rfl Z.z8 a22 (aE (rM ["c","p",".acc"] (aD o8).names u5 (j1<|aR 6) (λ_ _ _ _ _ _=>gI) λ_ _ _ _ _ _=>(bQ0 j3 (aL iC (aR 0)<|aL dR (aR 1)<|aR 1) aF)) aA))<|fJ<|d7<|aQ 2<|aE (dG (uM<|fE cH hr<|aQ 0<|aQ 4 aA) aF) aA)))<|fJ aZ2)
theorem aI4 (Z:Zs mg){pR:Tok}(gB:mg "GREATEST_PLACE"=some (.int 499 pR)):DT P w K mg base pQ "is_ring_poly" lJ 0 o7:=λhr=>
 (jB (PUW.pt<|k8 (gQ aZ9 (bY (bM 0) rfl Z.z0) aF)<|k8 (gQ zX (bY (bM 0) rfl Z.z0) aF)<|pY<|gQ aS6 (dG (bM 0)<|iG aF) aF) (fJ wC)<|fJ<|dD (a21 rfl) rfl Z.z8 a22 (aE (rM ["c",".acc"] (aD lJ).names pQ (j1<|aR 0) (λ_ _ _ _ _ _=>gI) λ_ _ _ _ _ _=>(bQ0 cL5 (dD bZ9 rfl Z.z9 c22 (aQ 0 aA))<|c70 rfl gB)) aA))
theorem a67 (Z:Zs mg)(pS:aN7 P w K mg base):DT P w K mg base u6 "need_ring_poly" nJ 1 lU:=λhr=>
 (bK<|aU6 (kE<|qI<|fE pS hr<|aQ 0 aA)<|bK bO4)
theorem bW7 (Z:Zs mg)(d8:lX P w K mg base)(oC:aI2 P w K mg base)(l7:a13 P w K mg base):DT P w K mg base bF1 "apart" aR0 3 aH2:=λhr=>
 (bT (bG7<|fE d8 hr<|aQ 0 aA)<|cS 1 aI0.nd (fE oC hr<|aQ 0 aA)<|jB (PUW.pt<|uN (bG9<|aR 1)<|qJ<|gQ j3 (bY (bM 0) rfl Z.z0) aF) (bK<|a97 1 aI0.nd<|fE l7 hr<|aQ 0 aA)<|bK<|nT 1<|pv 1)
theorem b69 (Z:Zs mg):DT P w K mg base aM5 "dividers" zE 0 vG:=λhr=>
 (jB (gQ j3 (aR 0) aF) (fJ<|fN<|b7 aA)<|cS 1 vQ.nd (fN aA)<|bT (tO 2 vQ.nd (wE rfl Z.z4 (b7<|aE (aL eC (dD bZ9 rfl Z.z9 c22 (aQ 0 aA)) aF) aA))<|bK<|aU6 (gQ j3 (aL iC (aR 0)<|aR 2) aF)<|bT (pJ 1 (pv 1)<|aR 2)<|bK<|pJ 1 (pv 1)<|iG<|aR 2)<|bK<|nT 1<|pv 1)
theorem aA3 (Z:Zs mg)(lL:aB6 P w K mg base)(nP:aN6 P w K mg base)(cH:lK P w K mg base):DT P w K mg base uX "line_and_rest" o9 2 nF:=λhr=>
 (bT (tO 1 nK.nd (j1<|fE lL hr<|aE (dG (bM 0) aF) aA)<|bK<|aU6 (gQ j3 (fE nP hr<|aQ 0<|aQ 1 aA) aF)<|cS 2 nK.nd (d7<|tN (iG<|aR 1)<|b7 aA)<|fJ<|d7<|aQ 2<|aE (dG (uM<|fE cH hr<|aQ 0<|aQ 2 aA) aF) aA)<|fJ aZ2)
theorem zL (Z:Zs mg)(lL:aB6 P w K mg base)(zQ:b97 P w K mg base):DT P w K mg base qS "two_by_two" kZ 2 kB:=λhr=>
 (bT (tO 1 fQ.nd (j1<|fE lL hr<|aE (dG (bM 0) aF) aA)<|cS 2 fQ.nd (aL aG3 (dG (bM 0) aF)<|aR 1)<|bK<|tO 3 fQ.nd (j1<|fE zQ hr<|aE (dG (bM 0) aF)<|aE (aL cC (aL cC (dG (bM 0) aF)<|aR 1)<|aR 2) aA)<|cS 4 fQ.nd (aL cC (dG (bM 0) aF)<|aR 3)<|bK<|aU6 (gQ j3 (aL eC (aL dR (aR 3)<|aR 2)<|aL dR (aR 1)<|aR 4)<|dG (bM 0) aF)<|fJ<|d7<|lN (d7<|aQ 1<|aQ 3<|b7 aA)<|lN (d7<|aQ 2<|aQ 4<|b7 aA) aA)<|fJ aZ2)
theorem b70 (Z:Zs mg)(b72:cG4 P w K mg base):DT P w K mg base aM6 "two_with" zF 1 vI:=λhr=>
 (cS 2 vR.nd (aL cC (aL dR (aR 0)<|aR 0)<|aL dR aF<|aR 1)<|jB (gQ aZ9 (aR 2) aF) (fJ<|fN aA)<|cS 3 vR.nd (fE b72 hr<|aQ 2 aA)<|jB (gQ aS6 (aL dR (aR 3)<|aR 3)<|aR 2) (fJ<|fN aA)<|fJ<|fN<|aE (aL aG3 (aL eC (aR 0)<|aR 3) aF)<|aE (aL aG3 (aL cC (aR 0)<|aR 3) aF) aA)
theorem a93 (Z:Zs mg){k:Nat}{gG:Φ}(hk:1<=k)(aO0:Fn P w K mg base "det" j4 k gG)(nQ:bL7 P w K mg base):DT P w K mg base cA2 "det" aY4 k (b19 gG):=λhr=>
 (bT (c65 (aW3 j3 (bY (yF 0<|pv 0) rfl Z.z0) aF<|bF5 _) (bK<|bZ6<|aZ8 (uM<|aZ8 (yF 0<|pv 0) aF λ_ _=>rfl) aF λ_ _=>rfl) bZ5)<|bT (a16 1 oA.nd rfl (Or.inl rfl) aF (hl:=il (n:=4) rfl ac))<|bT (a16 2 oA.nd rfl (Or.inl rfl) aF (hl:=il (n:=4) rfl ac))<|bT (aZ5 i8 rfl (fY rfl Z.z4 (aE (bY (yF 0<|pv 0) rfl Z.z0) aA)) (aJ5 3<|dI oA.nd rfl (Or.inl rfl)) (bT (cL1 1 oA.nd rfl (Or.inl rfl) (aL dR (aL dR (gE 2<|pv 2)<|aZ8 (uM<|aZ8 (yF 0<|pv 0) (gE 3<|pv 3) λ_ _=>rfl) aF λ_ _=>rfl)<|aK0 aO0 hr (aB _) rfl (aE (aK0 nQ hr hk rfl (aE (gE 0<|pv 0)<|aE (gE 3<|pv 3) aA)) aA)) bZ7 (hl:=il (n:=4) rfl ac))<|bK<|a16 2 oA.nd rfl (Or.inl rfl) (iG<|gE 2<|pv 2) (hl:=il (n:=4) rfl ac)))<|bK<|nT 1<|pv 1)
theorem bA0 (Z:Zs mg):DT P w K mg base a59 "without" uY 0 yR:=λhr=>
 (fJ<|fM jW rfl Z.z6 gR (aE (rM ["row",".acc"] (aD uY).names a59 (j1<|aL eC (wG (bM 0) a17<|nU<|aR 1)<|wG (bM 0) (nU<|aL eC (aR 1) aF) a17) (λ_ _ _ _ _ _=>gI) λ_ _ _ _ _ _=>(wG (bM 0) (nU aF) a17)) aA))
theorem bA1 (Z:Zs mg)(d8:lX P w K mg base)(vV:b64 P w K mg base)(aO0:cV3 P w K mg base):DT P w K mg base a60 "measure" uZ 5 yX:=λhr=>
 (bT (bG7<|fE d8 hr<|aQ 0 aA)<|cS 1 zH.nd (aL cC (bY (bM 0) rfl Z.z0) aF)<|cS 2 zH.nd (fE vV hr<|aQ 0<|aE (aL cC (aL dR aF<|aR 1) aF) aA)<|fJ<|fE aO0 hr<|aE (fM jW rfl Z.z6 gR (aE (rM ["i","sums","n",".acc"] (aD uZ).names a60 (fY rfl Z.z4 (aQ 1 aA)) (λ_ _ _ _ _ _=>gI) λ_ _ _ _ _ _=>(fM jW rfl Z.z6 gR (aE (wG (bM 1) (nU<|aR 0)<|nU<|aL eC (aR 0)<|aR 2) aA))) aA)) aA)
theorem aV7 (Z:Zs mg):DT P w K mg base vO "root_sums" qC 0 tU:=λhr=>
 (cS 2 j6.nd (aL cC (bY (bM 0) rfl Z.z0) aF)<|cS 3 j6.nd (fN<|aQ 2 aA)<|bT (tO 4 j6.nd (wE rfl Z.z4 (b7<|aQ 1 aA))<|cS 5 j6.nd (dD (cu_sum rfl) rfl Z.z10 bt_sum (aE (rM ["i","poly","n","sums","k",".acc"] (aD qC).names vO (wE rfl Z.z4 (b7<|aE (aL eC (dD (cu_min rfl) rfl Z.z11 bt_min (aE (aL cC (aR 4) aF)<|aQ 2 aA)) aF) aA)) (λ_ _ _ _ _ _=>gI) λ_ _ _ _ _ _=>(aL dR (dG (bM 1)<|aL cC (aR 2)<|aR 0)<|dG (bM 3)<|aL cC (aR 4)<|aR 0)) aA))<|jB (gQ cL5 (aR 4)<|aR 2) (bK<|us_g 5 j6.nd (aL dR (aR 4)<|dG (bM 0)<|aL cC (aR 2)<|aR 4) bZ7)<|bK<|pJ 3 (pv 3)<|iG<|aR 5)<|bK<|nT 3<|pv 3)
theorem a68 (Z:Zs mg){eZ:Addr}(iQ:mg "FallsApart"=some (.ref eZ)){hG:Addr}{bA3:FuncData}(lM:aA7 K eZ hG [.type "ValueError",.type "Exception",.type "BaseException",.type "object"] "ValueError.__new__"=true)(zR:bQ5 K eZ hG bA3 "left" "right")(aR7:c44 P w K mg base){f:Addr}{cdv:Value}{A:Around}{outer:List Env}{s:Shared}{H:Hp}{E:XK}(hr:gM 4 (A.deeper<|envOfC "need_together" (aD iP) s.heap.objs.size f cdv)) :
  zZ (qV (CXr P w base) P w K mg base v3 "need_together" (aD iP) f cdv A outer s H E) E (dJ iP) lW:=
 (bH6 (aK6<|a16 1 uA.nd rfl (Or.inl rfl) (aK0 aR7 hr ac rfl (aE (gE 0<|pv 0) aA)) (hl:=il (n:=2) rfl ac))<|b11<|cP7 (bP5<|gE 1<|pv 1) (b11<|bD8 (k:=0) wX lM zR (hr.mono ac) rfl iQ rfl (aE (aZ8 (yF 1<|pv 1) aF λ_ _=>rfl)<|aE (aZ8 (yF 1<|pv 1) aF λ_ _=>rfl) aA) c19 rfl ac) c21)
theorem aN9 (Z:Zs mg){gO:Addr}(l8:mg "NotWhole"=some (.ref gO)){jD:Addr}{bX0:FuncData}(pT:aA7 K gO jD [.type "ValueError",.type "Exception",.type "BaseException",.type "object"] "ValueError.__new__"=true)(aI5:bQ5 K gO jD bX0 "prime" "number")(uG:aV4 P w K mg base)(k7:a65 P w K mg base)(aI6:bW2 P w K mg base){f:Addr}{cdv:Value}{A:Around}{outer:List Env}{s:Shared}{H:Hp}{E:XK}(hr:gM 8 (A.deeper<|envOfC "need_whole" (aD j5) s.heap.objs.size f cdv)) :
  zZ (qV (CXr P w base) P w K mg base u9 "need_whole" (aD j5) f cdv A outer s H E) E (dJ j5) pO:=
 (bH6 (aK6<|a16 2 mO.nd rfl (Or.inl rfl) (aK0 uG hr ac rfl (aE (gE 0<|pv 0)<|aE (aK0 k7 hr ac rfl (aE (gE 0<|pv 0)<|aE (gE 1<|pv 1) aA)) aA)) (hl:=il (n:=5) rfl ac))<|b11<|cP7 (bP5<|gE 2<|pv 2) (bH6 (aK6<|bG4 (gE 2<|pv 2)<|v8 rfl (eK 3 (dI mO.nd rfl (Or.inr rfl))<|eK 4 (dI mO.nd rfl (Or.inl rfl)) pZ) (cT<|cT mD))<|b11<|bD8 (k:=0) wX pT aI5 (hr.mono ac) rfl l8 rfl (aE (gE 3<|pv 3)<|aE (aK0 aI6 hr ac rfl (aE (fM jW rfl Z.z6 gR (aE (a23 (js:=[3]) (N:=["c","p",".acc"]) (cap:=[none,some 3,none]) (last:=2) (esc:=(aD j5).names) (XN:=u9) rfl rfl af ac ac rfl (j1<|gE 4<|pv 4) (λ_ _ _ _ _ _=>(aJ5 0<|dI (show Nodup (["c","p",".acc"]:List Str)by decide +kernel) rfl (Or.inl rfl))) (λ_ _ _ _ _ _=>gI) (λ_ _ _ _ _ _=>(aL iC (gE 0<|pv 0)<|gE 1<|pv 1))) aA))<|aE (aL cC (bY (yF 0<|pv 0) rfl Z.z0) aF) aA)) aA) c19 rfl ac) c21)
theorem cV6 (Z:Zs mg):DT P w K mg base cU6 "_law_cell" c40 0 bI2:=λhr=>
 (jB (gQ j3 (bY (bM 0) rfl Z.z0) aF) (fJ<|aL dR aF<|aL eC (aR 1) aF)<|jB (gQ aZ9 (aR 1)<|bY (bM 0) rfl Z.z0) (fJ<|dG (bM 0)<|aR 1)<|fJ<|aL eC (dG (bM 0)<|aL iC (aR 1)<|bY (bM 0) rfl Z.z0)<|aL dR aF<|aR 1)
theorem cG6 (Z:Zs mg):DT P w K mg base cA4 "_law_mixed" bL1 0 b15:=λhr=>
 (cS 3 b62.nd (aL iC (aL dR (aL eC (aL eC (aL eC (aR 0)<|aL dR (aL dR aF<|aR 1)<|aR 1)<|aL dR aF<|aR 1) aF) aF) aF)<|cS 3 b62.nd (aL iC (aL dR (aR 3)<|aR 3) aF)<|fJ<|aL iC (aL dR (aR 3) aF)<|aR 2)
theorem cG7 (Z:Zs mg)(a94:bW5 P w K mg base):DT P w K mg base cA5 "_law_draws" bL2 1 b16:=λhr=>
 (cS 3 wT.nd aF<|jB (gQ d93 (aR 0)<|aL cL4 aF aF) (bK<|a97 3 wT.nd<|aL cC (aR 0)<|aL cL4 aF aF)<|cS 4 wT.nd (fN aA)<|bT (tO 5 wT.nd (fY rfl Z.z4 (aE (bY (bM 1) rfl Z.z0) aA))<|bK<|c65 (gQ zX (aR 3) aF) (bT (pJ 4 (pv 4)<|aL iC (aR 3)<|dG (bM 1)<|aR 5)<|bK<|a97 3 wT.nd<|aL aG3 (aR 3)<|dG (bM 1)<|aR 5)<|bK<|pJ 4 (pv 4)<|aL iC (fE a94 hr<|aQ 0<|aQ 5<|aQ 2 aA)<|dG (bM 1)<|aR 5)<|bK<|nT 4<|pv 4)
theorem bW8 (Z:Zs mg):DT P w K mg base bF2 "_law_shifted" aR1 0 aH4:=λhr=>
 (cS 2 zI.nd (fM aW5 rfl Z.z2 a86 (aQ 0 aA))<|bT (tO 3 zI.nd (fY rfl Z.z4 (aE (aL cC (bY (bM 2) rfl Z.z0) aF) aA))<|bK<|tO 4 zI.nd (bD0 rfl Z.z4 (aE (aL cC (bY (bM 2) rfl Z.z0) aF)<|aE (aL cC (aR 3) aF)<|tN (iG aF) aA))<|bK<|yG 2 (pv 2) (aL eC (dG (bM 2)<|aR 4)<|aL dR (aR 1)<|dG (bM 2)<|aL eC (aR 4) aF)<|aR 4)<|fJ<|fM jW rfl Z.z6 gR (aQ 2 aA))
theorem cV7 (Z:Zs mg)(qD:bW6 P w K mg base)(a95:c45 P w K mg base):DT P w K mg base c41 "_law_poly" bL3 2 bJ9:=λhr=>
 (cS 2 a91.nd (fE qD hr<|aQ 0<|aE (fN<|b7<|b7 aA)<|aQ 1 aA)<|cS 3 a91.nd (wG (uM<|fE qD hr<|aQ 0<|aE (fN<|b7<|b7<|b7<|b7<|b7<|b7 aA)<|aQ 1 aA) (nU aF)<|nU<|aL eC (dG (bM 2) aF) aF)<|jB (gQ j3 (dG (bM 2) aF) aF) (fJ<|fM jW rfl Z.z6 gR (aE (aL eC (rM ["_law_place",".acc"] (aD bL3).names c41 (j1<|aR 3) (λ_ _ _ _ _ _=>gI) λ_ _ _ _ _ _=>(aL cC (aR 0) aF))<|fN<|b7 aA) aA))<|cS 4 a91.nd (fE qD hr<|aQ 0<|aE (fN<|b7<|b7<|b7<|b7<|b7<|b7<|b7 aA)<|aQ 1 aA)<|jB (gQ j3 (dG (bM 2) aF) aF) (cS 4 a91.nd (fE qD hr<|aQ 0<|aE (fN<|b7<|b7<|b7<|b7 aA)<|aQ 1 aA)<|fJ<|d7<|aE (aL cC (dG (bM 4) aF) aF)<|aE (aL cC (dG (bM 4) aF) aF)<|b7 aA)<|jB (gQ j3 (dG (bM 2) aF) aF) (fJ<|fE a95 hr<|lN (d7<|aE (aL cC (dG (bM 4) aF) aF)<|aE (aL cC (dG (bM 4) aF) aF)<|aE (aL cC (dG (bM 4) aF) aF)<|b7 aA)<|aE (aL cC (dG (bM 4) aF) aF) aA)<|cS 4 a91.nd (fE qD hr<|aQ 0<|aE (fN<|b7<|b7<|b7<|b7<|b7<|b7<|b7 aA)<|aQ 1 aA)<|fJ<|fE a95 hr<|lN (d7<|aE (aL cC (dG (bM 4) aF) aF)<|aE (aL cC (dG (bM 4) aF) aF)<|aE (aL cC (dG (bM 4) aF) aF)<|aE (aL cC (dG (bM 4) aF) aF)<|b7 aA)<|aE (aL cC (dG (bM 4) aF) aF) aA)
theorem b71 (Z:Zs mg)(a94:bW5 P w K mg base):DT P w K mg base aM9 "_law_known_ring" zG 1 vL:=λhr=>
 (by refine WS.out ?_;exact ws_lw (c14 (a09<|a09<|a09 a26)<|c14 (cE1<|a09<|a09 a26)<|c14 (a09<|a09<|a09 a26)<|c14 (cE1<|a09<|a09 a26)<|c14 (cE1<|cE1<|a09<|a09 a26)<|c14 (cE1<|a09<|a09<|a09 a26)<|c14 (cE1<|a09<|a09<|a09 a26) a26) (ws_of<|cS 1 vS.nd (aL eC (aR 1)<|fN<|lN (d7<|b7<|b7<|b7<|b7<|b7 aA)<|lN (d7<|tN (iG aF)<|tN (iG aF)<|b7<|b7<|b7 aA)<|lN (d7<|b7<|b7<|b7<|b7<|b7 aA)<|lN (d7<|tN (iG aF)<|b7<|b7<|b7<|b7 aA)<|lN (d7<|b7<|b7<|tN (iG aF)<|b7<|b7 aA) aA)<|fJ<|dG (bM 1)<|aL iC (fE a94 hr<|aQ 0<|b7<|b7 aA) aF) vS.nd)
theorem cV8 (Z:Zs mg){hV:Addr}(l9:mg "RingError"=some (.ref hV))(qT:excIn K hV [.type "ValueError",.type "Exception",.type "BaseException",.type "object"] "ValueError.__new__"=true)(pU: ∀n∈(["FallsApart","TooGreat","NotWhole"]:List Str),∀C,mg n=some (.ref C)->aP0 K hV C [.type "ValueError",.type "Exception",.type "BaseException",.type "object"] "ValueError.__new__")(zS:MkX P w K mg base "Ring" 10 ["poly","degree","measure"] mI)(c48:d72 P w K mg base)(aI7:cB4 P w K mg base)(zT:b98 P w K mg base):DT P w K mg base cU7 "_law_ring" c42 11 bJ8:=λhr=>
 (cS 3 a92.nd aZ2<|bT (tO 4 a92.nd (fY rfl Z.z4 (b7 aA))<|bK<|aU6 (bG9<|aR 3)<|bK<|d31 3 ["FallsApart","TooGreat","NotWhole"] wX zS hr ac rfl rfl rfl rfl rfl (λ_=>(aE (fE c48 hr<|aE (fE aI7 hr<|aQ 0<|aE (aL eC (aR 1)<|aR 4) aA)<|aQ 2 aA) aA)) a92.nd rfl (Or.inl rfl) (λ_=>(bK<|a97 3 a92.nd aZ2)) rfl l9 qT pU (il (n:=5) rfl ac))<|jB (bG9<|aR 3) (bK<|a97 3 a92.nd<|c78 zS hr ac rfl (aE (fE zT hr<|aE (fE aI7 hr<|aQ 0<|aQ 1 aA) aA) aA))<|bK<|nT 3<|pv 3)
theorem cG8 (Z:Zs mg):DT P w K mg base cA8 "_law_value" bL4 0 b47:=λhr=>
 (cS 2 aN4.nd aF<|bT (tO 3 aN4.nd (c72 rfl Z.z3 (aQ 0 aA))<|bK<|a97 2 aN4.nd<|aL eC (aL dR (aR 2)<|aR 1)<|aR 3)<|bK<|nT 2<|pv 2)
theorem cG9 (Z:Zs mg):DT P w K mg base cA9 "_law_whole" bL5 0 b18:=λhr=>
 (fJ<|cK7 (dD a18 rfl Z.z12 gY (aQ 0<|aE (aS7 rfl Z.z13 bt_int) aA))<|bZ4<|pu_not<|dD a18 rfl Z.z12 gY (aQ 0<|aE (aS7 rfl Z.z14 d34) aA))
theorem d76 (Z:Zs mg)(sB:b65 P w K mg base):DT P w K mg base cU8 "_law_row" cB0 1 c33:=λhr=>
 (jB (PUW.pt<|k8 (kE<|qI<|dD a18 rfl Z.z12 gY (aQ 0<|aE (aS7 rfl Z.z6 gR) aA))<|pY<|gQ aS6 (bY (bM 0) rfl Z.z0)<|aR 1) (fJ wC)<|fJ<|dD (a21 rfl) rfl Z.z8 a22 (aE (rM ["_law_place",".acc"] (aD cB0).names cU8 (j1<|aR 0) (λ_ _ _ _ _ _=>gI) λ_ _ _ _ _ _=>(fE sB hr<|aQ 0 aA)) aA))
theorem bA2 (Z:Zs mg):DT P w K mg base aT9 "_law_times_out" a62 0 yZ:=λhr=>
 (cS 2 sA.nd (aL dR (fN<|b7 aA)<|aL cC (aL eC (bY (bM 0) rfl Z.z0)<|bY (bM 1) rfl Z.z0) aF)<|bT (tO 3 sA.nd (fY rfl Z.z4 (aE (bY (bM 0) rfl Z.z0) aA))<|bK<|tO 4 sA.nd (fY rfl Z.z4 (aE (bY (bM 1) rfl Z.z0) aA))<|bK<|yG 2 (pv 2) (aL eC (dG (bM 2)<|aL eC (aR 3)<|aR 4)<|aL dR (dG (bM 0)<|aR 3)<|dG (bM 1)<|aR 4)<|aL eC (aR 3)<|aR 4)<|fJ<|fM jW rfl Z.z6 gR (aQ 2 aA))
theorem bW9 (Z:Zs mg):DT P w K mg base aR2 "_law_squared" a89 0 aH6:=λhr=>
 (cS 1 aI1.nd (fN aA)<|bT (tO 2 aI1.nd (wE rfl Z.z4 (b7<|b7 aA))<|bK<|aU6 (PUW.pt<|uN (gQ j3 (aL iC (aR 0)<|aL dR (aR 2)<|aR 2) aF)<|qJ<|qI<|dD (a21 rfl) rfl Z.z8 a22 (aE (rM ["_law_q","_law_p",".acc"] (aD a89).names aR2 (wE rfl Z.z4 (b7<|aQ 2 aA)) (λ_ _ _ _ _ _=>gI) λ_ _ _ _ _ _=>(bQ0 zX (aL iC (aR 1)<|aR 0) aF)) aA))<|bK<|pJ 1 (pv 1)<|aR 2)<|bK<|nT 1<|pv 1)
theorem cV9 (Z:Zs mg):DT P w K mg base cV0 "_law_left" c43 0 bK4:=λhr=>
 (cS 2 zJ.nd (fM aW5 rfl Z.z2 a86 (aQ 0 aA))<|cS 3 zJ.nd (aL cC (bY (bM 1) rfl Z.z0) aF)<|bT (tO 4 zJ.nd (bD0 rfl Z.z4 (aE (aL cC (aL cC (bY (bM 0) rfl Z.z0) aF)<|aR 3)<|tN (iG aF)<|tN (iG aF) aA))<|cS 5 zJ.nd (dG (bM 2)<|aL eC (aR 4)<|aR 3)<|bK<|tO 6 zJ.nd (fY rfl Z.z4 (aE (bY (bM 1) rfl Z.z0) aA))<|bK<|yG 2 (pv 2) (aL cC (dG (bM 2)<|aL eC (aR 4)<|aR 6)<|aL dR (aR 5)<|dG (bM 1)<|aR 6)<|aL eC (aR 4)<|aR 6)<|cS 2 zJ.nd (wG (bM 2) a17<|nU<|aR 3)<|bT (aJ6 i8 (PUW.pt<|uN (gQ zX (bY (bM 2) rfl Z.z0) aF)<|qJ<|gQ j3 (dG (bM 2)<|iG aF) aF)<|bK<|us_pop 2<|pv 2)<|fJ<|fM jW rfl Z.z6 gR (aQ 2 aA))
theorem cW0 (Z:Zs mg)(cB5:TF_row P w K mg base)(sB:b65 P w K mg base)(bM3:cV4 P w K mg base)(c49:d74 P w K mg base):DT P w K mg base b59 "_law_part" aR3 2 bK6:=λhr=>
 (jB (PUW.pt<|k8 (kE<|qI<|dD a18 rfl Z.z12 gY (aQ 2<|aE (aS7 rfl Z.z6 gR) aA))<|pY<|gQ aS6 (bY (bM 2) rfl Z.z0) aF) (fJ wC)<|bT (bG4 (aR 2)<|v8 rfl (eK 3 (dI aN5.nd rfl (Or.inr rfl))<|eK 4 (dI aN5.nd rfl (Or.inl rfl))<|eK 5 (dI aN5.nd rfl (Or.inl rfl)) pZ) (cT<|cT<|cT mD))<|jB (PUW.pt<|k8 (kE<|qI<|dD a18 rfl Z.z12 gY (aQ 3<|aE (aS7 rfl Z.z6 gR) aA))<|k8 (gQ aZ9 (bY (bM 3) rfl Z.z0) aF)<|k8 (gQ zX (bY (bM 3) rfl Z.z0) aF)<|k8 (kE<|qI<|fE cB5 hr<|aQ 3<|aE (bY (bM 3) rfl Z.z0) aA)<|pY<|gQ aS6 (dG (bM 3)<|iG aF) aF) (fJ wC)<|jB (PUW.pt<|k8 (kE<|qI<|dD (a21 rfl) rfl Z.z8 a22 (aE (rM ["_law_place","_law_p",".acc"] (aD aR3).names b59 (j1<|aR 3) (λ_ _ _ _ _ _=>gI) λ_ _ _ _ _ _=>(cN4 cL5 aZ9 aF (aR 0)<|aR 1)) aA))<|k8 (kE<|qI<|fE sB hr<|aQ 4 aA)<|pY<|gQ aZ9 (aR 4) aF) (fJ wC)<|jB (PUW.pt<|uN (gQ j3 (bY (bM 3) rfl Z.z0) aF)<|qJ<|qI<|dD (cO2 rfl) rfl Z.z15 cO3 (aE (rM ["_law_r","_law_g","_law_p",".acc"] (aD aR3).names b59 (fY rfl Z.z4 (aQ 1 aA)) (λ_ _ _ _ _ _=>gI) λ_ _ _ _ _ _=>(bQ0 j3 (aL iC (fE bM3 hr<|aQ 1<|aQ 0 aA)<|aR 2) aF)) aA)) (fJ wC)<|cS 6 aN5.nd (fE c49 hr<|aQ 0<|aQ 3 aA)<|jB (PUW.pt<|k8 (kE<|qI<|fE cB5 hr<|aQ 5<|aE (bY (bM 6) rfl Z.z0) aA)<|pY<|gQ (ou_neD hr.units) (aR 5)<|aR 6) (fJ wC)<|fJ<|pu_or (bQ0 j3 (aR 4) aF)<|bZ4<|dD (cO2 rfl) rfl Z.z15 cO3 (aE (rM ["_law_place","_law_p",".acc"] (aD aR3).names b59 (j1<|aR 6) (λ_ _ _ _ _ _=>gI) λ_ _ _ _ _ _=>(bQ0 zX (aL iC (aR 0)<|aL dR (aR 1)<|aR 1) aF)) aA))
theorem cH0 (Z:Zs mg)(sB:b65 P w K mg base)(c50:d75 P w K mg base)(a69:bL9 P w K mg base):DT P w K mg base aN1 "_law_paper" a90 3 b52:=λhr=>
 (jB (PUW.pt<|k8 (kE<|qI<|dD a18 rfl Z.z12 gY (aQ 2<|aE (aS7 rfl Z.z6 gR) aA))<|k8 (gQ aS6 (bY (bM 2) rfl Z.z0) aF)<|k8 (kE<|qI<|fE sB hr<|aE (dG (bM 2) aF) aA)<|pY<|gQ aS6 (dG (bM 2) aF)<|aR 1) (fJ wC)<|jB (PUW.pt<|k8 (kE<|qI<|dD a18 rfl Z.z12 gY (aE (dG (bM 2) aF)<|aE (aS7 rfl Z.z2 a86) aA))<|pY<|kE<|qI<|dD (a21 rfl) rfl Z.z8 a22 (aE (rM ["_law_part_here","_law_poly_here","_law_p",".acc"] (aD a90).names aN1 (j1<|dG (bM 2) aF) (λ_ _ _ _ _ _=>gI) λ_ _ _ _ _ _=>(fE c50 hr<|aQ 1<|aQ 2<|aQ 0 aA)) aA)) (fJ wC)<|bT (bO9 (js:=[]) (N:=["_law_part_here",".acc"]) (cap:=[none,none]) (last:=1) (esc:=(aD a90).names) (XN:=aN1) 3 rfl rfl af ac ac rfl (j1<|dG (bM 2) aF) (λ_ _ _ _ _ _=>(aJ5 0<|dI (show Nodup (["_law_part_here",".acc"]:List Str)by decide +kernel) rfl (Or.inl rfl))) (λ_ _ _ _ _ _=>gI) (λ_ _ _ _ _ _=>(d7<|aE (bY (uM<|dG (bM 0) aF) rfl Z.z0)<|aE (dG (bM 0) aF) aA)) (dI wU.nd rfl (Or.inl rfl)) (il (n:=7) rfl ac))<|cS 4 wU.nd (d7<|b7 aA)<|bT (tO 5 wU.nd (fY rfl Z.z4 (aE (bY (bM 3) rfl Z.z0) aA))<|jB (PUW.pt<|k8 (PUW.pt<|uN (gQ zX (aR 5) aF)<|qJ<|gQ (ou_geP hr.units) (dG (bM 3)<|aL cC (aR 5) aF)<|dG (bM 3)<|aR 5)<|k8 (gQ zX (bY (bM 4) rfl Z.z0)<|bY (bM 0) rfl Z.z0)<|pY<|gQ zX (dG (uM<|dG (uM<|dG (bM 2) aF)<|aR 5) aF) aF) (fJ wC)<|bK<|tO 6 wU.nd (fY rfl Z.z4 (aE (dG (uM<|dG (uM<|dG (bM 2) aF)<|aR 5) aF) aA))<|bK<|a97 4 wU.nd<|fE a69 hr<|aQ 4<|aE (dG (uM<|dG (bM 3)<|aR 5) aF) aA)<|fJ<|cK7 (bQ0 j3 (bY (bM 4) rfl Z.z0)<|bY (bM 0) rfl Z.z0)<|bZ4<|dD (a21 rfl) rfl Z.z8 a22 (aE (a23 (js:=[1]) (N:=["_law_a","_law_b","_law_p",".acc"]) (cap:=[none,none,some 1,none]) (last:=3) (esc:=(aD a90).names) (XN:=aN1) rfl rfl af ac ac rfl (cN1 (by rfl) Z.z16<|aQ 4<|aQ 0 aA) (λ_ _ _ _ _ _=>(v8 rfl (eK 0 (dI (show Nodup (["_law_a","_law_b","_law_p",".acc"]:List Str)by decide +kernel) rfl (Or.inl rfl))<|eK 1 (dI (show Nodup (["_law_a","_law_b","_law_p",".acc"]:List Str)by decide +kernel) rfl (Or.inl rfl)) pZ) (cT<|cT mD))) (λ_ _ _ _ _ _=>gI) (λ_ _ _ _ _ _=>(bQ0 j3 (aL iC (aL cC (aR 0)<|aR 1)<|aR 2) aF))) aA))
theorem d77 (Z:Zs mg)(zS:MkX P w K mg base "Ring" 10 ["poly","degree","measure"] mI)(qD:bW6 P w K mg base)(aI7:cB4 P w K mg base)(c51:d73 P w K mg base)(aR8:c46 P w K mg base)(aI8:bW4 P w K mg base)(bM4:cV5 P w K mg base){f:Addr}{cdv:Value}{A:Around}{outer:List Env}{s:Shared}{H:Hp}{E:XK}(hr:gM 12 (A.deeper<|envOfC "law" (aD aB5) s.heap.objs.size f cdv)):c08 (qV CX0 P w K mg base cV1 "law" (aD aB5) f cdv A outer s H E).nox (dJ aB5) bK9:=
 (yL (b06<|a97 1 a63.nd<|fE qD hr<|aE (fE aI7 hr<|aQ 0<|b7 aA)<|aE (fN<|b7<|b7 aA)<|b7 aA)<|yL (b06<|c65 (bH0<|gQ j3 (dG (bM 1) aF) aF) (bK<|a97 2 a63.nd<|c78 zS hr ac (by rfl)<|aE (dG (uM<|fN<|lN (d7<|tN (iG aF)<|tN (iG aF)<|tN (iG aF)<|b7 aA)<|lN (d7<|b7<|b7<|tN (iG aF)<|b7<|b7 aA)<|lN (d7<|tN (iG aF)<|b7<|b7<|b7<|b7 aA)<|lN (d7<|b7<|b7<|b7<|b7<|b7 aA) aA)<|dG (bM 1) aF) aA)<|bK<|a97 2 a63.nd<|fE c51 hr<|aQ 0<|b7<|b7 aA)<|yL (b06<|a97 3 a63.nd<|fE aR8 hr<|aE (bI0<|aR 2) aA)<|yL (uz_for 4 i8 (by rfl) (by rfl) Z.z4 (b7 aA) (dI a63.nd (by rfl)<|Or.inl<|by rfl)<|yL (b06<|a97 5 a63.nd<|fE aI8 hr<|aQ 2 aA)<|yL (b06<|aU6 (bH0<|PUW.pt<|k8 (kE<|qI<|dD a18 (by rfl) Z.z12 gY<|aQ 5<|aE (aS7 (by rfl) Z.z2 a86) aA)<|pY<|gQ aS6 (bY (bM 5) (by rfl) Z.z0)<|bY (bM 3) (by rfl) Z.z0)<|fJ wC)<|yL (b06<|aU6 (bH0<|kE<|qI<|dD (a21<|by rfl) (by rfl) Z.z8 a22<|aE (a23 (js:=[2]) (N:=["_law_p","_law_paper_here","_law_ring_here",".acc"]) (cap:=[none,none,some 2,none]) (last:=3) (esc:=(aD aB5).names) (XN:=cV1) (by rfl) (by rfl) af ac ac (by rfl) (cN1 (by rfl) Z.z16<|aQ 3<|aQ 5 aA) (λ_ _ _ _ _ _=>(v8 (by rfl) (eK 0 (dI (show Nodup (["_law_p","_law_paper_here","_law_ring_here",".acc"]:List Str)by decide +kernel) (by rfl)<|Or.inl<|by rfl)<|eK 1 (dI (show Nodup (["_law_p","_law_paper_here","_law_ring_here",".acc"]:List Str)by decide +kernel) (by rfl)<|Or.inl<|by rfl) pZ)<|cT<|cT mD)) (λ_ _ _ _ _ _=>gI) λ_ _ _ _ _ _=>(fE bM4 hr<|aE (bI0<|aR 2)<|aQ 0<|aQ 1 aA)) aA)<|fJ wC)<|cO9 5 6 i8 (by rfl) (pv 5) (pv 5) (dI a63.nd (by rfl)<|Or.inl<|by rfl) (dG (bM 6) aF) (d7<|lN (d7<|b7<|b7 aA)<|b7<|lN (d7 aA) aA) (d7<|b7<|aE (fN aA) aA) (λ_=>⟨ac,ac,ac,trivial⟩) λ_=>⟨ac,ac,trivial⟩)<|uz_one<|b06<|bZ6 wC)
theorem cH1 (Z:Zs mg){nM:Tok}(fF:mg "GREATEST_MEASURE"=some (.int 39999 nM)){pV:Addr}(lB:mg "TooGreat"=some (.ref pV))(pW:excIn K pV [.type "ValueError",.type "Exception",.type "BaseException",.type "object"] "ValueError.__new__"=true)(d8:lX P w K mg base)(a70:bL8 P w K mg base)(nN:FnX P w K mg base "need_together" u8 5 j0)(rF:FnX P w K mg base "need_whole" a07 9 lH){f:Addr}{cdv:Value}{A:Around}{outer:List Env}{s:Shared}{H:Hp}{E:XK}(hr:gM 9 (A.deeper<|envOfC "Ring.__init__" (aD a64) s.heap.objs.size f cdv)) :
  PSs (qV (CXr P w base) P w K mg base ["self","poly","size"] "Ring.__init__" (aD a64) f cdv A outer s H E) (dJ a64) (λD=>lSX K mg E b36 {D with nx:=tS3 K "poly" "degree" "measure" b37 b38 b39 D}):=
 (aX2 (aK6<|bG7<|aK0 d8 hr ac rfl (aE (gE 1<|pv 1) aA))<|aX2 (c77 nN hr ac d97 rfl (aE (gE 1<|pv 1) aA))<|aX2 (aK6<|a16 2 cB3.nd rfl (Or.inl rfl) (aK0 a70 hr ac rfl (aE (gE 1<|pv 1) aA)) (hl:=il (n:=3) rfl ac))<|aX2 (cP7 (aW3 zX (dD bZ9 rfl Z.z9 c22 (aE (gE 2<|pv 2) aA)) (c70 rfl fF)<|bF5 _) (b11<|cP8 wX pW rfl lB rfl (aE pu_str aA) c19 rfl) c21)<|d32 (c77 rF hr ac d97 rfl (aE (gE 1<|pv 1)<|aE (gE 2<|pv 2) aA))<|qG (bY5 (pv 0) (gE 1<|pv 1) rfl)<|qG (bY5 (pv 0) (aL cC (bY (yF 1<|pv 1) rfl Z.z0) aF) rfl)<|a80<|bY5 (pv 0) (gE 2<|pv 2) rfl)
end
theorem lC {P:List Value->Prop}{n:Nat}(h: ∀a us,us.length=n->P (a::us)): ∀us:List Value,us.length=n+1->P us:=λus=>us.casesOn (λe=>nomatch e) λa us e=>h a us (Nat.succ.inj e)
theorem lN0 {P:List Value->Prop}(h:P []): ∀us:List Value,us.length=0->P us:=λus=>us.casesOn (λ_=>h) λ_ _ e=>nomatch e
local macro_rules| `(tactic| walk_at "b0")=> `(tactic| exact λ_ _ _ _ _ _=>lN0 rfl)
theorem lN1 {P:List Value->Prop}(h: ∀a0,P [a0]): ∀us:List Value,us.length=1->P us:=lC λa0=>lN0 (h a0)
local macro_rules| `(tactic| walk_at "b1")=> `(tactic| exact λ_ _ _ _ _ _=>lN1 λ_=>rfl)
theorem lN2 {P:List Value->Prop}(h: ∀a0 a1,P [a0,a1]): ∀us:List Value,us.length=2->P us:=lC λa0=>lC λa1=>lN0 (h a0 a1)
local macro_rules| `(tactic| walk_at "b2")=> `(tactic| exact λ_ _ _ _ _ _=>lN2 λ_ _=>rfl)
theorem lN3 {P:List Value->Prop}(h: ∀a0 a1 a2,P [a0,a1,a2]): ∀us:List Value,us.length=3->P us:=lC λa0=>lC λa1=>lC λa2=>lN0 (h a0 a1 a2)
local macro_rules| `(tactic| walk_at "b3")=> `(tactic| exact λ_ _ _ _ _ _=>lN3 λ_ _ _=>rfl)
local macro_rules| `(tactic| walk_at "n")=> `(tactic| (intro _ _ h;repeat (first| (obtain⟨e,_⟩:=h;subst e;rfl)|obtain⟨_,h⟩:=h)))
structure FD where
 oc:Value
 od:Option Addr
 kV:Value
 dc:Value
 pm:Value
 an:Option Addr
 cd:Value
 ct:Value
 sl:Array (Option Value)
abbrev gW (K:Frag)(x y:Str)(s:Stmt)(f:Addr):Prop:= ∃d:FD,nsIn K mainGlobals y=some (some<|.ref f)/\K.lookup f=some ⟨d.oc,d.od,.func<|fnOf x x (jS s) (dJ s) (aD s) .none d.kV d.dc d.pm d.an d.cd d.ct,d.sl⟩/\codeIn K d.cd x=true/\keepIn K (.ref f)=true
theorem fnAt {K:Frag}{x y:Str}{s:Stmt}{f:Addr}{oc:Value}{od:Option Addr}{kV dc pm:Value}{an:Option Addr}{cd ct:Value}{sl:Array (Option Value)}(a:nsIn K mainGlobals y=some (some<|.ref f))(b:K.lookup f=some ⟨oc,od,.func<|fnOf x x (jS s) (dJ s) (aD s) .none kV dc pm an cd ct,sl⟩)(c:codeIn K cd x=true)(k:keepIn K (.ref f)=true):gW K x y s f:=⟨⟨oc,od,kV,dc,pm,an,cd,ct,sl⟩,a,b,c,k⟩
theorem cW1 {K:Frag}{x y:Str}{s:Stmt}{f:Addr}(p:gW K x y s f): ∃fd,Fun K x x s f fd/\nsIn K mainGlobals y=some (some<|.ref f):=let ⟨_,a,b,c,k⟩:=p;⟨_,aZ1 b c k,a⟩
section
variable {P:Program}{w:World}{K:Frag}{mg:Str->Option Value}{base h:Heap}(X:K.In h)(G:h.Ns mainGlobals mg){x y:Str}{st:Stmt}{f:Addr}{N ps:List Str}{k:Nat}(p:gW K x y st f)(b: ∀(kV doc pm:Value) (an:Option Addr) (cdv ct:Value) (us:List Value),us.length=ps.length->bindArgs (fnOf x x (jS st) (dJ st) (aD st) .none kV doc pm an cdv ct) ⟨us,[]⟩=pure (ps.zip us))(S:aZ N ps (aD st))
include X G p b S
theorem fn_b {φ:Φ}(len: ∀ds Q,φ ds Q->ds.length=ps.length){t:US}(der: ∀(cdv:Value) (A:Around) (outer:List Env) (s:Shared) (H:Hp) (E:XK),gM k (A.deeper<|envOfC x (aD st) s.heap.objs.size f cdv)->qW (qV CX0 P w K mg base N x (aD st) f cdv A outer s H E).nox (dJ st) t)(rd: ∀ds Q,φ ds Q->t {nx:=λ_=>Q (.pu .non),rt:=Q} (init N ds)):Fn P w K mg base y ps (k+1) φ:=
 let ⟨_,U,m⟩:=cW1 p
 Fn.mkA U (eS X G m) (U.binds b) S len der rd
theorem fnX_b {φ:ΦX}(q:x=y)(len: ∀ds Q Ex,φ ds Q Ex->ds.length=ps.length){t:USX}(der: ∀(cdv:Value) (A:Around) (outer:List Env) (s:Shared) (H:Hp) (E:XK),gM k (A.deeper<|envOfC x (aD st) s.heap.objs.size f cdv)->zZ (qV (CXr P w base) P w K mg base N x (aD st) f cdv A outer s H E) E (dJ st) t)(rd: ∀ds Q Ex,φ ds Q Ex->t Ex {nx:=λ_=>Q (.pu .non),rt:=Q} (init N ds)):FnX P w K mg base y ps (k+1) φ:=
 let ⟨_,U,m⟩:=cW1 p
 q▸FnX.mk' U (eS X G<|q▸m) (U.binds b) S len der rd
end
theorem all_mk {l:PySem.W.OpenLaw}{w:World}{K:Frag}{h:Heap}{mg:Str->Option Value}{fa f1 f2 f3 f4 f5 f6 f7 f8 f9 f10 f11 f12 f13 f14 f15 f16 f17 f18 f19 f20 f21 f22 f23 f24 f25 f26 f27 f28 f29 f30 f31 f32 f33 f34 f35 f36 f37 f38 f39 f40 f41 f42 f43 f44 f45 f46 f47 hG jD aO1 eZ gO pV hV pX j7:Addr}(X:K.In h)(G:h.Ns mainGlobals mg)(hfa:mg "law"=some (.ref fa))
  {bA4 bA5 bX1 bX2 d78 d79 aV8:Option Addr} {bA6 bX3 d80 aV9:Array (Option Value)} {bA7 bA8 bA9 aB7 bB0 bX4 bX5 bX6 aU0 bX7 d81 d82 d83 cB6 d84 d85:Value} {sC zU b73:ClassData} {pR nM:Tok} {aR9:Array Value} {n_SMALL_PRIMES:Nat}
  (P1:gW K "cut" "cut" bL0 f1)
  (P2:gW K "padded" "padded" aH7 f2)
  (P3:gW K "poly_parted" "poly_parted" rE f3)
  (P4:gW K "poly_at" "poly_at" a54 f4)
  (P5:gW K "mod_poly" "mod_poly" rX f5)
  (P6:gW K "mod_parted" "mod_parted" tZ f6)
  (P7:gW K "scaled" "scaled" zB f7)
  (P8:gW K "inverse_of" "inverse_of" u4 f8)
  (P9:gW K "root" "root" b54 f9)
  (P10:gW K "small_primes" "small_primes" pP f10)
  (P11:gW K "split_by" "split_by" zC f11)
  (P12:gW K "lines_out" "lines_out" vM f12)
  (P13:gW K "rootless_parts" "rootless_parts" jV f13)
  (P14:gW K "two_by_two" "two_by_two_split" kY f14)
  (P15:gW K "papers" "papers" aH9 f15)
  (P16:gW K "papers_of" "papers_of" qB f16)
  (P17:gW K "parts_at" "parts_at" rY f17)
  (P18:gW K "outside_of" "outside_of" o8 f18)
  (P19:gW K "is_ring_poly" "is_ring_poly" lJ f19)
  (P20:gW K "need_ring_poly" "need_ring_poly" nJ f20)
  (P21:gW K "apart" "apart" aR0 f21)
  (P22:gW K "dividers" "dividers" zE f22)
  (P23:gW K "line_and_rest" "line_and_rest" o9 f23)
  (P24:gW K "two_by_two" "two_by_two_apart" kZ f24)
  (P25:gW K "two_with" "two_with" zF f25)
  (P26:gW K "det" "det" aY4 f26)
  (P27:gW K "without" "without" uY f27)
  (P28:gW K "measure" "measure" uZ f28)
  (P29:gW K "root_sums" "root_sums" qC f29)
  (P30:gW K "need_together" "need_together" iP f30)
  (P31:gW K "need_whole" "need_whole" j5 f31)
  (P32:gW K "_law_cell" "_law_cell" c40 f32)
  (P33:gW K "_law_mixed" "_law_mixed" bL1 f33)
  (P34:gW K "_law_draws" "_law_draws" bL2 f34)
  (P35:gW K "_law_shifted" "_law_shifted" aR1 f35)
  (P36:gW K "_law_poly" "_law_poly" bL3 f36)
  (P37:gW K "_law_known_ring" "_law_known_ring" zG f37)
  (P38:gW K "_law_ring" "_law_ring" c42 f38)
  (P39:gW K "_law_value" "_law_value" bL4 f39)
  (P40:gW K "_law_whole" "_law_whole" bL5 f40)
  (P41:gW K "_law_row" "_law_row" cB0 f41)
  (P42:gW K "_law_times_out" "_law_times_out" a62 f42)
  (P43:gW K "_law_squared" "_law_squared" a89 f43)
  (P44:gW K "_law_left" "_law_left" c43 f44)
  (P45:gW K "_law_part" "_law_part" aR3 f45)
  (P46:gW K "_law_paper" "_law_paper" a90 f46)
  (P47:gW K "law" "law" aB5 f47)
  (iQ:nsIn K mainGlobals "FallsApart"=some (some<|.ref eZ))
  (l8:nsIn K mainGlobals "NotWhole"=some (some<|.ref gO))
  (lB:nsIn K mainGlobals "TooGreat"=some (some<|.ref pV))
  (l9:nsIn K mainGlobals "RingError"=some (some<|.ref hV))
  (b74:nsIn K mainGlobals "Ring"=some (some<|.ref pX))
  (aB8:findIn K (.ref eZ) "__init__"=some (some<|.ref hG))
  (aU1:findIn K (.ref gO) "__init__"=some (some<|.ref jD))
  (bM5:findIn K (.ref pX) "__init__"=some (some<|.ref aO1))
  (zV:K.lookup hG=some ⟨.type "function",bA4,.func<|fnOf "__init__" "FallsApart.__init__" (jS oB) (dJ oB) (aD oB) .none bA7 bA8 bA9 bA5 aB7 bB0,bA6⟩)
  (aI9:K.lookup jD=some ⟨.type "function",bX1,.func<|fnOf "__init__" "NotWhole.__init__" (jS uB) (dJ uB) (aD uB) .none bX4 bX5 bX6 bX2 aU0 bX7,bX3⟩)
  (c52:K.lookup aO1=some ⟨d85,d78,.func<|fnOf "__init__" "Ring.__init__" (jS a64) (dJ a64) (aD a64) .none d81 d82 d83 d79 cB6 d84,d80⟩)
  (vW:codeIn K aB7 "FallsApart.__init__"=true)
  (vX:keepIn K (.ref hG)=true)
  (a71:codeIn K aU0 "NotWhole.__init__"=true)
  (a72:keepIn K (.ref jD)=true)
  (bM6:codeIn K cB6 "Ring.__init__"=true)
  (bM7:keepIn K (.ref aO1)=true)
  (lM:aA7 K eZ hG [.type "ValueError",.type "Exception",.type "BaseException",.type "object"] "ValueError.__new__"=true)
  (pT:aA7 K gO jD [.type "ValueError",.type "Exception",.type "BaseException",.type "object"] "ValueError.__new__"=true)
  (pW:excIn K pV [.type "ValueError",.type "Exception",.type "BaseException",.type "object"] "ValueError.__new__"=true)
  (qT:excIn K hV [.type "ValueError",.type "Exception",.type "BaseException",.type "object"] "ValueError.__new__"=true)
  (qE:clsIn K eZ=some sC)
  (v5:clsIn K gO=some zU)
  (a73:clsIn K pV=some b73)
  (j8:(sC).mro.contains (.ref hV)=true)
  (kC:(b73).mro.contains (.ref hV)=true)
  (kD:(zU).mro.contains (.ref hV)=true)
  (vY:tP (sC).mro=true)
  (vZ:(sC).hasDict=true)
  (w6:findIn K (.ref eZ) "__setattr__"=some (some<|.builtin "object.__setattr__"))
  (w8:findIn K (.ref eZ) "left"=some none)
  (wA:findIn K (.ref eZ) "right"=some none)
  (a74:tP (zU).mro=true)
  (a75:(zU).hasDict=true)
  (a76:findIn K (.ref gO) "__setattr__"=some (some<|.builtin "object.__setattr__"))
  (a77:findIn K (.ref gO) "prime"=some none)
  (a78:findIn K (.ref gO) "number"=some none)
  (mk_Ring:makesIn K pX=true)
  (fn_Ring:PySem.W.isFn K (.ref aO1)=true)
  (kc_Ring:keepIn K (.ref pX)=true)
  (pg_Ring:plainGet K pX Str.empty=true)
  (bM8:hasDictIn K pX=true)
  (po_Ring:plainOver K pX=true)
  (bM9:findIn K (.ref pX) "__setattr__"=some (some<|.builtin "object.__setattr__"))
  (bN0:findIn K (.ref pX) "poly"=some none)
  (aS0:findIn K (.ref pX) "degree"=some none)
  (aJ0:findIn K (.ref pX) "measure"=some none)
  (cW2:nsIn K mainGlobals "len"=some none)
  (cW3:nsIn K mainGlobals "max"=some none)
  (c53:nsIn K mainGlobals "list"=some none)
  (aJ1:nsIn K mainGlobals "reversed"=some none)
  (bN1:nsIn K mainGlobals "range"=some none)
  (a79:nsIn K mainGlobals "enumerate"=some none)
  (bN2:nsIn K mainGlobals "tuple"=some none)
  (b75:nsIn K mainGlobals "sorted"=some none)
  (cW4:nsIn K mainGlobals "all"=some none)
  (cW5:nsIn K mainGlobals "abs"=some none)
  (cW6:nsIn K mainGlobals "sum"=some none)
  (cW7:nsIn K mainGlobals "min"=some none)
  (zW:nsIn K mainGlobals "isinstance"=some none)
  (cW8:nsIn K mainGlobals "int"=some none)
  (c54:nsIn K mainGlobals "bool"=some none)
  (cW9:nsIn K mainGlobals "any"=some none)
  (cX0:nsIn K mainGlobals "zip"=some none)
  (gB:nsIn K mainGlobals "GREATEST_PLACE"=some (some<|.int 499 pR))
  (fF:nsIn K mainGlobals "GREATEST_MEASURE"=some (some<|.int 39999 nM))
  (iF:nsIn K mainGlobals "SMALL_PRIMES"=some (some<|.ref j7))
  (rG:K.lookup j7=some ⟨.type "tuple",aV8,.seq aR9 n_SMALL_PRIMES,aV9⟩)
  (rH:aR9.size<=sizeLine)
  (rJ:Vals (T_SMALL_PRIMES.map V.int) aR9.toList) :
  ∃fd:FuncData,(∀(s:Shared) (v:Value),BindsTo s fd ⟨[v],[]⟩ [("_law_script",v)])/\ ∀base:Heap,K.In base->base.Ns mainGlobals mg->qU l.prog w K mg base CX0 13 fa fd ["_law_script"] (spZ K):=by
 have h26:=P26.choose_spec;have h47:=P47.choose_spec;have e:=hfa.symm.trans (eS X G h47.1);cases e;have Z:Zs mg:=⟨dS X G cW2,dS X G cW3,dS X G c53,dS X G aJ1,dS X G bN1,dS X G a79,dS X G bN2,dS X G b75,dS X G cW4,dS X G cW5,dS X G cW6,dS X G cW7,dS X G zW,dS X G cW8,dS X G c54,dS X G cW9,dS X G cX0⟩;have gB:=eS X G gB;have fF:=eS X G fF;have iF:=eS X G iF
 have uE:KT K j7 (T_SMALL_PRIMES.map V.int):=kt_of rG rH rJ;have iQ:=eS X G iQ;have l8:=eS X G l8;have lB:=eS X G lB;have l9:=eS X G l9;have b74:=eS X G b74;have zR:bQ5 K eZ hG _ "left" "right":=c79 (st:=oB) (x0:="self") (x1:="left") (x2:="right") zV vW vX rfl b94 rfl rfl rfl ac ac ac (λ_ _ _ _ _ _=>lN3 λ_ _ _=>rfl) qE vY vZ w6 w8 wA
 have aI5:bQ5 K gO jD _ "prime" "number":=c79 (st:=uB) (x0:="self") (x1:="prime") (x2:="number") aI9 a71 a72 rfl bW0 rfl rfl rfl ac ac ac (λ_ _ _ _ _ _=>lN3 λ_ _ _=>rfl) v5 a74 a75 a76 a77 a78
 have pU: ∀n∈(["FallsApart","TooGreat","NotWhole"]:List Str),∀C,mg n=some (.ref C)->aP0 K hV C [.type "ValueError",.type "Exception",.type "BaseException",.type "object"] "ValueError.__new__":=by
  intro n hn C hm;simp only[aS,eO,eT]at hn;rcases hn with rfl|rfl|rfl
  ·(have e:=hm.symm.trans iQ;cases e;exact aP1 (.inr ⟨_,lM⟩) qE j8)
  ·(have e:=hm.symm.trans lB;cases e;exact aP1 (.inl pW) a73 kC)
  ·(have e:=hm.symm.trans l8;cases e;exact aP1 (.inr ⟨_,pT⟩) v5 kD)
 have U26:=aZ1 (st:=aY4) h26.2.1 h26.2.2.1 h26.2.2.2;have U47:=aZ1 (st:=aB5) h47.2.1 h47.2.2.1 h47.2.2.2;have UR:=aZ1 (st:=a64) c52 bM6 bM7;refine⟨fnOf "law" "law" (jS aB5) (dJ aB5) (aD aB5) .none P47.choose.kV P47.choose.dc P47.choose.pm P47.choose.an P47.choose.cd P47.choose.ct,λs v=> .of_eq rfl,λbase _ _=> ?_⟩
 have mB:= @fn_b l.prog w K mg base h X G;have mX:= @fnX_b l.prog w K mg base h X G;have zM:=mB P1 (by walk_at "b1") b60 ag (λ_ _ _ _ _ _ hr=>cG5 Z hr) cR0
 have aI6:=mB P2 ah bV7 ag (λ_ _ _ _ _ _ hr=>bM0 Z hr) bS6
 have cH:=mB P3 ah eE ag (λ_ _ _ _ _ _ hr=>aN8 Z zM hr) aP5
 have nP:=mB P4 ah rZ ag (λ_ _ _ _ _ _ hr=>b99 Z hr) bI7
 have fL:=mB P5 ah b92 ag (λ_ _ _ _ _ _ hr=>b66 Z zM hr) b85
 have uD:=mB P8 ah mM ag (λ_ _ _ _ _ _ hr=>aR5 Z hr) aU7
 have zN:=mB P7 (by walk_at "b3") bV8 ag (λ_ _ _ _ _ _ hr=>bM1 Z fL hr) bR7
 have uF:=mB P6 (by walk_at "b3") jX ag (λ_ _ _ _ _ _ hr=>aR4 Z fL uD cH zN hr) aU8
 have b72:=mB P9 (by walk_at "b1") wS ag (λ_ _ _ _ _ _ hr=>c47 Z hr) cF5
 have hZ:=mB P10 (by walk_at "b0") aN2 ag (λ_ _ _ _ _ _ hr=>aI3 Z iF uE hr) aL2
 have vU:=mB P12 ah iE ag (λ_ _ _ _ _ _ hr=>aV5 Z nP uF hr) b32
 have l6:=mB P14 ah eV ag (λ_ _ _ _ _ _ hr=>zK Z hr) a11
 have nL:=mB P13 ah rQ ag (λ_ _ _ _ _ _ hr=>a66 Z l6 hr) a98
 have zP:=mB P11 ah vP ag (λ_ _ _ _ _ _ hr=>b67 Z hZ vU fL nL hr) b86
 have zO:=mB P17 ah b93 ag (λ_ _ _ _ _ _ hr=>b68 Z zP cH hr) b87
 have k7:=mB P16 ah b61 ag (λ_ _ _ _ _ _ hr=>aV6 Z hZ zO hr) b34
 have aI8:=mB P15 (by walk_at "b1") bV9 ag (λ_ _ _ _ _ _ hr=>bM2 Z k7 hr) bU8
 have uG:=mB P18 ah iH ag (λ_ _ _ _ _ _ hr=>aR6 Z cH hr) aV0
 have pS:=mB P19 (by walk_at "b1") aN3 ag (λ_ _ _ _ _ _ hr=>aI4 Z gB hr) aL7
 have d8:=mB P20 (by walk_at "b1") aA1 ag (λ_ _ _ _ _ _ hr=>a67 Z pS hr) a99
 have lL:=mB P22 (by walk_at "b1") vQ ag (λ_ _ _ _ _ _ hr=>b69 Z hr) b89
 have oC:=mB P23 (by walk_at "b1") nK ag (λ_ _ _ _ _ _ hr=>aA3 Z lL nP cH hr) aH0
 have zQ:=mB P25 ah vR ag (λ_ _ _ _ _ _ hr=>b70 Z b72 hr) b90
 have l7:=mB P24 (by walk_at "b1") fQ ag (λ_ _ _ _ _ _ hr=>zL Z lL zQ hr) a10
 have aR7:=mB P21 (by walk_at "b1") aI0 ag (λ_ _ _ _ _ _ hr=>bW7 Z d8 oC l7 hr) c30
 have nQ:=mB P27 ah bL6 ag (λ_ _ _ _ _ _ hr=>bA0 Z hr) bI3
 have cH2:Fn l.prog w K mg base "det" j4 1 (gG 0):=Fn.void U26 (eS X G h26.1) (U26.binds (ps:=j4)<|by walk_at "b1") c25
 have cH3:Fn l.prog w K mg base "det" j4 2 (gG 1):=Fn.mk' U26 (eS X G h26.1) (U26.binds (ps:=j4)<|by walk_at "b1") oA (a87 _) (λcdv A outer s H E hr=>a93 Z ac cH2 nQ hr) (aL0 0 ac)
 have cH4:Fn l.prog w K mg base "det" j4 3 (gG 2):=Fn.mk' U26 (eS X G h26.1) (U26.binds (ps:=j4)<|by walk_at "b1") oA (a87 _) (λcdv A outer s H E hr=>a93 Z ac cH3 nQ hr) (aL0 1 ac)
 have cH5:Fn l.prog w K mg base "det" j4 4 (gG 3):=Fn.mk' U26 (eS X G h26.1) (U26.binds (ps:=j4)<|by walk_at "b1") oA (a87 _) (λcdv A outer s H E hr=>a93 Z ac cH4 nQ hr) (aL0 2 ac)
 have cH6:Fn l.prog w K mg base "det" j4 5 (gG 4):=Fn.mk' U26 (eS X G h26.1) (U26.binds (ps:=j4)<|by walk_at "b1") oA (a87 _) (λcdv A outer s H E hr=>a93 Z ac cH5 nQ hr) (aL0 3 ac)
 have aO0:=cH6;have vV:=mB P29 ah j6 ag (λ_ _ _ _ _ _ hr=>aV7 Z hr) b21
 have a70:=mB P28 (by walk_at "b1") zH ag (λ_ _ _ _ _ _ hr=>bA1 Z d8 vV aO0 hr) bJ1
 have nN:=mX P30 (by walk_at "b1") uA rfl a47 (λ_ _ _ _ _ _ hr=>a68 Z iQ lM zR aR7 hr) aA0
 have rF:=mX P31 ah mO rfl aL8 (λ_ _ _ _ _ _ hr=>aN9 Z l8 pT aI5 uG k7 aI6 hr) aQ3
 have aI7:=mB P32 ah d71 ag (λ_ _ _ _ _ _ hr=>cV6 Z hr) d33
 have a94:=mB P33 (by walk_at "b3") b62 ag (λ_ _ _ _ _ _ hr=>cG6 Z hr) cQ3
 have qD:=mB P34 (by walk_at "b3") wT ag (λ_ _ _ _ _ _ hr=>cG7 Z a94 hr) cQ4
 have a95:=mB P35 ah zI ag (λ_ _ _ _ _ _ hr=>bW8 Z hr) c32
 have c48:=mB P36 ah a91 ag (λ_ _ _ _ _ _ hr=>cV7 Z qD a95 hr) d55
 have zT:=mB P37 (by walk_at "b1") vS ag (λ_ _ _ _ _ _ hr=>b71 Z a94 hr) b91
 have okR:OkC K pX ["poly","degree","measure"]:=⟨⟨pg_Ring,bM8,po_Ring,bM9⟩,λf hf=>by
  simp only[aS,eO,eT]at hf;rcases hf with rfl|rfl|rfl
  ·exact bN0
  ·exact aS0
  ·exact aJ0⟩
 have fR:=cQ2 UR cB3 okR ac ac ac cF7 ac (λcdv A outer s H E hr=>cH1 Z fF lB pW d8 a70 nN rF hr) cS5
 have bR:=UR.binds (ps:=["self","poly"]) λ_ _ _ _ _ _ us hl=>match us,hl with| [_,_],_=>rfl
 have zS:MkX l.prog w K mg base "Ring" 10 ["poly","degree","measure"] mI:=⟨pX,aO1,_,["self","poly"],Mk.mk mk_Ring bM5 fn_Ring kc_Ring,okR,fR,bR,b74⟩;have c51:=mB P38 (by walk_at "b3") a92 ag (λ_ _ _ _ _ _ hr=>cV8 Z l9 qT pU zS c48 aI7 zT hr) d53
 have bM3:=mB P39 ah aN4 ag (λ_ _ _ _ _ _ hr=>cG8 Z hr) cT9
 have sB:=mB P40 (by walk_at "b1") cV2 ag (λ_ _ _ _ _ _ hr=>cG9 Z hr) cQ7
 have cB5:=mB P41 ah sc_row ag (λ_ _ _ _ _ _ hr=>d76 Z sB hr) rd_row
 have a69:=mB P42 ah sA ag (λ_ _ _ _ _ _ hr=>bA2 Z hr) bK2
 have aR8:=mB P43 (by walk_at "b1") aI1 ag (λ_ _ _ _ _ _ hr=>bW9 Z hr) c37
 have c49:=mB P44 ah zJ ag (λ_ _ _ _ _ _ hr=>cV9 Z hr) d61
 have c50:=mB P45 (by walk_at "b3") aN5 ag (λ_ _ _ _ _ _ hr=>cW0 Z cB5 sB bM3 c49 hr) d63
 have bM4:=mB P46 (by walk_at "b3") wU ag (λ_ _ _ _ _ _ hr=>cH0 Z sB c50 a69 hr) cU4
 exact cO4 U47 a63 (λcdv A outer s H E hr=>⟨bK9,d77 Z zS qD aI7 c51 aR8 aI8 bM4 hr,rd_law⟩)
end M
open PySem PySem.W PyProof.Rows
local macro_rules| `(tactic| walk_at "f")=> `(tactic| (refine' M.fnAt ?x1 ?x2 ?x3 ?x4;(case x1=>k_is);(case x2=>k_is);(case x3=>k_is);(case x4=>k_is)))
namespace PySem.W.Fast
def tw3172444271578857681:=()
def tw3714978664652650485:=()
def tw304836558706591277:=()
def tw2479619340424628626:=()
def tw16732597886221832028:=()
def tw4519196168710881296:=()
def tw6985029426169540638:=()
def tw7462550893689142534:=()
def tw14136844363462925082:=()
def tw5392680116995170872:=()
def tw16050434536472330554:=()
def tw6818649605834334571:=()
def tw1913072979592043054:=()
def tw15443588688923853455:=()
def tw15723626670707468687:=()
def tw5170321969164481617:=()
def tw2970937061880347809:=()
def tw6008119821438000463:=()
def tw4769167975342687017:=()
def tw4077594791257258342:=()
def tw8145066605449343021:=()
def tw15893163069989773125:=()
def tw3304825731323398391:=()
def tw8626625747009239776:=()
def tw7526901096728382900:=()
def tw14101180105049683105:=()
def tw3564440938264630419:=()
def tw12012039120776023422:=()
def tw13287465726807172945:=()
def tw18138546019959548341:=()
def tw13830876787962433376:=()
def tw4042732991993248349:=()
def tw9172079633989829419:=()
def tw6370271196675437628:=()
def tw4261755824112216449:=()
def tw9868836740675093231:=()
def tw16809558828511116816:=()
def tw11011890045366059696:=()
def tw11690605267595573114:=()
def tw7799282778577988944:=()
def tw10681823940170307695:=()
def tw10201100341196037160:=()
def tw8662384717672346608:=()
def tw2714332428940753261:=()
def tw16706776679327798967:=()
def tw263782853072672344:=()
def tw7801742859197915416:=()
def tw8583688136616546210:=()
def tw5056918959741511474:=()
def tw6176779683505140852:=()
def tw16897208202370934374:=()
def tw17721254051250347955:=()
def tw15111249291940543465:=()
def tw8935615228290623209:=()
def tw7216459665826679178:=()
def tw12111232977310639617:=()
def tw9914361252395502003:=()
def tw5207939268400694887:=()
def tw15999280289123606946:=()
def tw7606889888373281818:=()
def tw3072156423423471799:=()
def tw17589164153779328116:=()
def tw15688356568229828336:=()
def tw18344470418988649374:=()
def tw17099556141985706682:=()
def tw13373226138948067617:=()
def tw7826129260714187639:=()
def tw18313834005204857666:=()
def tw15838808727131277466:=()
def tw10516010682793698535:=()
def tw10992077815659197131:=()
def tw16406268184401817763:=()
def tw9578286273885628642:=()
def tw2605559563341044047:=()
def tw13893807285262298643:=()
def tw3439927301234652463:=()
def tw12085973378434740852:=()
def tw1513770211662960608:=()
def tw9870146552789727584:=()
def tw2259342126442897378:=()
def tw17481881029860476778:=()
def tw13578169555469393433:=()
def tw3637352668899920505:=()
def tw12071980857075357522:=()
def tw16689719566604400749:=()
def tw1350767528420389515:=()
def tw7754378831847058114:=()
def tw5244597937591841942:=()
def tw8446207921600931067:=()
def tw14149319576291881889:=()
def tw12275936128176404:=()
def tw8702123462749754378:=()
def tw10964525938922233829:=()
def tw13127237489214269796:=()
def tw1892060975036866821:=()
def tw1716190662460897865:=()
def tw14612806327018737107:=()
def tw4318196721083598776:=()
def tw12060059614132394541:=()
def tw8380393179493496230:=()
def tw9708307186199991858:=()
def tw14259743842084046709:=()
def tw4571039813404303347:=()
def tw1202903844749265917:=()
def tw11579509498571057906:=()
def tw14494091029433365132:=()
def tw12504755876674575132:=()
def tw6931135072850264414:=()
def tw458822429020171404:=()
def tw18267678579562087872:=()
def tw13690031197520267524:=()
def tw4940151244537224374:=()
def tw1002326952230445289:=()
def tw12293033487161576829:=()
def tw8195939574468185519:=()
def tw6034859430946387454:=()
def tw7536717155057692718:=()
def tw9859759748371391230:=()
def tw16987539001468150880:=()
def tw2775140685135252736:=()
def tw2186688828135984280:=()
def tw4601572196157889555:=()
def tw8050227874630578392:=()
def tw17720949165898535980:=()
def tw2776909452966792814:=()
def tw14518970862974466132:=()
def tw498532613032645317:=()
def tw17109037044447571037:=()
def tw14062292004946181955:=()
def tw424316453378719595:=()
def tw3748408074848580099:=()
def tw9804307966090194752:=()
def tw6210984548056011343:=()
def tw5196653052351869942:=()
def tw10062682485760619309:=()
def tw11678519808994494033:=()
def tw12353346233987806669:=()
def tw2146092542547001319:=()
def tw2454577029453781170:=()
def tw7466438559997568240:=()
def tw5107284500973718001:=()
def tw4838449493987449798:=()
def tw3549485970878895578:=()
end PySem.W.Fast
set_option maxRecDepth 100000 in
set_option maxHeartbeats 0 in
theorem PySem.Challenge.cw_ringhouse_k18_papers_holds : PySem.Challenge.rw_ringhouse_k18_papers.Holds := by
 w_on;o_law;k_head;(case hw=>w_witness2)
 k_fill
 refine M.walkZ (l:=PySem.Challenge.rw_ringhouse_k18_papers) (k:=13) (x:="_law_script") rfl rfl ⟨rfl,ac,ac⟩ (λw h Y=>PySem.W.kIn_of Y) ?F
 case F=>
  intro w mg fa h KX G hmg
  refine' M.all_mk KX G hmg ?P1 ?P2 ?P3 ?P4 ?P5 ?P6 ?P7 ?P8 ?P9 ?P10 ?P11 ?P12 ?P13 ?P14 ?P15 ?P16 ?P17 ?P18 ?P19 ?P20 ?P21 ?P22 ?P23 ?P24 ?P25 ?P26 ?P27 ?P28 ?P29 ?P30 ?P31 ?P32 ?P33 ?P34 ?P35 ?P36 ?P37 ?P38 ?P39 ?P40 ?P41 ?P42 ?P43 ?P44 ?P45 ?P46 ?P47 ?iQ ?l8 ?lB ?l9 ?b74 ?aB8 ?aU1 ?bM5 ?zV ?aI9 ?c52 ?vW ?vX ?a71 ?a72 ?bM6 ?bM7 ?lM ?pT ?pW ?qT ?qE ?v5 ?a73 ?j8 ?kC ?kD ?vY ?vZ ?w6 ?w8 ?wA ?a74 ?a75 ?a76 ?a77 ?a78 ?mk_Ring ?fn_Ring ?kc_Ring ?pg_Ring ?bM8 ?po_Ring ?bM9 ?bN0 ?aS0 ?aJ0 ?cW2 ?cW3 ?c53 ?aJ1 ?bN1 ?a79 ?bN2 ?b75 ?cW4 ?cW5 ?cW6 ?cW7 ?zW ?cW8 ?c54 ?cW9 ?cX0 ?gB ?fF ?iF ?rG ?rH ?rJ
  (case P1|P2|P3|P4|P5|P6|P7|P8|P9|P10|P11|P12|P13|P14|P15|P16|P17|P18|P19|P20|P21|P22|P23|P24|P25|P26|P27|P28|P29|P30|P31|P32|P33|P34|P35|P36|P37|P38|P39|P40|P41|P42|P43|P44|P45|P46|P47=>walk_at "f");(case iQ|l8|lB|l9|b74|aB8|aU1|bM5|zV|aI9|c52|vW|vX|a71|a72|bM6|bM7|qE|v5|a73|w6|w8|wA|a76|a77|a78|mk_Ring|fn_Ring|kc_Ring|pg_Ring|bM8|po_Ring|bM9|bN0|aS0|aJ0|cW2|cW3|c53|aJ1|bN1|a79|bN2|b75|cW4|cW5|cW6|cW7|zW|cW8|c54|cW9|cX0|gB|fF|iF|rG=>k_is);(case lM|pT=>first|kernel_rfl|rfl);(case pW|qT=>k_exc);(case j8|kC|kD|vY|vZ|a74|a75=>first|kernel_rfl|rfl|decide);(case rH=>first|decide| (trace_state;decide +kernel));(case rJ=>first| (show L2.Vals (List.map _ _) (List.toList _);simp only[M.T_SMALL_PRIMES,List.map];repeat (first|exact .nil|refine .cons (.int _ _) ?_))| (repeat constructor)|trace_state)
