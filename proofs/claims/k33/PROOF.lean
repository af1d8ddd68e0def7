import PyProof.Rows.All
import Wide.All
import OpenK.AllK
import Wide.FinOn
import Lean
import PyProof.EqAt
import PyProof.EqKinds
import PyProof.TupleCall
import PySem.Challenge.RW_ringhouse_k33_products_known
set_option Elab.async false
set_option linter.all false
open PySem.W (instObj methodObj Frag lookIn InstAt plainGet hasDictIn findIn plainOver takerIn makesIn emptyDict keepIn fnOf codeIn excIn clsIn nsIn)
open List (replicate length all_cons any_cons foldl forIn_nil map_drop Nodup)
open Nat (le_of_eq add_comm one_mul)
open Int (le_total)
open PySem.Heap (SameBut ExtBut FlyingW HeldW MadeExcOf)
open Option (getD_none bind_some)
open Array (toList)
set_option maxRecDepth 100000
set_option compiler.extract_closed false
set_option bootstrap.genMatcherCode false
local macro_rules | `(tactic| walk_at "z") => `(tactic| first|exact .inl rfl|exact .inr rfl|assumption)
def aa{p:Prop}(h:p:=by omega):p:=h
def ac{p:Prop}(h:p:=by decide):p:=h
def ad{p:Prop}(h:p:=by lia):p:=h
def ae{p:Prop}(h:p:=by simp):p:=h
def af{p:Prop}(h:p:=by decide +kernel):p:=h
def am{p:Prop}(h:p:=by rfl):p:=h
local macro_rules|`(↥$t)=>`(autoParam $t am._auto_1)|`(⇑$t)=>`(autoParam $t ac._auto_1)
def ag{p:Prop}(h:p:=by walk_at "n"):p:=h
def ai{p:Prop}(h:p:=by walk_at "b2"):p:=h
def aB:= @PySem.wpAny_bind
def a9:= @if_neg
def aQ:= @List.getD_eq_getElem?_getD
def aA:= @if_pos
def aV:= @List.getElem?_eq_getElem
def aG:= @Nat.le_refl
def aW:= @PySem.Heap.get?_push_of_some
def aO:= @List.length_map
def aL:= @PySem.wpAny_pure
def aM:= @Nat.le_trans
def bG:= @Nat.lt_of_lt_of_le
def aY:= @PySem.Heap.lt_size
def bJ:= @Bool.false_ne_true
def bI:= @List.size_toArray
def b6:= @Int.mul_zero
def bE:= @List.mem_cons
def bS:= @List.getElem?_map
def bX:= @PySem.Heap.get?_push_size
def bY:= @List.length_append
def bZ:= @Int.emod_lt_of_pos
def dM:= @List.mem_append_right
def bL:= @Nat.ne_of_lt
def bF:= @PySem.wpAny_mono
def cN:= @Nat.add_sub_cancel
def dS:= @List.mem_cons_of_mem
def cA:= @Int.emod_nonneg
def cB:= @List.range_succ
def cO:= @Nat.zero_lt_succ
def cJ:= @List.map_append
def cX:= @List.lookup_cons
def cP:= @List.mem_append
def bW:= @Int.zero_add
def fW:= @List.getElem?_eq_none
def eH:= @Int.toNat_natCast
def dU:= @Bool.and_eq_true
def eW:= @PySem.W.mg_none_of
def iF:= @List.getElem?_append_left
def cQ:= @Nat.lt_irrefl
def cR:= @List.map_cons
def eI:= @List.all_eq_true
def eJ:= @List.getElem_mem
def eX:= @Int.emod_eq_of_lt
def dN:= @List.mem_range
def jC:= @List.getElem?_append_right
def fL:= @List.length_cons
def eY:= @List.not_mem_nil
def dW:= @Int.natAbs_mul
def kA:= @PyProof.Rows.callWith_type1
def cK:= @Nat.zero_le
def eZ:= @List.length_set
def cY:= @Int.zero_mul
def cZ:= @Int.pow_zero
def dX:= @Int.zero_emod
def l7:= @Int.mul_le_mul_of_nonneg_left
def iG:= @Int.emod_add_mul_ediv
def kB:= @Classical.byContradiction
def gJ:= @decide_eq_true_eq
def dE:= @PySem.wpAny_field
def dY:= @Int.add_zero
def dZ:= @Int.mul_comm
def fA:= @PySem.W.mg_of
def l8:= @List.getElem?_eq_some_iff
def iH:= @List.mem_singleton
def gK:= @decide_eq_false
def gL:= @Option.some.inj
def fB:= @List.mem_map
def cS:= @And.right
def lB:= @PySem.wpAny_callSpecial?_slot
def lD:= @Int.emod_eq_zero_of_dvd
def jD:= @List.mem_cons_self
def kC:= @List.filterMap_cons
def kD:= @List.replicate_succ
def kE:= @List.map_congr_left
def jE:= @PySem.wpAny_newObj_type
def gM:= @Int.mul_assoc
def gN:= @Int.dvd_trans
def cT:= @congrArg
def i4:= @Nat.mul_le_mul
def iI:= @PySem.PassesOwn.never
def nV:= @Int.dvd_mul_of_dvd_left
def lF:= @PySem.Heap.get?_none_of_le
def jF:= @PySem.wpAny_call_entry
def lH:= @Nat.pow_le_pow_right
def gO:= @Int.mul_emod
def fX:= @Int.mul_one
def iJ:= @decide_eq_true
def kF:= @PySem.wpAny_loadPart'
def qK:= @Int.natAbs_ediv_le_natAbs
def cU:= @if_true
def iK:= @PySem.wpAny_holding
def jG:= @PySem.Heap.size_push
def nW:= @List.forall_mem_cons
def lJ:= @Nat.lt_succ_of_lt
def kG:= @List.append_nil
def kH:= @Nat.not_lt_zero
def i5:= @Nat.pow_add
def iL:= @Int.add_emod
def gP:= @beq_iff_eq
def jH:= @Int.emod_emod
def zK:= @PySem.F.slot_tuple_iterator_next
def fE:= @or_false
def lK:= @List.ext_getElem
def qL:= @PySem.Heap.get?_update_self
def qM:= @Bool.beq_eq_decide_eq
def uH:= @Int.eq_of_mul_eq_mul_left
def zL:= @PyProof.Rows.slot_tuple_getitem
def qN:= @PySem.wpAny_loadName_local
def fM:= @if_false
def jI:= @List.map_nil
def qO:= @Nat.mul_le_mul_right
def jJ:= @List.map_map
def jK:= @Int.pow_succ
def nX:= @List.flatten_cons
def nY:= @PySem.wpAny_loadPart_at
def kI:= @PySem.wpAny_standAt
def uI:= @List.length_eq_zero_iff
def uJ:= @List.getElem?_cons_zero
def uK:= @Int.dvd_of_emod_eq_zero
def qP:= @beq_eq_false_iff_ne
def qQ:= @PySem.mem_of_lookup
def lL:= @PySem.wpAny_seqItems
def lM:= @Int.mul_nonneg
def jL:= @PySem.wpAny_of_eq
def jM:= @Int.one_mul
def jN:= @Int.pow_one
def qR:= @PySem.wpAny_Call_Name_kw
def qS:= @PySem.Obj.data_mapFields
def qT:= @PySem.wpAny_setField_rec
def qU:= @Nat.lt_of_le_of_lt
def kJ:= @Int.dvd_refl
def nZ:= @PySem.wpAny_execs_nil
def o7:= @PySem.wpAny_passesOwn
def qV:= @List.length_nil
def o8:= @Nat.min_eq_left
def zM:= @PySem.F.excBase_ValueError
def qW:= @PySem.wpAny_truthy_bool
def qX:= @PySem.Heap.get?_push_ne
def qY:= @List.ext_getElem?
def uL:= @List.mem_append_left
def zN:= @Decidable.byContradiction
def kK:= @Int.mul_pos
def o9:= @Bool.false_xor
def oA:= @Int.natAbs_neg
def qZ:= @Nat.lt_succ_self
def zO:= @Int.mul_ediv_cancel_left
def uM:= @PyProof.Rows.call_isinstance_yes
def uN:= @PySem.Heap.SameBut.update
def uO:= @Nat.mul_le_mul_left
def aL3:= @PySem.plainObj_wpAny_Assign_Attribute
def zP:= @List.getElem?_replicate
def zQ:= @List.pairwise_singleton
def oB:= @Bool.true_xor
def oC:= @List.map_take
def oE:= @Nat.add_assoc
def oF:= @Int.le_of_dvd
def r6:= @List.mem_filter
def uP:= @PySem.W.of_hideAll
def zR:= @List.take_of_length_le
def uQ:= @List.length_range
def uS:= @Int.dvd_mul_right
def oG:= @Nat.le_of_lt
def zS:= @List.length_replicate
def zT:= @PySem.F.slot_zip_next
def r8:= @PySem.isSubtype_type
def zU:= @PySem.builtinLookup_eq_fast
def rA:= @Int.mul_le_mul
def oH:= @Int.dvd_zero
def uT:= @PySem.wpAny_execs_cons
def lN:= @PySem.wpAny_rule
def zV:= @List.mem_of_getElem?
def uU:= @List.length_drop
def lP:= @PySem.call_meets
def uW:= @PySem.Heap.size_update
def aL4:= @List.length_eraseIdx_of_lt
def zW:= @PySem.Heap.get?_update_ne
def zX:= @PySem.wpAny_isSubtype_exc
def zY:= @List.getElem_of_mem
def rB:= @Nat.ne_of_gt
def rC:= @PySem.codeAny_mono
def aL5:= @PySem.F.args_tuple_add_2
def kL:= @Prod.ext
def aL6:= @PySem.AutoSeq1.wpAny_loadPart'
def aL7:= @PySem.F.args_tuple_mul_2
def aL8:= @List.mem_of_mem_eraseIdx
def rD:= @Nat.sub_self
def zZ:= @Int.ofNat_dvd_left
def oJ:= @PySem.wpAny_Name
def uX:= @PySem.wpAny_setField
def aL9:= @PySem.F.entry_tuple_add
def aM0:= @PySem.F.entry_tuple_mul
def aM1:= @decide_eq_false_iff_not
def a00:= @Int.natAbs_add_le
def a01:= @of_decide_eq_true
def a02:= @Int.natAbs_sub_le
def aM2:= @PySem.wpAny_pyIter_rangeiter
def aM3:= @PySem.W.cellsFrom_some
def aM4:= @PySem.F.slot_tuple_add
def aM5:= @PySem.Heap.get?_update_other
def aM6:= @PySem.F.slot_tuple_mul
def rE:= @Int.mul_add
def uY:= @PySem.wpAny_attempt
def a03:= @List.length_take
def a04:= @Int.gcd_dvd_left
def aM7:= @List.length_singleton
def aM8:= @PySem.Obj.isFreed_of_fields
def aM9:= @Nat.le_of_ble_eq_true
def aN0:= @Int.natAbs_dvd_natAbs
def a05:= @Bool.eq_iff_iff
def a06:= @List.nodup_cons
def a07:= @List.of_mem_zip
def rF:= @PySem.typeIs_int
def aN1:= @PySem.Calls.evalArgs_plain
def a08:= @List.nil_append
def aN2:= @PySem.isinstance_false_int
def a09:= @List.forIn_cons
def aN3:= @PySem.wpAny_updateSeq_pair
def a10:= @PySem.typeLookup_type
def uZ:= @Nat.sub_zero
def a11:= @Bool.or_eq_true
def aN4:= @List.pairwise_append
def v3:= @Int.sub_self
def a12:= @Int.mul_dvd_mul
def aN5:= @Array.length_toList
def aN6:= @PySem.W.looks_clsIn
def v4:= @Nat.le_succ
def v5:= @Int.mul_neg
def v6:= @Int.dvd_add
def aN7:= @PyProof.Rows.assignInOrder_cons
def rG:= @PyProof.Rows.IsTup.new
def aN8:= @List.mem_filterMap
def aN9:= @PySem.W.callWith_K
def aO0:= @Bool.false_eq_true
def aO1:= @List.zip_cons_cons
def aO2:= @List.contains_cons
def b99:= @List.set_cons_zero
def bA0:= @List.set_cons_succ
def a13:= @PySem.wpAny_onRaise
def a14:= @Nat.le_of_dvd
def aO3:= @List.getElem?_set
def aO4:= @PySem.wpAny_pyIter_list
def aO5:= @Bool.not_eq_true'
def aO6:= @Nat.le_succ_of_le
def v7:= @PySem.wpAny_call
def aO7:= @PySem.noFill_tuple_add
def a15:= @PySem.wpAny_typeOf
def a16:= @PySem.seqIndex_neg
def a17:= @Nat.mul_comm
def aO8:= @PySem.AutoSeq1.idx_int
def aO9:= @beq_self_eq_true
def a18:= @Nat.pow_succ
def a19:= @Nat.mul_succ
def a20:= @Int.sub_emod
def aP0:= @Nat.mod_eq_of_lt
def aP1:= @Int.natCast_emod
def a21:= @Nat.add_zero
def a22:= @Int.add_comm
def aP2:= @PySem.pushCells_keeps
def aP3:= @PySem.codeAny_of_tree
def aP4:= @Int.natCast_mul
def aP5:= @List.sum_append
def a23:= @PySem.seqIndex_of
def a24:= @Int.add_mul
open PySem PySem.Spec PyProof.Rows
section
variable {us its bmB:List Value}{a b it t f C dx R sl l l1 l2 fI:Addr}{P prog q:Program}{w:World}{h g base h':Heap}{o oe:Obj}{t' i j k n tk k' last kt:Nat}{ch fp:List Addr}{x y qual f1 f2:Str}{e c tg iter elt:Expr}{N loose XN ks:List Str}{A:Around}{E Q:Value->Shared->Prop}{u v vl vu fl:Value}{s' s:Shared}{α:Type}{pos pos' py tpos p cpos p2 spos tp np:Pos}{pins:List (Addr×Obj)}{op:CmpOp}{K:Frag}{st:Stmt}{es ifs elts:List Expr}{body:List Stmt}{vs items xs:Array Value}{lo:Int}{hi:Option Int}{kw:List (Str×Value)}{env:Env}{mg:Str->Option Value}{fd:FuncData}{outer:List Env}{scope:Scope}{YP:World->Heap->Prop}{od:Option Addr}{φ:Φ}{T T1 T2:Bool}{cl:List (Str×Addr)}{cap:List (Option Nat)}{em:Value->Env->Sem Unit}{js:List Nat}{esc:List (Str×NameKind)}{newId initId:String}
namespace L2
abbrev Key:=Sum Int Str
noncomputable def dT8:Key->Value->Bool
 | .inl k,v=>Value.isInt k v
 | .inr x,v=>Value.isStrOf x v
noncomputable def keyH (w:World):Key->Int
 | .inl k=>hashInt k
 | .inr x=>hashStr w x
theorem iZ: ∀{k:Key} {v:Value},dT8 k v=true->(∃i t,k=Sum.inl i/\v=Value.int i t)\/(∃x t,k=Sum.inr x/\v=Value.str x t)
 | .inl i,v,h=>by
  obtain⟨t,e⟩:=Value.isInt_shape (k:=i) (v:=v) h;exact .inl ⟨i,t,rfl,e⟩
 | .inr x,v,h=>by
  obtain⟨t,e⟩:=Value.isStrOf_shape (x:=x) (v:=v) h;exact .inr ⟨x,t,rfl,e⟩
theorem key_ll (a b:Int):decide ((Sum.inl a:Key)=Sum.inl b)=(a==b):=by
 by_cases e:a=b
 .subst e;simp
 .have h: ¬(Sum.inl a:Key)=Sum.inl b:=λq=>e (Sum.inl.inj q)
  rw[gK h];exact(qP.mpr e).symm
theorem key_rr (a b:Str):decide ((Sum.inr a:Key)=Sum.inr b)=decide (a=b):=by
 by_cases e:a=b
 .subst e;simp
 .have h: ¬(Sum.inr a:Key)=Sum.inr b:=λq=>e (Sum.inr.inj q)
  rw[gK h,gK e]
theorem key_lr (a:Int)(b:Str):decide ((Sum.inl a:Key)=Sum.inr b)=false:=gK (λq=>nomatch q)
theorem key_rl (a:Str)(b:Int):decide ((Sum.inr a:Key)=Sum.inl b)=false:=gK (λq=>nomatch q)
noncomputable def cL9 (prog:Program)(w:World):PySem.KeyKind prog w Key where
 is:=dT8
 hash:=keyH w
 inj:=λv a b ha hb=>by
  rcases iZ ha with⟨i,t,rfl,rfl⟩| ⟨x,t,rfl,rfl⟩
  .rcases iZ hb with⟨j,u,rfl,e⟩| ⟨y,u,rfl,e⟩
   .injection e with e1 _;rw[e1]
   .exact nomatch e
  .rcases iZ hb with⟨j,u,rfl,e⟩| ⟨y,u,rfl,e⟩
   .exact nomatch e
   .injection e with e1 _;rw[e1]
 byValue:=λk v h=>by
  rcases iZ h with⟨i,t,rfl,rfl⟩| ⟨x,t,rfl,rfl⟩<;>rfl
 pyHash:=λhv h=>by
  rcases iZ hv with⟨i,t,rfl,rfl⟩| ⟨x,t,rfl,rfl⟩
  .exact wpAny_pyHash_int h
  .exact wpAny_pyHash_str h
 eqBool:=λhu hv h=>by
  rcases iZ hu with⟨i,t,rfl,rfl⟩| ⟨x,t,rfl,rfl⟩
  .rcases iZ hv with⟨j,u,rfl,rfl⟩| ⟨y,u,rfl,rfl⟩
   .rw[key_ll]at h;exact wpAny_eqBool_int h
   .rw[key_lr]at h;exact SeqAt.EqAt.int_str i t y u _ _ _ _ h
  .rcases iZ hv with⟨j,u,rfl,rfl⟩| ⟨y,u,rfl,rfl⟩
   .rw[key_rl]at h;exact SeqAt.EqAt.str_int x t j u _ _ _ _ h
   .rw[key_rr]at h;exact wpAny_eqBool_str h
 «strs» :=λk x t v h=>by
  rcases iZ h with⟨i,u,rfl,e⟩| ⟨y,u,rfl,e⟩
  .exact nomatch e
  .injection e with e1 _
   subst e1;cases v<;>rfl
end L2
open L2
namespace L2
inductive V where
 | non|bl (b:Bool)|int (i:Int)|str (x:Str)|byt (b:Array UInt8)|flt (b:UInt64)|ref (a:Addr)|ty (n:String)
 deriving DecidableEq
def RelV:V->Value->Prop
 | .non,u=>u=Value.none
 | .bl b,u=>u=Value.bool b
 | .int i,u=> ∃t,u=Value.int i t
 | .str x,u=> ∃t,u=Value.str x t
 | .byt b,u=> ∃t,u=Value.bytes b t
 | .flt b,u=> ∃t,u=Value.float b t
 | .ref a,u=>u=Value.ref a
 | .ty n,u=>u=Value.type n
abbrev Vals:List V->List Value->Prop:=Paired RelV
theorem Vals.length {xs:List V}(r:Vals xs us):xs.length=us.length:=Paired.length r
theorem Vals.get: ∀{xs:List V} {us:List Value} {i:Nat} {x:V},Vals xs us->xs[i]? =some x-> ∃u,us[i]? =some u/\RelV x u
 | _,_,_,_,.nil,e=>by simp at e
 | _,_,0,_,.cons r _,e=>by simp at e;subst e;exact⟨_,rfl,r⟩
 | _,_,i+1,x,.cons _ t,e=>by
  obtain⟨u,h1,h2⟩:=Vals.get (i:=i) (x:=x) t (by simpa using e)
  exact⟨u,by simpa using h1,h2⟩
theorem Vals.set {x:V}{u:Value}(r:RelV x u): ∀{xs:List V} {us:List Value} (i:Nat),Vals xs us->Vals (xs.set i x) (us.set i u)
 | _,_,_,.nil=> .nil
 | _,_,0,.cons _ t=> .cons r t
 | _,_,i+1,.cons q t=> .cons q (Vals.set r i t)
theorem Vals.append: ∀{xs ys:List V} {us ws:List Value},Vals xs us->Vals ys ws->Vals (xs++ys) (us++ws)
 | _,_,_,_,.nil,s=>s
 | _,_,_,_,.cons r t,s=> .cons r (Vals.append t s)
theorem Vals.take: ∀{xs:List V} {us:List Value} (n:Nat),Vals xs us->Vals (xs.take n) (us.take n)
 | _,_,0,_=> .nil
 | _,_,_+1,.nil=> .nil
 | _,_,n+1,.cons r t=> .cons r (Vals.take n t)
theorem Vals.drop: ∀{xs:List V} {us:List Value} (n:Nat),Vals xs us->Vals (xs.drop n) (us.drop n)
 | _,_,0,r=>r
 | _,_,_+1,.nil=> .nil
 | _,_,n+1,.cons _ t=>Vals.drop n t
def cD6:Option V->Option Value->Prop
 | some v,some u=>RelV v u
 | none,none=>True
 | _,_=>False
def KV {κ:Type}:List (κ×V)->List (κ×Value)->Prop:=Paired fun(p:κ×V) (q:κ×Value)=>p.1=q.1/\RelV p.2 q.2
noncomputable def kV:Key->V
 | .inl i=> .int i
 | .inr x=> .str x
inductive HO where
 | lst (xs:List V)
 | tup (xs:List V)
 | dK (kvs:List (Key×V))|dT (kvs:List (List Key×V))
 | set (S:Int->Bool) (n:Nat)
 | ins (C dx:Addr) (fs:List (Str×V))
 | own (x:Addr)
 | xd (fs:List (Str×V))
 | met (f x:Addr)
 | rng (lo hi:Int)
 | frz (o:Obj) (u:HO)
 | tbl (ps:Array Value)
 | ext (φ:Heap->Prop)
abbrev Hp:=Addr->Option HO
noncomputable def upd (H:Hp)(a:Addr)(o:HO):Hp:=λb=>if b=a then some o else H b
theorem j0 {H:Hp}{o:HO}:upd H a o a=some o:=by unfold upd;rw[aA rfl]
theorem cE {H:Hp}{o:HO}(h:b≠a):upd H a o b=H b:=by unfold upd;rw[a9 h]
theorem dF {H:Hp}{o:HO}(h:H a=some o)(h':H b=none):a≠b:=by
 intro e;subst e;rw[h]at h';cases h'
section
variable (P:Program)(w:World)
noncomputable def sI (H:Hp)(h:Heap)(a:Addr):HO->Prop
 | .lst xs=>xs.length<=sizeLine/\ ∃(its:List Value) (n:Nat),Vals xs its/\h.get? a=some {cls:= .type "list",data:= .seq its.toArray n}
 | .tup xs=>xs.length<=sizeLine/\ ∃its:List Value,Vals xs its/\IsTup h a its.toArray
 | .dK kvs=>kvs.length<=sizeLine/\(a==sysModules)=false/\ ∃vs,KV kvs vs/\h.DictOf (cL9 P w) a vs
 | .dT kvs=>kvs.length<=sizeLine/\(a==sysModules)=false/\ ∃xs:List (List Key×Addr×Value),
   Paired (fun(p:List Key×V) (q:List Key×Addr×Value)=>p.1=q.1/\H q.2.1=some (.tup<|p.1.map kV)/\RelV p.2 q.2.2) kvs xs/\
   ∃o es ep,h.get? a=some o/\o.ExactDict/\o.data= .dict es ep/\es.toList=xs.map (entryOfKey<|tupleKind<|cL9 P w)/\(xs.map (·.1)).Nodup
 | .set S n=>h.SetOf (intKind P w) a S n
 | .ins C dx fs=>H dx=some (.own a)/\fs.length<=1000/\dx≠a/\h.get? a=some (instObj C dx)/\
   ∃mA,h.Ns1 dx mA/\(∀f,cD6 (fs.lookup f)<|mA f)/\PySem.Within mA (fs.map (·.1))
 | .own _=> ∃o,h.get? a=some o
 | .xd fs=> ∃mA,h.Ns1 a mA/\ ∀f,cD6 (fs.lookup f) (mA f)
 | .rng lo hi=> ∃t u v,h.get? a=some {cls:= .type "range",data:= .fields #[.int lo t,.int hi u,.int 1 v]}
 | .frz o u=>h.get? a=some o/\sI H h a u
 | .tbl ps=>h.get? a=some {cls:= .none,data:= .fields ps}
 | .met f x=>h.get? a=some (methodObj (.ref f)<|.ref x)
 | .ext φ=>φ h/\(∃o,h.get? a=some o)/\ ∀h1 h2:Heap,φ h1->(∀o,h1.get? a=some o->h2.get? a=some o)->φ h2
def HOk (H:Hp)(h:Heap):Prop:= ∀a o,H a=some o->sI P w H h a o
end
section
variable {P:Program}{w:World}{H H':Hp}{h h':Heap}{a:Addr}{o:HO}
theorem sI.lt (x:sI P w H h a o):a<h.objs.size:=by
 cases o with
 | lst xs=>obtain⟨_,_,_,_,e⟩:=x;exact aY e
 | tup xs=>obtain⟨_,_,_,p⟩:=x;exact p.lt
 | dK kvs=>obtain⟨_,_,_,_,o,_,_,e,_⟩:=x;exact aY e
 | dT kvs=>obtain⟨_,_,_,_,o,_,_,e,_⟩:=x;exact aY e
 | set S n=>obtain⟨o,_,_,_,e,_⟩:=x;exact aY e
 | ins C dx fs=>obtain⟨_,_,_,e,_⟩:=x;exact aY e
 | own y=>obtain⟨_,e⟩:=x;exact aY e
 | xd fs=>obtain⟨_,⟨_,_,_,e,_⟩,_⟩:=x;exact aY e
 | rng lo hi=>obtain⟨_,_,_,e⟩:=x;exact aY e
 | frz ob u=>obtain⟨e,_⟩:=x;exact aY e
 | tbl ps=>exact aY (show h.get? a=some _ from x)
 | met f y=>exact aY (show h.get? a=some _ from x)
 | ext φ=>obtain⟨_,⟨_,e⟩,_⟩:=x;exact aY e
theorem Paired.mapP {α β:Type}{F G:α->β->Prop}: ∀{l₁:List α} {l₂:List β},Paired F l₁ l₂->(∀a b,F a b->G a b)->Paired G l₁ l₂
 | _,_,.nil,_=> .nil
 | _,_,.cons r t,f=> .cons (f _ _ r) (Paired.mapP t f)
theorem sI.stay (x:sI P w H h a o)(k: ∀b u,(b=a\/H b=some (.own a))->h.get? b=some u->h'.get? b=some u)
  (ho: ∀b,H b=some (.own a)->H' b=some (.own a)) (ht: ∀b xs,H b=some (.tup xs)->H' b=some (.tup xs)):sI P w H' h' a o:=by
 induction o with
 | lst xs=>obtain⟨z,its,n,r,e⟩:=x;exact⟨z,its,n,r,k _ _ (.inl rfl) e⟩
 | tup xs=>obtain⟨z,its,r,ob,e,c⟩:=x;exact⟨z,its,r,ob,k _ _ (.inl rfl) e,c⟩
 | dK kvs=>obtain⟨z,y,vs,r,ob,es,ep,e,c⟩:=x;exact⟨z,y,vs,r,ob,es,ep,k _ _ (.inl rfl) e,c⟩
 | dT kvs=>
  obtain⟨z,y,xs,r,ob,es,ep,e,c⟩:=x;exact⟨z,y,xs,Paired.mapP r λp q z=>⟨z.1,ht _ _ z.2.1,z.2.2⟩,ob,es,ep,k _ _ (.inl rfl) e,c⟩
 | set S n=>obtain⟨ob,es,ep,t,e,c⟩:=x;exact⟨ob,es,ep,t,k _ _ (.inl rfl) e,c⟩
 | ins C dx fs=>
  obtain⟨d,z,ne,e,mA,⟨od,es,ep,e2,c⟩,r⟩:=x;exact⟨ho _ d,z,ne,k _ _ (.inl rfl) e,mA,⟨od,es,ep,k _ _ (.inr d) e2,c⟩,r⟩
 | own y=>obtain⟨ob,e⟩:=x;exact⟨ob,k _ _ (.inl rfl) e⟩
 | xd fs=>obtain⟨mA,⟨od,es,ep,e,c⟩,r⟩:=x;exact⟨mA,⟨od,es,ep,k _ _ (.inl rfl) e,c⟩,r⟩
 | rng lo hi=>obtain⟨t,u,v,e⟩:=x;exact⟨t,u,v,k _ _ (.inl rfl) e⟩
 | frz ob u ih=>obtain⟨e,q⟩:=x;exact⟨k _ _ (.inl rfl) e,ih q⟩
 | tbl ps=>
  have e:h.get? a=some {cls:= .none,data:= .fields ps}:=x;show h'.get? a=some {cls:= .none,data:= .fields ps};exact k a _ (.inl rfl) e
 | met f y=>
  have e:h.get? a=some (methodObj (.ref f)<|.ref y):=x;show h'.get? a=some (methodObj (.ref f)<|.ref y);exact k a _ (.inl rfl) e
 | ext φ=>obtain⟨p,⟨o,e⟩,st⟩:=x;exact⟨st _ _ p λo q=>k _ _ (.inl rfl) q,⟨o,k _ _ (.inl rfl) e⟩,st⟩
theorem HOk.lt (x:HOk P w H h)(e:H a=some o):a<h.objs.size:=(x a o e).lt
theorem HOk.fresh (x:HOk P w H h)(e:h.objs.size<=a):H a=none:=by
 cases q:H a with
 | none=>rfl
 | some u=>exact absurd (bG (x.lt q) e) (cQ _)
theorem HOk.kept (x:HOk P w H h)(k: ∀b u,h.get? b=some u->h'.get? b=some u):HOk P w H h':=λa o e=>
 (x a o e).stay (λb u _ q=>k b u q) (λ_ q=>q) λ_ _ q=>q
theorem HOk.laid (x:HOk P w H h)(k: ∀b u,h.get? b=some u->h'.get? b=some u)(hp:h.objs.size<=a)(new:sI P w (upd H a o) h' a o):HOk P w (upd H a o) h':=λb u e=>by
 have hn:=x.fresh hp
 by_cases hb:b=a
 .subst hb;rw[j0]at e;cases e;exact new
 .rw[cE hb]at e;exact(x b u e).stay (λc v _ q=>k c v q) (λc q=>by rw[cE<|dF q hn];exact q) λc xs q=>by rw[cE<|dF q hn];exact q
end
def Rd (H:Hp)(a:Addr)(u:HO):Prop:=H a=some u\/ ∃o,H a=some (.frz o u)
theorem Rd.ok {H:Hp}{u:HO}(r:Rd H a u)(x:HOk P w H h):sI P w H h a u:=by
 rcases r with r| ⟨o,r⟩
 .exact x a u r
 .obtain⟨_,q⟩:=x a _ r;exact q
def Mut:Option HO->Prop
 | some (.lst _)=>True
 | some (.dK _)=>True
 | some (.dT _)=>True
 | some (.set _ _)=>True
 | some (.ins _ _ _)=>True
 | some (.ext _)=>True
 | _=>False
section
variable {P:Program}{w:World}{H:Hp}{h h':Heap}{x e:Addr}{o':HO}
theorem HOk.write (ok:HOk P w H h)(mu:Mut (H x))(he:e=x\/H e=some (.own x))(k: ∀b u,b≠e->h.get? b=some u->h'.get? b=some u)(heo: ∃u,h'.get? e=some u)
  (new:sI P w (upd H x o') h' x o'):HOk P w (upd H x o') h':=λb u q=>by
 have nown: ∀c y,H c=some (.own y)->c≠x:=λc y r z=>by subst z;rw[r]at mu;exact mu
 have ntup: ∀c xs,H c=some (.tup xs)->c≠x:=λc xs r z=>by subst z;rw[r]at mu;exact mu
 by_cases hb:b=x
 .subst hb;rw[j0]at q;cases q;exact new
 .rw[cE hb]at q
  by_cases hbe:b=e
  .have q':H b=some (.own x):=by
    rcases he with z|z
    .exact absurd (hbe.trans z) hb
    .rw[hbe];exact z
   rw[q]at q';cases q';obtain⟨v,hv⟩:=heo;exact⟨v,by rw[hbe];exact hv⟩
  .refine(ok b u q).stay (λc v hc r=>k c v ?_ r) (λc r=>by rw[cE<|nown c b r];exact r) λc xs r=>by rw[cE<|ntup c xs r];exact r
   rcases hc with rfl|hc
   .exact hbe
   .rintro rfl;rcases he with z|z
    .exact nown c b hc z
    .rw[hc]at z;cases z;exact hb rfl
end
structure Un (fs ex:List Addr)(H H':Hp)(h h':Heap):Prop where
 keep: ∀b o,h.get? b=some o->H b=none->b ∉ fs->b ∉ ex->h'.get? b=some o
 slot: ∀b o,h.get? b=some o->H b=none->b∈fs->b ∉ ex-> ∃sl,h'.get? b=some {o with slots:=sl}
 free: ∀b o,h.get? b=some o->H b=none->b ∉ ex->H' b=none
 there: ∀b o,h.get? b=some o->b ∉ ex-> ∃o',h'.get? b=some o'
 tups: ∀b xs,H b=some (.tup xs)->H' b=some (.tup xs)
 frzs: ∀b o u,H b=some (.frz o u)->H' b=some (.frz o u)
 tbls: ∀b ps,H b=some (.tbl ps)-> ∃more,H' b=some (.tbl<|ps++more)
section
variable {fs fs' ex ex':List Addr}{H H1 H2:Hp}{h h1 h2 h':Heap}{a x e:Addr}{o:HO}
theorem Un.any (u:Un fs ex H H1 h h1){ob:Obj}(q:h.get? b=some ob)(n:H b=none)(hx:b ∉ ex): ∃sl,h1.get? b=some {ob with slots:=sl}:=by
 by_cases hb:b∈fs
 .exact u.slot b ob q n hb hx
 .exact⟨ob.slots,u.keep b ob q n hb hx⟩
theorem Un.kept (k: ∀b u,h.get? b=some u->h'.get? b=some u):Un fs ex H H h h':=
 ⟨λb ob q _ _ _=>k b ob q,λb ob q _ _ _=>⟨ob.slots,k b ob q⟩,λ_ _ _ n _=>n,λb ob q _=>⟨ob,k b ob q⟩,λ_ _ q=>q,λ_ _ _ q=>q,λ_ ps q=>⟨#[],by rw[q];simp⟩⟩
theorem Un.refl:Un fs ex H H h h:=Un.kept λ_ _ q=>q
theorem Un.laid (k: ∀b u,h.get? b=some u->h'.get? b=some u)(hp:h.objs.size<=a)(hn:H a=none):Un fs ex H (upd H a o) h h' where
 keep:=λb u q _ _ _=>k b u q
 slot:=λb u q _ _ _=>⟨u.slots,k b u q⟩
 free:=λb u q n _=>by rw[cE<|bL<|bG (aY q) hp];exact n
 there:=λb u q _=>⟨u,k b u q⟩
 tups:=λb xs q=>by rw[cE<|dF q hn];exact q
 frzs:=λb u xs q=>by rw[cE<|dF q hn];exact q
 tbls:=λb ps q=>⟨#[],by rw[cE<|dF q hn,q];simp⟩
theorem Un.write (mu:Mut (H x))(he:e=x\/H e=some (.own x))(k: ∀b u,b≠e->h.get? b=some u->h'.get? b=some u)(heo: ∃u,h'.get? e=some u):Un fs ex H (upd H x o) h h':=by
 have hx: ∀b,H b=none->b≠x:=λb n z=>by subst z;rw[n]at mu;exact mu
 have hb: ∀b,H b=none->b≠e:=λb n z=>by
  subst z;rcases he with r|r
  .exact hx b n r
  .rw[n]at r;cases r
 have hm: ∀b u,H b=some u-> ¬Mut (some u)->b≠x:=λb u q nm z=>by subst z;rw[q]at mu;exact nm mu
 refine⟨λb u q n _ _=>k b u (hb b n) q,λb u q n _ _=>⟨u.slots,k b u (hb b n) q⟩,λb u q n _=>by rw[cE<|hx b n];exact n,λb u q _=> ?_,
  λb xs q=>by rw[cE<|hm b _ q λz=>z];exact q,λb u xs q=>by rw[cE<|hm b _ q λz=>z];exact q,λb ps q=>⟨#[],by rw[cE<|hm b _ q λz=>z,q];simp⟩⟩
 by_cases hbe:b=e
 .subst hbe;exact heo
 .exact⟨u,k b u hbe q⟩
end
noncomputable def trk (h:Heap)(H:Hp):List Addr:=(List.range h.objs.size).filter λa=>(H a).isSome
noncomputable def bT4 (h:Heap)(H:Hp):Heap:=PySem.W.hideAll h (trk h H)
theorem cT0 (h:Heap)(H:Hp):(bT4 h H).objs.size=h.objs.size:=PySem.W.hideAll_size _ _
theorem d03 {H:Hp}(e:h.get? b=some o)(n:H b=none):(bT4 h H).get? b=some o:=
 PySem.W.hideAll_get _ e λhm=>by
  have q:(H b).isSome=true:=(r6.mp hm).2;rw[n]at q;simp at q
theorem dH7 {H:Hp}(e:(bT4 h H).get? b=some o):h.get? b=some o/\H b=none:=by
 have e':h.get? b=some o:=uP (trk h H) e;refine⟨e',?_⟩;cases q:H b with
 | none=>rfl
 | some x=>
  have hm:b∈trk h H:=r6.mpr ⟨dN.mpr<|aY e',by simp[q]⟩
  have z:(bT4 h H).get? b=none:=PySem.W.hideAll_none (trk h H) hm;rw[z]at e;cases e
noncomputable def dH8 (g h:Heap)(L:Addr):List (Addr×Obj):=(List.range h.objs.size).filterMap λa=>if a=L\/(g.get? a).isSome=true then none else(h.get? a).map λo=>(a,o)
noncomputable def iW (g h:Heap)(L d:Addr):List (Addr×Obj):=(dH8 g h L).filter λp=>decide (p.1≠d)
structure Mod (K:Frag)(mg:Str->Option Value)(base:Heap):Prop where
 kin:K.In base
 glob:base.Ns mainGlobals mg
 blt: ∃mb,base.Ns builtinsNs mb/\ ∀x:Str,x≠"__name__"->mb x=bootBuiltins x
 nolimit:base.NoLimit
structure Cx where
 prog:Program
 w:World
 K:Frag
 mg:Str->Option Value
 base:Heap
 A:Around
 N:List Str
 s₀:Shared
 H₀:Hp
 env:Env
 outer:List Env
 stack:List Env
 ex:List Addr
 fn:Str->Bool
 calm:Bool
 pn:List (Addr×Obj)
 xe:Value->Shared->Prop
noncomputable def frs (l:List Env):List Addr:=l.filterMap (·.frame)
noncomputable abbrev Cx.fs (X:Cx):List Addr:=frs X.outer
def Vis (sc:Scope)(x:Str):Prop:=sc.names.lookup x=some .local\/sc.names.lookup x=some .cell\/sc.names.lookup x=some .free
def Loc (sc:Scope)(x:Str):Prop:=sc.names.lookup x=some .local\/sc.names.lookup x=some .cell
def Look (env:Env)(h:Heap)(m:Str->Option Value)(x:Str)(u:Value):Prop:=
 (env.kindOf x=some .local/\m x=some u)\/((env.kindOf x=some .cell\/env.kindOf x=some .free)/\ ∃c,env.cells.lookup x=some c/\h.IsCell c (some u))
structure Cx.Ok (X:Cx):Prop where
 mod:Mod X.K X.mg X.base
 kind:X.env.scope.kind= .function
 glob:X.env.globals=mainGlobals
 blt:X.env.builtins=builtinsNs
 above:X.s₀.heap.objs.size<=X.env.locals
 inj: ∀x y c,X.env.cells.lookup x=some c->X.env.cells.lookup y=some c->x=y
 has: ∀x,(X.env.kindOf x=some .cell\/X.env.kindOf x=some .free)-> ∃c,X.env.cells.lookup x=some c
 cab: ∀x c,X.fn x=true->X.env.cells.lookup x=some c->X.s₀.heap.objs.size<=c
 hd:X.calm=true->X.A.handled=none
 frames:X.A.frames=some X.stack
 stk:X.stack=X.outer\/(X.stack=X.env::X.outer/\X.env.frame=some X.env.locals)
 exf: ∀b∈X.ex,b≠X.env.locals/\ ∀x c,X.env.cells.lookup x=some c->c≠b
 bs: ∀b o,X.base.get? b=some o->X.s₀.heap.get? b=some o/\X.H₀ b=none
 bsz:X.base.objs.size<=X.s₀.heap.objs.size
 noex: ∀b o,X.base.get? b=some o->b ∉ X.ex
 exfs: ∀b∈X.ex,b ∉ X.fs
 funs:X.s₀.heap.FunFrames X.base X.outer
 frf: ∀b∈X.fs,X.H₀ b=none
structure Inv (X:Cx)(pins:List (Addr×Obj))(σ:List (Option V))(H:Hp)(s:Shared):Prop where
 ok:X.Ok
 os:s.os=X.s₀.os
 bare:AllBare s.gens
 base:Un X.fs X.ex X.H₀ H X.s₀.heap s.heap
 loc: ∃m,s.heap.Ns X.env.locals m/\ ∀(i:Nat) (x:Str) (v:V),X.N[i]? =some x->σ[i]? =some (some v)->Vis X.env.scope x-> ∃u,RelV v u/\Look X.env s.heap m x u
 cell: ∀x c,X.env.cells.lookup x=some c-> ∃v,s.heap.IsCell c v
 free:H X.env.locals=none
 freeC: ∀x c,X.env.cells.lookup x=some c->H c=none
 pin: ∀p∈X.pn++pins,s.heap.get? p.1=some p.2/\H p.1=none/\p.1≠X.env.locals/\p.1 ∉ X.fs/\ ∀v,p.2.data≠ .cell v
 hok:HOk X.prog X.w H s.heap
 len:σ.length=X.N.length
section
variable {X:Cx}{pins:List (Addr×Obj)}{σ:List (Option V)}{H H':Hp}{s:Shared}{h':Heap}
theorem Cx.Ok.nofr (ok:X.Ok)(e:X.base.get? b=some o):b ∉ X.fs:=λhb=>by
 have:=(ok.funs.mem hb).1;rw[e]at this;cases this
theorem Inv.bs (I:Inv X pins σ H s): ∀b o,X.base.get? b=some o->s.heap.get? b=some o/\H b=none:=λb o e=>
 ⟨I.base.keep b o (I.ok.bs b o e).1 (I.ok.bs b o e).2 (I.ok.nofr e)<|I.ok.noex b o e,I.base.free b o (I.ok.bs b o e).1 (I.ok.bs b o e).2<|I.ok.noex b o e⟩
theorem Inv.bk (I:Inv X pins σ H s): ∀b o,X.base.get? b=some o->s.heap.get? b=some o:=λb o e=>(I.bs b o e).1
theorem Inv.mod (I:Inv X pins σ H s):Mod X.K X.mg X.base:=I.ok.mod
theorem Inv.kIn (I:Inv X pins σ H s):X.K.In s.heap:=I.ok.mod.kin.keeps I.bk
theorem Inv.nolimit (I:Inv X pins σ H s):s.heap.NoLimit:=I.ok.mod.nolimit.keeps I.bk
theorem Inv.lt (I:Inv X pins σ H s):X.env.locals<s.heap.objs.size:=let ⟨_,hn,_⟩:=I.loc;hn.lt
theorem Inv.sz (I:Inv X pins σ H s):X.s₀.heap.objs.size<=s.heap.objs.size:=aM I.ok.above (oG I.lt)
theorem Inv.nofs (I:Inv X pins σ H s)(h:s.heap.objs.size<=a):a ∉ X.fs:=λhb=>by
 obtain⟨_,o,ho,_⟩:=I.ok.funs.mem hb;exact absurd (bG (aY ho)<|aM I.sz h) (cQ _)
theorem Inv.cne (I:Inv X pins σ H s): ∀x c,X.env.cells.lookup x=some c->c≠X.env.locals:=λx c e z=>by
 obtain⟨v,o,ho,hd⟩:=I.cell x c e;obtain⟨m,⟨o',es,ep,ho',hd',_⟩,_⟩:=I.loc;rw[z,ho']at ho;cases ho;rw[hd']at hd;cases hd
theorem Inv.funs (I:Inv X pins σ H s):s.heap.FunFrames X.base X.outer:=by
 have all: ∀(l:List Env),(∀b∈frs l,b∈X.fs)->X.s₀.heap.FunFrames X.base l->s.heap.FunFrames X.base l:=by
  intro l
  induction l with
  | nil=>intro _ _;trivial
  | cons env r ih=>
   intro hs hl;obtain⟨hk,⟨L,o,hf,hn,ho,hd⟩,hr⟩:=hl;have hL:L∈X.fs:=hs L (by unfold frs;rw[kC,hf];exact jD)
   obtain⟨sl,e⟩:=I.base.slot L o ho (I.ok.frf L hL) hL λz=>I.ok.exfs L z hL
   exact⟨hk,⟨L,_,hf,hn,e,hd⟩,ih (λb hb=>hs b (by unfold frs;rw[kC,hf];exact dS _ hb)) hr⟩
 exact all X.outer (λ_ hb=>hb) I.ok.funs
theorem Inv.stack (I:Inv X pins σ H s):s.heap.FunFrames X.base X.stack:=by
 rcases I.ok.stk with e| ⟨e,hf⟩
 .rw[e];exact I.funs
 .rw[e];obtain⟨m,hn,_⟩:=I.loc;refine .cons (by rw[I.ok.kind];decide) hf hn ?_ I.funs
  exact lF (aM I.ok.bsz I.ok.above)
theorem Inv.stkSub (I:Inv X pins σ H s): ∀b∈frs X.stack,b∈X.env.locals::X.fs:=λb hb=>by
 rcases I.ok.stk with e| ⟨e,hf⟩
 .rw[e]at hb;exact dS _ hb
 .rw[e]at hb;unfold frs at hb;rw[kC,hf]at hb;exact hb
theorem Inv.stkFree (I:Inv X pins σ H s): ∀b∈frs X.stack,H b=none:=λb hb=>by
 rcases bE.mp (I.stkSub b hb)with e|hb
 .rw[e];exact I.free
 .obtain⟨_,o,ho,_⟩:=I.ok.funs.mem hb;exact I.base.free b o ho (I.ok.frf b hb) λz=>I.ok.exfs b z hb
theorem Inv.step {g':Array GenState}{d':Drawn}(I:Inv X pins σ H s)
  (hch: ∀b∈ch,(b∈X.ex\/X.s₀.heap.objs.size<=b)/\b≠X.env.locals/\(∀x c,X.env.cells.lookup x=some c->c≠b)/\ ∀p∈X.pn++pins,p.1≠b)
  (keep: ∀b o,b≠X.env.locals->b ∉ X.fs->b ∉ ch->s.heap.get? b=some o->H b=none->h'.get? b=some o)
  (slot: ∀b o,b≠X.env.locals->b∈X.fs->b ∉ ch->s.heap.get? b=some o->H b=none-> ∃sl,h'.get? b=some {o with slots:=sl}) (free: ∀b o,b ∉ ch->s.heap.get? b=some o->H b=none->H' b=none)
  (there: ∀b o,b ∉ ch->s.heap.get? b=some o-> ∃o',h'.get? b=some o')
  (tups: ∀b xs,H b=some (.tup xs)->H' b=some (.tup xs)) (frzs: ∀b o u,H b=some (.frz o u)->H' b=some (.frz o u)) (tbls: ∀b ps,H b=some (.tbl ps)-> ∃more,H' b=some (.tbl<|ps++more))
  (ns: ∀m,s.heap.Ns X.env.locals m->h'.Ns X.env.locals m) (hok:HOk X.prog X.w H' h') (hg:AllBare g') :
  Inv X pins σ H' {s with heap:=h',gens:=g',drawn:=d',toks:=t'}:=by
 have neL: ∀b o,X.s₀.heap.get? b=some o->b≠X.env.locals:=λb o e=>bL (bG (aY e) I.ok.above)
 have neC: ∀b o,X.s₀.heap.get? b=some o->b ∉ X.ex->b ∉ ch:=λb o e hx hb=>by
  rcases(hch b hb).1 with z|z
  .exact hx z
  .exact absurd (bG (aY e) z) (cQ _)
 have cellK: ∀x c,X.env.cells.lookup x=some c-> ∀v,s.heap.IsCell c v->h'.IsCell c v:=λx c e v ⟨o,ho,hd⟩=>by
  have nch:c ∉ ch:=λz=>(hch c z).2.2.1 x c e rfl
  by_cases hc:c∈X.fs
  .obtain⟨sl,q⟩:=slot c o (I.cne x c e) hc nch ho (I.freeC x c e);exact⟨_,q,hd⟩
  .exact⟨o,keep c o (I.cne x c e) hc nch ho<|I.freeC x c e,hd⟩
 refine⟨I.ok,I.os,hg,⟨λb o e n hb hx=> ?_,λb o e n hb hx=> ?_,λb o e n hx=> ?_,λb o e hx=> ?_,λb xs e=>tups b xs (I.base.tups b xs e),λb o xs e=>frzs b o xs (I.base.frzs b o xs e),λb ps e=> ?_⟩,?_,λx c e=> ?_,?_,λx c e=> ?_,λp hp=> ?_,hok,I.len⟩
 .exact keep b o (neL b o e) hb (neC b o e hx) (I.base.keep b o e n hb hx) (I.base.free b o e n hx)
 .obtain⟨sl,e1⟩:=I.base.slot b o e n hb hx;obtain⟨sl',e2⟩:=slot b _ (neL b o e) hb (neC b o e hx) e1 (I.base.free b o e n hx);exact⟨sl',e2⟩
 .obtain⟨o',e1⟩:=I.base.there b o e hx;exact free b o' (neC b o e hx) e1 (I.base.free b o e n hx)
 .obtain⟨o',e1⟩:=I.base.there b o e hx;exact there b o' (neC b o e hx) e1
 .obtain⟨m1,e1⟩:=I.base.tbls b ps e;obtain⟨m2,e2⟩:=tbls b _ e1;exact⟨m1++m2,by rw[e2,Array.append_assoc]⟩
 .obtain⟨m,hn,hl⟩:=I.loc;refine⟨m,ns m hn,λi x v e1 e2 e3=> ?_⟩
  obtain⟨u,r,l⟩:=hl i x v e1 e2 e3;refine⟨u,r,?_⟩;rcases l with l| ⟨k,c,e,z⟩
  .exact .inl l
  .exact .inr ⟨k,c,e,cellK x c e _ z⟩
 .obtain⟨v,z⟩:=I.cell x c e;exact⟨v,cellK x c e v z⟩
 .obtain⟨m,⟨o,_,_,ho,_⟩,_⟩:=I.loc;exact free _ o (λz=>(hch _ z).2.1 rfl) ho I.free
 .obtain⟨v,o,ho,hd⟩:=I.cell x c e;exact free c o (λz=>(hch c z).2.2.1 x c e rfl) ho (I.freeC x c e)
 .obtain⟨e,n,ne,nf,d⟩:=I.pin p hp;have nch:p.1 ∉ ch:=λz=>(hch p.1 z).2.2.2 p hp rfl
  exact⟨keep p.1 p.2 ne nf nch e n,free p.1 p.2 nch e n,ne,nf,d⟩
theorem Inv.un (I:Inv X pins σ H s)(u:Un X.fs [] H H' s.heap h')(hok:HOk X.prog X.w H' h'):Inv X pins σ H' {s with heap:=h',toks:=t'}:=by
 obtain⟨m,⟨o,es,ep,ho,r⟩,_⟩:=id I.loc;obtain⟨sl,hL⟩:=u.any ho I.free ae
 exact I.step (g':=s.gens) (d':=s.drawn) (ch:=[]) (λ_ z=>nomatch z) (λb o _ hb _ e n=>u.keep b o e n hb ae) (λb o _ hb _ e n=>u.slot b o e n hb ae) (λb o _ e n=>u.free b o e n ae) (λb o _ e=>u.there b o e ae) u.tups u.frzs u.tbls (λm' hm=>by
  obtain⟨o',es',ep',ho',r'⟩:=hm;rw[ho]at ho';cases ho';exact⟨_,es',ep',hL,r'⟩) hok I.bare
theorem Inv.call {g':Array GenState}{d':Drawn}(I:Inv X pins σ H s)(u:Un (frs X.stack) ch H H' s.heap h')(hok:HOk X.prog X.w H' h')(hg:AllBare g')
  (hch: ∀b∈ch,(b∈X.ex\/X.s₀.heap.objs.size<=b)/\b≠X.env.locals/\(∀x c,X.env.cells.lookup x=some c->c≠b)/\ ∀p∈X.pn++pins,p.1≠b) :
  Inv X pins σ H' {s with heap:=h',gens:=g',drawn:=d',toks:=t'}:=by
 obtain⟨m,⟨o,es,ep,ho,r⟩,_⟩:=id I.loc;obtain⟨sl,hL⟩:=u.any ho I.free λz=>(hch _ z).2.1 rfl
 exact I.step (ch:=ch) hch (λb o hL hb hc e n=>u.keep b o e n (λz=>(bE.mp<|I.stkSub b z).elim hL hb) hc) (λb o _ _ hc e n=>u.any e n hc) (λb o hc e n=>u.free b o e n hc) (λb o hc e=>u.there b o e hc) u.tups u.frzs u.tbls (λm' hm=>by
  obtain⟨o',es',ep',ho',r'⟩:=hm;rw[ho]at ho';cases ho';exact⟨_,es',ep',hL,r'⟩) hok hg
theorem Inv.turned (I:Inv X pins σ H s)(k: ∀b o,b≠it->s.heap.get? b=some o->h'.get? b=some o)(hn:H it=none)(hL:it≠X.env.locals)
  (h1:it∈X.ex\/X.s₀.heap.objs.size<=it) (h2: ∀x c,X.env.cells.lookup x=some c->c≠it) (h3: ∀p∈X.pn++pins,p.1≠it):Inv X pins σ H {s with heap:=h',toks:=t'}:=by
 have nit: ∀b u,H b=some u->b≠it:=λb u e z=>by rw[z,hn]at e;cases e
 refine I.step (g':=s.gens) (d':=s.drawn) (ch:=[it]) (λb hb=> ?_) (λb o _ _ hc e _=>k b o (λz=>hc (by simp[z])) e) (λb o _ _ hc e _=>⟨o.slots,k b o (λz=>hc (by simp[z])) e⟩) (λ_ _ _ _ n=>n)
  (λb o hc e=>⟨o,k b o (λz=>hc (by simp[z])) e⟩) (λ_ _ e=>e) (λ_ _ _ e=>e) (λb ps e=>⟨#[],by rw[e];simp⟩) (λm hm=> ?_) (λb u e=> ?_) I.bare
 .have e:b=it:=by simpa using hb
  subst e;exact⟨h1,hL,h2,h3⟩
 .obtain⟨o,es,ep,ho,r⟩:=hm;exact⟨o,es,ep,k _ o (Ne.symm hL) ho,r⟩
 .refine(I.hok b u e).stay (λc v hc q=>k c v ?_ q) (λ_ q=>q) λ_ _ q=>q
  rcases hc with z|z
  .rw[z];exact nit b u e
  .exact nit c _ z
theorem Inv.tok (I:Inv X pins σ H s)(t:Nat):Inv X pins σ H {s with toks:=t}:=I.un (h':=s.heap) (t':=t) Un.refl I.hok
theorem Inv.kept (I:Inv X pins σ H s)(k: ∀b u,s.heap.get? b=some u->h'.get? b=some u):Inv X pins σ H {s with heap:=h',toks:=t'}:=I.un (Un.kept k) (I.hok.kept k)
theorem Inv.laid {o:HO}(I:Inv X pins σ H s)(k: ∀b u,s.heap.get? b=some u->h'.get? b=some u)(hp:s.heap.objs.size<=a)(new:sI X.prog X.w (upd H a o) h' a o) :
  Inv X pins σ (upd H a o) {s with heap:=h',toks:=t'}:=I.un (Un.laid k hp<|I.hok.fresh hp) (I.hok.laid k hp new)
theorem Inv.write {x e:Addr}{o:HO}(I:Inv X pins σ H s)(mu:Mut (H x))(he:e=x\/H e=some (.own x))(k: ∀b u,b≠e->s.heap.get? b=some u->h'.get? b=some u)(heo: ∃u,h'.get? e=some u)
  (new:sI X.prog X.w (upd H x o) h' x o):Inv X pins σ (upd H x o) {s with heap:=h',toks:=t'}:=I.un (Un.write mu he k heo) (I.hok.write mu he k heo new)
theorem Inv.pins_of {pins':List (Addr×Obj)}(I:Inv X pins σ H s)(h: ∀p∈pins',s.heap.get? p.1=some p.2/\H p.1=none/\p.1≠X.env.locals/\p.1 ∉ X.fs/\ ∀v,p.2.data≠ .cell v):Inv X pins' σ H s:=
 ⟨I.ok,I.os,I.bare,I.base,I.loc,I.cell,I.free,I.freeC,λp hp=>(cP.mp hp).elim (λz=>I.pin p (uL _ z)) (h p),I.hok,I.len⟩
theorem c20 (hN:N.Nodup)(a:N[i]? =some x)(b:N[j]? =some x):i=j:=by
 obtain⟨h1,e1⟩:=l8.mp a;obtain⟨h2,e2⟩:=l8.mp b;exact(List.getElem_inj hN).mp (e1.trans e2.symm)
theorem cT1 {M:Model}{v:V}{Q:Unit->Shared->Prop}(I:Inv X pins σ H s)(hN:X.N.Nodup)(hi:X.N[i]? =some x)(hx:Loc X.env.scope x)(r:RelV v u)
  (h: ∀s',Inv X pins (σ.set i<|some v) H s'->(∃a,SameBut a s.heap s'.heap/\(a=X.env.locals\/X.env.cells.lookup x=some a))->Q () s') (hf:X.fn x=true\/X.env.scope.names.lookup x=some .local:=by walk_at "z"):wpAny M A (storeName X.env x u) Q E s:=by
 obtain⟨m,hn,hl⟩:=id I.loc;have hcls:(X.env.scope.kind== .class||(X.env.scope.kind== .module&&X.env.locals != X.env.globals))=false:=by rw[I.ok.kind];rfl
 have hiσ:i<σ.length:=by rw[I.len];exact(l8.mp hi).1
 have cne:=I.cne;have tracked: ∀{a:Addr} {h':Heap},(∃o,s.heap.get? a=some o/\H a=none)->SameBut a s.heap h'->HOk X.prog X.w H h':=λ{a h'} ha hs b ob e=>by
  obtain⟨_,_,hfree⟩:=ha;refine(I.hok b ob e).stay (λc w' hc q=>(hs.2 c ?_).trans q) (λ_ q=>q) λ_ _ q=>q
  rintro rfl;rcases hc with rfl|hc
  .rw[hfree]at e;cases e
  .rw[hfree]at hc;cases hc
 rcases hx with hk|hk
 .refine wpAny_storeName_local hk hn (λh' hn' hs=> ?_) hcls
  obtain⟨oL,_,_,hoL,_⟩:=id hn;refine h _ ⟨I.ok,I.os,I.bare,⟨λb o e n hb hx=> ?_,λb o e n hb hx=> ?_,I.base.free,λb o e hx=> ?_,I.base.tups,I.base.frzs,I.base.tbls⟩,⟨_,hn',λj y v' e1 e2 e3=> ?_⟩,λy c e=> ?_,I.free,I.freeC,λp hp=> ?_,tracked ⟨oL,hoL,I.free⟩ hs,by simpa using I.len⟩ ⟨_,hs,.inl rfl⟩
  .exact(hs.2 b<|bL<|bG (aY e) I.ok.above).trans (I.base.keep b o e n hb hx)
  .obtain⟨sl,e1⟩:=I.base.slot b o e n hb hx;exact⟨sl,(hs.2 b<|bL<|bG (aY e) I.ok.above).trans e1⟩
  .obtain⟨o',e1⟩:=I.base.there b o e hx;exact⟨o',(hs.2 b<|bL<|bG (aY e) I.ok.above).trans e1⟩
  .by_cases hj:j=i
   .subst hj;rw[hi]at e1;cases e1;rw[List.getElem?_set_self hiσ]at e2;cases e2;exact⟨u,r,.inl ⟨hk,ae⟩⟩
   .rw[List.getElem?_set_ne<|Ne.symm hj]at e2;obtain⟨u',r',q⟩:=hl j y v' e1 e2 e3;refine⟨u',r',?_⟩;rcases q with⟨k,e⟩| ⟨k,c,e,z⟩
    .refine .inl ⟨k,?_⟩
     have:y≠x:=λe=>hj (c20 hN e1<|e▸hi)
     simp[this,e]
    .exact .inr ⟨k,c,e,z.sameBut hs<|cne y c e⟩
  .obtain⟨w',z⟩:=I.cell y c e;exact⟨w',z.sameBut hs<|cne y c e⟩
  .obtain⟨e,n,ne,nf,d⟩:=I.pin p hp;exact⟨(hs.2 p.1 ne).trans e,n,ne,nf,d⟩
 .have hfn:X.fn x=true:=by
   rcases hf with z|z
   .exact z
   .rw[z]at hk;cases hk
  obtain⟨c,hc⟩:=I.ok.has x (.inl hk);obtain⟨w',z⟩:=I.cell x c hc;refine wpAny_storeName_cell I.ok.kind hk hc z (λh' hc' hs=> ?_)
  obtain⟨oc,hoc,hocd⟩:=id z;refine h {s with heap:=h'} ⟨I.ok,I.os,I.bare,⟨λb o e n hb hx=> ?_,λb o e n hb hx=> ?_,I.base.free,λb o e hx=> ?_,I.base.tups,I.base.frzs,I.base.tbls⟩,⟨m,hn.sameBut hs<|Ne.symm<|cne x c hc,λj y v' e1 e2 e3=> ?_⟩,λy c' e=> ?_,I.free,I.freeC,λp hp=> ?_,tracked ⟨oc,hoc,I.freeC x c hc⟩ hs,by simpa using I.len⟩ ⟨c,hs,.inr hc⟩
  .exact(hs.2 b<|bL<|bG (aY e)<|I.ok.cab x c hfn hc).trans (I.base.keep b o e n hb hx)
  .obtain⟨sl,e1⟩:=I.base.slot b o e n hb hx;exact⟨sl,(hs.2 b<|bL<|bG (aY e)<|I.ok.cab x c hfn hc).trans e1⟩
  .obtain⟨o',e1⟩:=I.base.there b o e hx;exact⟨o',(hs.2 b<|bL<|bG (aY e)<|I.ok.cab x c hfn hc).trans e1⟩
  .by_cases hj:j=i
   .subst hj;rw[hi]at e1;cases e1;rw[List.getElem?_set_self hiσ]at e2;cases e2;exact⟨u,r,.inr ⟨.inl hk,c,hc,hc'⟩⟩
   .rw[List.getElem?_set_ne<|Ne.symm hj]at e2;obtain⟨u',r',q⟩:=hl j y v' e1 e2 e3;refine⟨u',r',?_⟩;rcases q with q| ⟨k,c',e,z'⟩
    .exact .inl q
    .refine .inr ⟨k,c',e,z'.sameBut hs ?_⟩
     rintro rfl;exact hj (c20 hN e1<|I.ok.inj _ _ _ e hc▸hi)
  .by_cases hcc:c'=c
   .subst hcc;exact⟨_,hc'⟩
   .obtain⟨w2,z2⟩:=I.cell y c' e;exact⟨w2,z2.sameBut hs hcc⟩
  .obtain⟨e,n,ne,nf,d⟩:=I.pin p hp;refine⟨(hs.2 p.1 ?_).trans e,n,ne,nf,d⟩;intro q;rw[q,hoc]at e;have q':oc=p.2:=gL e;exact d w' (by rw[<-q'];exact hocd)
theorem yL {M:Model}{v:V}{Q:Unit->Shared->Prop}(I:Inv X pins σ H s)(hN:X.N.Nodup)(hi:X.N[i]? =some x)(hx:Loc X.env.scope x)(r:RelV v u)
  (h: ∀s',Inv X pins (σ.set i<|some v) H s'->Q () s') (hf:X.fn x=true\/X.env.scope.names.lookup x=some .local:=by walk_at "z"):wpAny M A (storeName X.env x u) Q E s:=
 cT1 I hN hi hx r (λs' I' _=>h s' I') hf
theorem Inv.call' (I:Inv X pins σ H s)(ho:s'.os=s.os)(u:Un (frs X.stack) ch H H' s.heap s'.heap)(hok:HOk X.prog X.w H' s'.heap)(hg:AllBare s'.gens)
  (hch: ∀b∈ch,(b∈X.ex\/X.s₀.heap.objs.size<=b)/\b≠X.env.locals/\(∀x c,X.env.cells.lookup x=some c->c≠b)/\ ∀p∈X.pn++pins,p.1≠b):Inv X pins σ H' s':=by
 obtain⟨h',g',d',t',o'⟩:=s';have e:o'=s.os:=ho;subst e;exact I.call (g':=g') (t':=t') (d':=d') u hok hg hch
end
abbrev XK:=Value->Option Addr->Hp->Prop
abbrev St:=List (Option V)
abbrev VK:=V->Hp->Prop
abbrev TE:=St->Hp->VK->Prop
abbrev TT:=St->Hp->(Bool->Hp->Prop)->Prop
abbrev TA:=St->Hp->(List V->Hp->Prop)->Prop
structure bK4 where
 nx:St->Hp->Prop
 rt:VK
 bk:St->Hp->Prop:=λ_ _=>False
 ct:St->Hp->Prop:=λ_ _=>False
abbrev TS:=bK4->St->Hp->Prop
def EP (X:Cx)(pins:List (Addr×Obj))(σ:St)(Q:VK)(u:Value)(s':Shared):Prop:= ∃v H',Inv X pins σ H' s'/\RelV v u/\Q v H'
def TP (X:Cx)(pins:List (Addr×Obj))(σ:St)(Q:Bool->Hp->Prop)(b:Bool)(s':Shared):Prop:= ∃H',Inv X pins σ H' s'/\Q b H'
def AP (X:Cx)(pins:List (Addr×Obj))(σ:St)(Q:List V->Hp->Prop)(us:List Value)(s':Shared):Prop:= ∃vs H',Inv X pins σ H' s'/\Vals vs us/\Q vs H'
def SP (X:Cx)(pins:List (Addr×Obj))(D:bK4)(f:Flow)(s':Shared):Prop:=
 match f with
 | .next=> ∃σ' H',Inv X pins σ' H' s'/\D.nx σ' H'
 | .brk=> ∃σ' H',Inv X pins σ' H' s'/\D.bk σ' H'
 | .cont=> ∃σ' H',Inv X pins σ' H' s'/\D.ct σ' H'
 | .ret u=> ∃v σ' H',Inv X pins σ' H' s'/\RelV v u/\D.rt v H'
def PE (X:Cx)(e:Expr)(t:TE):Prop:=
 ∀(pins:List (Addr×Obj)) (s:Shared) (σ:St) (H:Hp) (Q:VK),Inv X pins σ H s->t σ H Q->wpAny (model X.prog X.w) X.A (eval e X.env) (EP X pins σ Q) X.xe s
def PT (X:Cx)(e:Expr)(t:TT):Prop:=
 ∀(pins:List (Addr×Obj)) (s:Shared) (σ:St) (H:Hp) (Q:Bool->Hp->Prop),Inv X pins σ H s->t σ H Q->wpAny (model X.prog X.w) X.A (isTrue e X.env<|eval e X.env) (TP X pins σ Q) X.xe s
def PW (X:Cx)(e:Expr)(t:TT):Prop:=
 ∀(whole:Sem Value) (pins:List (Addr×Obj)) (s:Shared) (σ:St) (H:Hp) (Q:Bool->Hp->Prop),Inv X pins σ H s->t σ H Q->wpAny (model X.prog X.w) X.A (isTrue e X.env whole) (TP X pins σ Q) X.xe s
theorem PW.pt {X:Cx}{t:TT}(h:PW X e t):PT X e t:=h _
def PA (X:Cx)(es:List Expr)(t:TA):Prop:=
 ∀(pos:Pos) (pins:List (Addr×Obj)) (s:Shared) (σ:St) (H:Hp) (Q:List V->Hp->Prop),Inv X pins σ H s->t σ H Q->wpAny (model X.prog X.w) X.A (spliced<|backTo pos<|starEach es X.env) (AP X pins σ Q) X.xe s
def PS (X:Cx)(st:Stmt)(t:TS):Prop:=
 ∀(pins:List (Addr×Obj)) (s:Shared) (σ:St) (H:Hp) (D:bK4),Inv X pins σ H s->t D σ H->wpAny (model X.prog X.w) X.A (exec st X.env) (SP X pins D) X.xe s
def PSs (X:Cx)(st:List Stmt)(t:TS):Prop:=
 ∀(pins:List (Addr×Obj)) (s:Shared) (σ:St) (H:Hp) (D:bK4),Inv X pins σ H s->t D σ H->wpAny (model X.prog X.w) X.A (execs st X.env) (SP X pins D) X.xe s
theorem thn {t:Sem α}{Q Q':α->Shared->Prop}{M:Model}(h:wpAny M A t Q E s)(hQ: ∀a s,Q a s->Q' a s):wpAny M A t Q' E s:=bF h hQ λ_ _ x=>x
section
variable {X:Cx}
def aP6 (i:Nat):TE:=λσ H Q=> ∃v,σ[i]? =some (some v)/\Q v H
def tC (v:V):TE:=λ_ H Q=>Q v H
theorem pe_var (hN:X.N[i]? =some x)(hv:Vis X.env.scope x)(hd:⇑((x==("__debug__":Str))=false))(hcd:⇑((x==("__classdict__":Str))=false)):PE X (.Name x pos) (aP6 i):=by
 intro pins s σ H Q I h;obtain⟨v,e,h⟩:=h;obtain⟨m,hn,hl⟩:=I.loc;obtain⟨u,r,l⟩:=hl i x v hN e hv;have fin:EP X pins σ Q u s:=⟨v,H,I,r,h⟩;rcases l with⟨hk,hm⟩| ⟨hk,c,hc,hcell⟩
 .exact oJ (qN I.ok.kind hk hn hm fin) hd
 .rcases hk with hk|hk
  .exact oJ (wpAny_loadName_cell I.ok.kind hk hc hcell fin) hd
  .exact oJ (wpAny_loadName_free I.ok.kind hk hc hcell fin hcd) hd
theorem pe_int {i j pos}:PE X (.Constant (.int i) j pos) (tC<|.int i):=λ_ _ _ H _ I h=>wpAny_Constant_int ⟨.int i,H,I.tok _,⟨_,rfl⟩,h⟩
theorem pe_bl {b j pos}:PE X (.Constant (.bool b) j pos) (tC<|.bl b):=λ_ _ _ H _ I h=>Constant_bool ⟨.bl b,H,I,rfl,h⟩
theorem pe_non {j pos}:PE X (.Constant .none j pos) (tC .non):=λ_ _ _ H _ I h=>Constant_none ⟨.non,H,I,rfl,h⟩
theorem pe_str {x j pos}:PE X (.Constant (.str x) j pos) (tC<|.str x):=λ_ _ _ H _ I h=>Calls.Constant_str ⟨.str x,H,I.tok _,⟨_,rfl⟩,h⟩
def Gl (X:Cx)(x:Str):Prop:=X.env.kindOf x=some .globalImplicit
theorem wJ {σ:St}{H:Hp}(I:Inv X pins σ H s)(hg:Gl X x)(hm:X.mg x=some u)(h:Q u s)
  (hd:⇑((x==("__debug__":Str))=false)):wpAny (model X.prog X.w) X.A (eval (.Name x pos) X.env) Q E s:=
 Calls.Name_function_global I.ok.kind hg (Calls.loadGlobal_global (by rw[I.ok.glob];exact I.mod.glob.keeps I.bk) hm h) hd
theorem v8 {σ:St}{H:Hp}(I:Inv X pins σ H s)(hg:Gl X x)(hm:X.mg x=none)(hv:bootBuiltins x=some u)(h:Q u s)
  (hn:⇑(x≠"__name__")) (hd:⇑((x==("__debug__":Str))=false)):wpAny (model X.prog X.w) X.A (eval (.Name x pos) X.env) Q E s:=by
 obtain⟨mb,h1,h2⟩:=I.mod.blt;exact Calls.Name_function_global I.ok.kind hg (Calls.loadGlobal_builtin (by rw[I.ok.glob];exact I.mod.glob.keeps I.bk) hm (by rw[I.ok.blt];exact h1.keeps I.bk) ((h2 x hn).trans hv) h) hd
theorem cM0 {v:V}(hg:Gl X x)(hm:X.mg x=some u)(r:RelV v u)(hd:⇑((x==("__debug__":Str))=false)):PE X (.Name x pos) (tC v):=
 λ_ _ _ H _ I h=>wJ I hg hm ⟨v,H,I,r,h⟩ hd
theorem dH9 {v:V}(hg:Gl X x)(hm:X.mg x=none)(hv:bootBuiltins x=some u)(r:RelV v u)(hn:⇑(x≠"__name__"))(hd:⇑((x==("__debug__":Str))=false)):PE X (.Name x pos) (tC v):=
 λ_ _ _ H _ I h=>v8 I hg hm hv ⟨v,H,I,r,h⟩ hn hd
variable {a b:Expr}{ta tb:TE}{pos:Pos}
def PC (X:Cx)(op:CmpOp)(a b:Expr)(t:TE):Prop:=
 ∀(pins:List (Addr×Obj)) (s:Shared) (σ:St) (H:Hp) (Q:VK),Inv X pins σ H s->t σ H Q->
  wpAny (model X.prog X.w) X.A (eval a X.env) (λv s₁=>wpAny (model X.prog X.w) X.A (eval b X.env) (λu s₂=>wpAny (model X.prog X.w) X.A (compareOp op v u) (EP X pins σ Q) X.xe s₂) X.xe s₁) X.xe s
theorem d04 (b:Expr)(h:op≠ .In)(h2:op≠ .NotIn):behindInMarks op b=false:=by
 have e1:(op==CmpOp.In)=false:=by cases op<;>first|rfl|exact absurd rfl h
 have e2:(op==CmpOp.NotIn)=false:=by cases op<;>first|rfl|exact absurd rfl h2
 cases b<;>simp[behindInMarks,e1,e2]
def tIsN (ta:TE):TE:=λσ H Q=>ta σ H λx H1=>Q (.bl<|decide (x= .non)) H1
def dT9 (ta:TE):TE:=λσ H Q=>ta σ H λx H1=>Q (.bl<|!decide (x= .non)) H1
theorem RelV.none_iff {x:V}(r:RelV x v):(v==Value.none)=decide (x= .non):=by
 cases x with
 | non=>cases r;rfl
 | bl _=>cases r;rfl
 | int _=>obtain⟨t,rfl⟩:=r;rfl
 | str _=>obtain⟨t,rfl⟩:=r;rfl
 | byt _=>obtain⟨t,rfl⟩:=r;rfl
 | flt _=>obtain⟨t,rfl⟩:=r;rfl
 | ref _=>cases r;rfl
 | ty _=>cases r;rfl
theorem pc_isN {j pos'}(ha:PE X a ta):PC X .Is a (.Constant .none j pos') (tIsN ta):=by
 intro pins s σ H Q I h;refine thn (ha pins s σ H _ I h) λv s1 ⟨x,H1,I1,r1,q1⟩=> ?_
 exact Constant_none (is_none_gen ⟨.bl _,H1,I1,by rw[r1.none_iff];rfl,q1⟩)
theorem dI0 {j pos'}(ha:PE X a ta):PC X .IsNot a (.Constant .none j pos') (dT9 ta):=by
 intro pins s σ H Q I h;refine thn (ha pins s σ H _ I h) λv s1 ⟨x,H1,I1,r1,q1⟩=> ?_
 exact Constant_none (isnot_none_gen ⟨.bl _,H1,I1,by rw[r1.none_iff];rfl,q1⟩)
def tB (t:TE):TT:=λσ H Q=>t σ H λx H1=> ∃c,x= .bl c/\Q c H1
theorem d05 {t:TE}(h:PC X op a b t)(h1:behindInMarks op b=false:=by first|exact d04 _ ac ac|rfl):PT X (.Compare a [op] [b] pos) (tB t):=by
 intro pins s σ H Q I hw;refine wpAny_isTrue_Compare1 (thn (h pins s σ H _ I hw) λv s1 h1=>thn h1 λu s2 h2=>thn h2 λc s3 ⟨x,H1,I1,r1,q1⟩=> ?_) h1
 obtain⟨d,rfl,q⟩:=q1;cases r1;exact qW ⟨H1,I1,q⟩
theorem pt_val {t:TE}(h:PE X e t)(he: ∀whole,isTrue e X.env whole=(do let v<-whole;standAt e.pos;holding [v] (truthy v)):=by intro _;rfl):PT X e (tB t):=by
 intro pins s σ H Q I hw;refine isTrue_plain (thn (h pins s σ H _ I hw) λv s1 ⟨x,H1,I1,r1,q1⟩=> ?_) (he _)
 obtain⟨d,rfl,q⟩:=q1;cases r1;exact qW ⟨H1,I1,q⟩
variable {tA tB':TT}{iW:List Expr}
def tAnd (t u:TT):TT:=λσ H Q=>t σ H λc H1=>if c=true then u σ H1 Q else Q false H1
def tOr (t u:TT):TT:=λσ H Q=>t σ H λc H1=>if c=true then Q true H1 else u σ H1 Q
def tNot (t:TT):TT:=λσ H Q=>t σ H λc H1=>Q (!c) H1
theorem dI1 (ha:PT X a tA):PW X (.BoolOp .And [a] pos) tA:=by
 intro wh pins s σ H Q I h;refine isTrue_and (thn (ha pins s σ H Q I h) λc s1 e=> ?_)
 cases c with
 | true=>exact isTrue_and_nil e
 | false=>exact e
theorem pw_or1 (ha:PT X a tA):PW X (.BoolOp .Or [a] pos) tA:=by
 intro wh pins s σ H Q I h;refine isTrue_or (thn (ha pins s σ H Q I h) λc s1 e=> ?_)
 cases c with
 | false=>exact isTrue_or_nil e
 | true=>exact e
theorem pw_and (ha:PT X a tA)(hb:PW X (.BoolOp .And (b::iW) pos) tB'):PW X (.BoolOp .And (a::b::iW) pos) (tAnd tA tB'):=by
 intro wh pins s σ H Q I h;refine isTrue_and (thn (ha pins s σ H _ I h) λc s1 ⟨H1,I1,q1⟩=> ?_)
 cases c with
 | true=>exact hb wh pins s1 σ H1 Q I1 q1
 | false=>exact⟨H1,I1,q1⟩
theorem pw_or (ha:PT X a tA)(hb:PW X (.BoolOp .Or (b::iW) pos) tB'):PW X (.BoolOp .Or (a::b::iW) pos) (tOr tA tB'):=by
 intro wh pins s σ H Q I h;refine isTrue_or (thn (ha pins s σ H _ I h) λc s1 ⟨H1,I1,q1⟩=> ?_)
 cases c with
 | true=>exact⟨H1,I1,q1⟩
 | false=>exact hb wh pins s1 σ H1 Q I1 q1
theorem pt_not (ha:PT X a tA):PT X (.UnaryOp .Not a pos) (tNot tA):=by
 intro pins s σ H Q I h;exact isTrue_not (ha pins s σ H (λc H1=>Q (!c) H1) I h)
def tAndV (ta tb:TE):TE:=λσ H Q=>ta σ H λx H1=> ∃c,x= .bl c/\if c=true then tb σ H1 Q else Q (.bl false) H1
def tNotV (ta:TE):TE:=λσ H Q=>ta σ H λx H1=> ∃c,x= .bl c/\Q (.bl<|!c) H1
theorem pe_one {op}{t:TE}(h:PE X a t):PE X (.BoolOp op [a] pos) t:=λpins s σ H Q I hw=>BoolOp_one (h pins s σ H Q I hw)
theorem pe_and (ha:PE X a ta)(hb:PE X (.BoolOp .And (b::iW) pos) tb):PE X (.BoolOp .And (a::b::iW) pos) (tAndV ta tb):=by
 intro pins s σ H Q I h;refine BoolOp_and (thn (ha pins s σ H _ I h) λv s1 ⟨x,H1,I1,r1,q1⟩=> ?_)
 obtain⟨c,rfl,q1⟩:=q1;cases r1;refine qW ?_;cases c with
 | true=>exact hb pins s1 σ H1 Q I1 q1
 | false=>exact⟨.bl false,H1,I1,rfl,q1⟩
theorem pe_not (ha:PE X a ta):PE X (.UnaryOp .Not a pos) (tNotV ta):=by
 intro pins s σ H Q I h;refine UnaryOp_ (thn (ha pins s σ H _ I h) λv s1 ⟨x,H1,I1,r1,q1⟩=> ?_)
 obtain⟨c,rfl,q1⟩:=q1;cases r1;exact not_of (qW ⟨.bl<|!c,H1,I1,rfl,q1⟩)
def tIf (t:TT)(ta tb:TE):TE:=λσ H Q=>t σ H λc H1=>if c=true then ta σ H1 Q else tb σ H1 Q
theorem d06 (hc:PT X c tA)(ha:PE X a ta)(hb:PE X b tb):PE X (.IfExp c a b pos) (tIf tA ta tb):=by
 intro pins s σ H Q I h;refine wpAny_IfExp (thn (hc pins s σ H _ I h) λd s1 ⟨H1,I1,q1⟩=> ?_)
 cases d with
 | true=>exact ha pins s1 σ H1 Q I1 q1
 | false=>exact hb pins s1 σ H1 Q I1 q1
end
def SqL (K:Frag)(H:Hp)(a:Addr)(xs:List V):Prop:=
 Rd H a (.lst xs)\/
  ∃(o:Obj) (its:Array Value) (n:Nat),K.lookup a=some o/\o.cls= .type "list"/\o.dict=none/\o.data= .seq its n/\its.size<=sizeLine/\Vals xs its.toList
def SqT (K:Frag)(H:Hp)(a:Addr)(xs:List V):Prop:=
 Rd H a (.tup xs)\/
  ∃(o:Obj) (its:Array Value) (n:Nat),K.lookup a=some o/\o.cls= .type "tuple"/\o.data= .seq its n/\its.size<=sizeLine/\Vals xs its.toList
noncomputable def absV:Value->Option V
 | .none=>some .non
 | .bool b=>some (.bl b)
 | .int i _=>some (.int i)
 | .str x _=>some (.str x)
 | .bytes b _=>some (.byt b)
 | .float b _=>some (.flt b)
 | .ref a=>some (.ref a)
 | .type n=>some (.ty n)
 | _=>none
theorem RelV.abs {x:V}(r:RelV x u):absV u=some x:=by
 cases x with
 | non=>cases r;rfl
 | bl _=>cases r;rfl
 | int _=>obtain⟨t,rfl⟩:=r;rfl
 | str _=>obtain⟨t,rfl⟩:=r;rfl
 | byt _=>obtain⟨t,rfl⟩:=r;rfl
 | flt _=>obtain⟨t,rfl⟩:=r;rfl
 | ref _=>cases r;rfl
 | ty _=>cases r;rfl
theorem RelV.inj {x y:V}(r:RelV x u)(q:RelV y u):x=y:=gL (r.abs.symm.trans q.abs)
theorem Vals.inj: ∀{xs ys:List V} {us:List Value},Vals xs us->Vals ys us->xs=ys
 | _,_,_,.nil,.nil=>rfl
 | _,_,_,.cons r t,.cons r' t'=>by rw[r.inj r',Vals.inj t t']
section
variable {X:Cx}{pins:List (Addr×Obj)}{σ:St}{H:Hp}{s:Shared}{a:Addr}{xs ys:List V}
theorem SqL.of (h:H a=some (.lst xs)):SqL K H a xs:= .inl (.inl h)
theorem Inv.list (I:Inv X pins σ H s)(h:SqL X.K H a xs): ∃its:List Value,Vals xs its/\PlainL s.heap a its.toArray/\xs.length<=sizeLine:=by
 rcases h with h| ⟨o,its,n,hk,hc,hd,hs,hz,r⟩
 .obtain⟨z,its,n,r,e⟩:=h.ok I.hok;exact⟨its,r,⟨_,n,e,rfl,rfl,rfl⟩,z⟩
 .refine⟨its.toList,r,⟨o,n,I.kIn a o hk,hc,hd,by simpa using hs⟩,?_⟩
  have e:=r.length;simp only[aN5]at e
  lia
theorem Inv.tuple (I:Inv X pins σ H s)(h:SqT X.K H a xs): ∃its:List Value,Vals xs its/\IsTup s.heap a its.toArray/\xs.length<=sizeLine:=by
 rcases h with h| ⟨o,its,n,hk,hc,hs,hz,r⟩
 .obtain⟨z,its,r,p⟩:=h.ok I.hok;exact⟨its,r,p,z⟩
 .refine⟨its.toList,r,⟨o,I.kIn a o hk,hc,n,by simpa using hs⟩,?_⟩
  have e:=r.length;simp only[aN5]at e
  lia
theorem Inv.list_inj (I:Inv X pins σ H s)(h:SqL X.K H a xs)(h':SqL X.K H a ys):xs=ys:=by
 obtain⟨its,r,⟨o,n,e,_,_,d⟩,_⟩:=I.list h;obtain⟨its',r',⟨o',n',e',_,_,d'⟩,_⟩:=I.list h';rw[e]at e';cases e';rw[d]at d'
 injection d' with d1 _
 have:its=its':=by simpa using cT toList d1
 subst this;exact r.inj r'
theorem Inv.tuple_inj (I:Inv X pins σ H s)(h:SqT X.K H a xs)(h':SqT X.K H a ys):xs=ys:=by
 obtain⟨its,r,⟨o,e,_,n,d⟩,_⟩:=I.tuple h;obtain⟨its',r',⟨o',e',_,n',d'⟩,_⟩:=I.tuple h';rw[e]at e';cases e';rw[d]at d'
 injection d' with d1 _
 have:its=its':=by simpa using cT toList d1
 subst this;exact r.inj r'
end
noncomputable abbrev Cx.wish (X:Cx)(E:Value->Shared->Prop):Cx:={X with xe:=E}
noncomputable abbrev Cx.nox (X:Cx):Cx:=X.wish λ_ _=>False
theorem Cx.Ok.wish {X:Cx}(ok:X.Ok)(E:Value->Shared->Prop):(X.wish E).Ok:=
 ⟨ok.mod,ok.kind,ok.glob,ok.blt,ok.above,ok.inj,ok.has,ok.cab,ok.hd,ok.frames,ok.stk,ok.exf,ok.bs,ok.bsz,ok.noex,ok.exfs,ok.funs,ok.frf⟩
theorem Cx.Ok.unwish {X:Cx}(ok:(X.wish E).Ok):X.Ok:=
 ⟨ok.mod,ok.kind,ok.glob,ok.blt,ok.above,ok.inj,ok.has,ok.cab,ok.hd,ok.frames,ok.stk,ok.exf,ok.bs,ok.bsz,ok.noex,ok.exfs,ok.funs,ok.frf⟩
section
variable {X:Cx}{pins:List (Addr×Obj)}{σ:St}{H:Hp}{s:Shared}{E:Value->Shared->Prop}
theorem Inv.wish (I:Inv X pins σ H s)(E:Value->Shared->Prop):Inv (X.wish E) pins σ H s:=⟨I.ok.wish E,I.os,I.bare,I.base,I.loc,I.cell,I.free,I.freeC,I.pin,I.hok,I.len⟩
theorem Inv.unwish (I:Inv (X.wish E) pins σ H s):Inv X pins σ H s:=⟨I.ok.unwish,I.os,I.bare,I.base,I.loc,I.cell,I.free,I.freeC,I.pin,I.hok,I.len⟩
theorem SP.unwish {D:bK4}{f:Flow}(h:SP (X.wish E) pins D f s'):SP X pins D f s':=by
 cases f with
 | next=>obtain⟨σ',H',I,q⟩:=h;exact⟨σ',H',I.unwish,q⟩
 | brk=>obtain⟨σ',H',I,q⟩:=h;exact⟨σ',H',I.unwish,q⟩
 | cont=>obtain⟨σ',H',I,q⟩:=h;exact⟨σ',H',I.unwish,q⟩
 | ret u=>obtain⟨v,σ',H',I,r,q⟩:=h;exact⟨v,σ',H',I.unwish,r,q⟩
theorem PSs.nox {st:List Stmt}{t:TS}(h:PSs X.nox st t):PSs X st t:=λpins s σ H D I hw=>
 bF (h pins s σ H D (I.wish _) hw) (λ_ _ q=>q.unwish) λ_ _ z=>False.elim z
end
section
variable {X:Cx}{st:Stmt}{iW:List Stmt}{t u:TS}{e:Expr}{te:TE}{pos:Pos}
def tNext:TS:=λD σ H=>D.nx σ H
def tSeq (t u:TS):TS:=λD σ H=>t {D with nx:=u D} σ H
theorem dI2:PSs X [] tNext:=λ_ _ σ H _ I h=>nZ ⟨σ,H,I,h⟩
theorem yM (h1:PS X st t)(h2:PSs X iW u):PSs X (st::iW) (tSeq t u):=by
 intro pins s σ H D I h;refine uT (thn (h1 pins s σ H {D with nx:=u D} I h) λf s1 q=> ?_)
 cases f with
 | next=>
  obtain⟨σ',H',I',q⟩:=q;exact h2 pins s1 σ' H' D I' q
 | ret v=>exact q
 | brk=>exact q
 | cont=>exact q
theorem bT5 (h1:PS X st t):PSs X [st] t:=by
 intro pins s σ H D I h;refine uT (thn (h1 pins s σ H D I h) λf s1 q=> ?_)
 cases f with
 | next=>exact nZ q
 | ret v=>exact q
 | brk=>exact q
 | cont=>exact q
theorem Inv.quiet {σ:St}{H:Hp}(I:Inv X pins σ H s):interactive X.env=false:=by simp[interactive,I.ok.kind]
def tDrop (te:TE):TS:=λD σ H=>te σ H λ_ H1=>D.nx σ H1
theorem bT6 (he:PE X e te)(hs:↥(swapsWith e none pos.line X.env=pure false)):PS X (.Expr e pos) (tDrop te):=by
 intro pins s σ H D I h;exact wpAny_Expr_any (thn (he pins s σ H _ I h) λv s1 ⟨x,H1,I1,r1,q1⟩=>⟨σ,H1,I1,q1⟩) I.quiet hs
def tRet (te:TE):TS:=λD σ H=>te σ H D.rt
theorem d07 (he:PE X e te):PS X (.Return (some e) pos) (tRet te):=by
 intro pins s σ H D I h;exact wpAny_Return_some (thn (he pins s σ H _ I h) λv s1 ⟨x,H1,I1,r1,q1⟩=>⟨x,σ,H1,I1,r1,q1⟩)
def tIfS (c:TT)(t u:TS):TS:=λD σ H=>c σ H λb H1=>if b=true then t D σ H1 else u D σ H1
theorem dU0 {a b:List Stmt}{tc:TT}(hc:PT X c tc)(ha:PSs X a t)(hb:PSs X b u):PS X (.If c a b pos) (tIfS tc t u):=by
 intro pins s σ H D I h;refine wpAny_If (thn (hc pins s σ H _ I h) λd s1 ⟨H1,I1,q1⟩=> ?_)
 cases d with
 | true=>exact ha pins s1 σ H1 D I1 q1
 | false=>exact hb pins s1 σ H1 D I1 q1
def tNever:TS:=λ_ _ _=>False
theorem d08:PS X st tNever:=λ_ _ _ _ _ _ h=>h.elim
end
abbrev TG:=V->St->Hp->(St->Hp->Prop)->Prop
abbrev TGs:=List V->St->Hp->(St->Hp->Prop)->Prop
def PG (X:Cx)(target:Expr)(t:TG):Prop:=
 ∀(pins:List (Addr×Obj)) (s:Shared) (σ:St) (H:Hp) (v:V) (u:Value) (Q:St->Hp->Prop),Inv X pins σ H s->RelV v u->t v σ H Q->
  wpAny (model X.prog X.w) X.A (assign target X.env u) (λ_ s'=> ∃σ' H',Inv X pins σ' H' s'/\Q σ' H') X.xe s
def PGs (X:Cx)(ts:List Expr)(t:TGs):Prop:=
 ∀(pins:List (Addr×Obj)) (s:Shared) (σ:St) (H:Hp) (vs:List V) (us:List Value) (Q:St->Hp->Prop),Inv X pins σ H s->Vals vs us->t vs σ H Q->
  wpAny (model X.prog X.w) X.A (assignInOrder ((assignEach ts X.env).map (·.2)) us) (λ_ s'=> ∃σ' H',Inv X pins σ' H' s'/\Q σ' H') X.xe s
abbrev d09:=V->V->V->Hp->(Hp->Prop)->Prop
def PSet (X:Cx)(t:d09):Prop:=
 ∀(pins:List (Addr×Obj)) (s:Shared) (σ:St) (H:Hp) (o i v:V) (ov iv u:Value) (Q:Hp->Prop),Inv X pins σ H s->RelV o ov->RelV i iv->RelV v u->t o i v H Q->
  wpAny (model X.prog X.w) X.A (setItem ov iv u) (λ_ s'=> ∃H',Inv X pins σ H' s'/\Q H') X.xe s
abbrev TIp:=V->V->Hp->VK->Prop
def PIp (X:Cx)(op:Operator)(t:TIp):Prop:=
 ∀(pins:List (Addr×Obj)) (s:Shared) (σ:St) (H:Hp) (x y:V) (v u:Value) (Q:VK),Inv X pins σ H s->RelV x v->RelV y u->t x y H Q->
  wpAny (model X.prog X.w) X.A (inplaceOp op v u) (EP X pins σ Q) X.xe s
section
variable {X:Cx}{pos:Pos}
def a67 (i:Nat):TG:=λv σ H Q=>Q (σ.set i<|some v) H
theorem cM (hN:X.N.Nodup)(hi:X.N[i]? =some x)(hx:Loc X.env.scope x)(hf:X.fn x=true\/X.env.scope.names.lookup x=some .local:=by walk_at "z"):PG X (.Name x pos) (a67 i):=by
 intro pins s σ H v u Q I r h;exact wpAny_assign_Name (yL I hN hi hx r (λs' I'=>⟨_,H,I',h⟩) hf)
def gNil:TGs:=λvs σ H Q=>vs=[]/\Q σ H
def gCons (t:TG)(u:TGs):TGs:=λvs σ H Q=> ∃v r,vs=v::r/\t v σ H λσ' H'=>u r σ' H' Q
theorem dI3:PGs X [] gNil:=by
 intro pins s σ H vs us Q I r h;obtain⟨e,h⟩:=h;subst e;cases r;exact assignInOrder_nil ⟨σ,H,I,h⟩
theorem d10 {e:Expr}{es:List Expr}{t:TG}{u:TGs}(h1:PG X e t)(h2:PGs X es u)
  (hs:↥((assignEach (e::es) X.env).map (·.2)=assign e X.env::(assignEach es X.env).map (·.2))):PGs X (e::es) (gCons t u):=by
 intro pins s σ H vs us Q I r h;obtain⟨v,vr,e1,h⟩:=h;subst e1;cases r with
 | cons r rr=>
  rw[hs];refine aN7 (thn (h1 pins s σ H _ _ _ I r h) λ_ s1 ⟨σ1,H1,I1,q1⟩=> ?_)
  exact h2 pins s1 σ1 H1 _ _ Q I1 rr q1
def gTup (K:Frag)(n:Nat)(t:TGs):TG:=λv σ H Q=> ∃a xs,v= .ref a/\SqT K H a xs/\xs.length=n/\t xs σ H Q
theorem pg_tup {t:TGs}(hc:X.calm=true)(h:PGs X es t)
  (hn:↥((assignEach es X.env).length=n)) (hst:↥((assignEach es X.env).findIdx? (·.1)=none)):PG X (.Tuple es k pos) (gTup X.K n t):=by
 intro pins s σ H v u Q I r hw;obtain⟨a,xs,e1,hq,hl,hw⟩:=hw;subst e1;cases r;obtain⟨its,rv,ht,hz⟩:=I.tuple hq;refine assign_Tuple_tuple (I.ok.hd hc) ht (by simp[hn,<-hl,rv.length]) hst λh' hx=> ?_
 have I1:Inv X pins σ H {s with heap:=h'}:=I.kept (t':=s.toks) λb o e=>hx b o (bL<|aY e) e
 exact h pins _ σ H xs _ Q I1 (by simpa using rv) hw
def gSub (to ti:TE)(t:d09):TG:=λv σ H Q=>to σ H λo H1=>ti σ H1 λi H2=>t o i v H2 λH3=>Q σ H3
theorem pg_sub {o i:Expr}{to ti:TE}{t:d09}(ho:PE X o to)(hi:PE X i ti)(hs:PSet X t)
  (ha: ∀v,assign (.Subscript o i pos) X.env v=(do
   let ov<-holding [v] (eval o X.env)
   let iv<-holding [v,ov] (eval i X.env)
   standAt pos
   holding [v,ov,iv] (setItem ov iv v)
   release [v,ov,iv] []):=by intro _;rfl):PG X (.Subscript o i pos) (gSub to ti t):=by
 intro pins s σ H v u Q I r h;rw[ha];refine aB (iK<|thn (ho pins s σ H _ I h) λov s1 ⟨x,H1,I1,r1,q1⟩=> ?_)
 refine aB (iK<|thn (hi pins s1 σ H1 _ I1 q1) λiv s2 ⟨y,H2,I2,r2,q2⟩=> ?_)
 refine aB (kI<|aB<|iK<|thn (hs pins s2 σ H2 x y v ov iv u _ I2 r1 r2 r q2) λ_ s3 ⟨H3,I3,q3⟩=> ?_)
 exact wpAny_release ⟨σ,H3,I3,q3⟩
def dI4 (te:TE)(g:TG):TS:=λD σ H=>te σ H λx H1=>g x σ H1 D.nx
theorem d11 {te:TE}{g:TG}(he:PE X e te)(hg:PG X tg g)(hs:↥(swapsWithSole [tg] e pos.line X.env=pure false))(hw:↥(swappedStores [tg] e X.env=pure none))
  (h1:↥((assignEach [tg] X.env).map (·.2)=[assign tg X.env])):PS X (.Assign [tg] e pos) (dI4 te g):=by
 intro pins s σ H D I h;refine wpAny_Assign_stores (thn (he pins s σ H _ I h) λv s1 ⟨x,H1,I1,r1,q1⟩=> ?_) hs hw
 rw[h1];exact thn (hg pins s1 σ H1 x v _ I1 r1 q1) λ_ s2 q=>q
theorem ps_set {te:TE}(hN:X.N.Nodup)(hi:X.N[i]? =some x)(hx:Loc X.env.scope x)(he:PE X e te)(hs:↥(swapsWith e (some<|.Name x pos') pos.line X.env=pure false))(hf:X.fn x=true\/X.env.scope.names.lookup x=some .local:=by walk_at "z") :
  PS X (.Assign [.Name x pos'] e pos) (dI4 te<|a67 i):=by
 intro pins s σ H D I h;refine wpAny_Assign_Name (thn (he pins s σ H _ I h) λv s1 ⟨y,H1,I1,r1,q1⟩=> ?_) hs
 exact yL I1 hN hi hx r1 (λs2 I2=>⟨_,H1,I2,q1⟩) hf
def tPar (i j:Nat)(ta:TA):TS:=λD σ H=>ta σ H λvs H1=> ∃v w,vs=[v,w]/\D.nx ((σ.set i<|some v).set j<|some w) H1
theorem ps_par {a b:Expr}{ta:TA}{px pt:Pos}{kt k2 pt2}(hc:X.calm=true)(hN:X.N.Nodup)(hi:X.N[i]? =some x)(hj:X.N[j]? =some y)(hij:i≠j)
  (hx:X.env.scope.names.lookup x=some .local) (hy:X.env.scope.names.lookup y=some .local) (ha:PA X [a,b] ta)
  (hw:swappedStores [.Tuple [.Name x px,.Name y py] kt pt] (.Tuple [a,b] k2 pt2) X.env=pure (some [x,y]))
  (hs:↥(swapsWithSole [.Tuple [.Name x px,.Name y py] kt pt] (.Tuple [a,b] k2 pt2) pos.line X.env=pure false)) :
  PS X (.Assign [.Tuple [.Name x px,.Name y py] kt pt] (.Tuple [a,b] k2 pt2) pos) (tPar i j ta):=by
 intro pins s σ H D I h;rw[exec_Assign_arm];refine aB (kI ?_);rw[hs];refine aB (aL ?_);rw[a9 ac]
 refine aB (Tuple_<|thn (ha _ pins s σ H _ I h) λus s1 ⟨vs,H1,I1,r1,q1⟩=> ?_)
 obtain⟨v,w,e1,q1⟩:=q1;subst e1;obtain⟨u1,u2,rfl,rv,rw'⟩: ∃u1 u2,us=[u1,u2]/\RelV v u1/\RelV w u2:=by
  cases r1 with
  | cons p q=>
   cases q with
   | cons p' q'=>
    cases q';exact⟨_,_,rfl,p,p'⟩
 refine jE ?_ (by show 2<=sizeLine;decide)
 have I2:Inv X pins σ H1 {s1 with heap:=s1.heap.push {cls:= .type "tuple",data:= .seq [u1,u2].toArray}}:=I1.kept (t':=s1.toks) λb o e=>aW _ e
 rw[hw];refine aB (aL ?_);show wpAny (model X.prog X.w) X.A (do rule "assign.swapped-stores";let items<-unpackItems (.ref s1.heap.objs.size) 2 none;assignInOrder [λv=>bindName X.env y v,λv=>bindName X.env x v] items.reverse;pure Flow.next) _ _ _
 refine aB (lN<|aB<|unpackItems_tuple (items:= #[u1,u2]) (I.ok.hd hc) (rG s1.heap _) λh' hx'=> ?_)
 have I3:=I2.kept (h':=h') (t':=s1.toks) λb o e=>hx' b o (bL<|aY e) e
 show wpAny _ _ (assignInOrder [λv=>bindName X.env y v,λv=>bindName X.env x v] [u2,u1] >>= λ_=>pure Flow.next) _ _ _
 refine aB (aN7<|wpAny_bindName<|yL I3 hN hj (.inl hy) rw' (λs2 I4=> ?_)<|.inr hy)
 refine aN7 (wpAny_bindName<|yL I4 hN hi (.inl hx) rv (λs3 I5=>assignInOrder_nil (aL ?_))<|.inr hx)
 rw[List.set_comm _ _<|Ne.symm hij]at I5;exact⟨_,H1,I5,q1⟩
def tAug (i:Nat)(te:TE)(ti:TIp):TS:=λD σ H=> ∃x,σ[i]? =some (some x)/\te σ H λy H1=>ti x y H1 λz H2=>D.nx (σ.set i<|some z) H2
theorem ps_aug {te:TE}{op:Operator}{ti:TIp}(hN:X.N.Nodup)(hi:X.N[i]? =some x)(hx:Loc X.env.scope x)(he:PE X e te)(ho:PIp X op ti)(hf:X.fn x=true\/X.env.scope.names.lookup x=some .local:=by walk_at "z") :
  PS X (.AugAssign (.Name x pos') op e pos) (tAug i te ti):=by
 intro pins s σ H D I h;obtain⟨v,e1,h⟩:=h;obtain⟨m,hn,hl⟩:=I.loc;have vis:Vis X.env.scope x:=by rcases hx with k|k;exact .inl k;exact .inr (.inl k)
 obtain⟨u,r,l⟩:=hl i x v hi e1 vis;refine wpAny_AugAssign_Name ?_;have go:wpAny (model X.prog X.w) X.A (eval e X.env) (λw s₂=>wpAny (model X.prog X.w) X.A (inplaceOp op u w) (λr s₃=>wpAny (model X.prog X.w) X.A (storeName X.env x r) (λ_=>SP X pins D .next) X.xe s₃) X.xe s₂) X.xe s:=by
  refine thn (he pins s σ H _ I h) λw s1 ⟨y,H1,I1,r1,q1⟩=> ?_
  refine thn (ho pins s1 σ H1 v y u w _ I1 r r1 q1) λz s2 ⟨zv,H2,I2,r2,q2⟩=> ?_
  exact yL I2 hN hi hx r2 (λs3 I3=>⟨_,H2,I3,q2⟩) hf
 rcases l with⟨hk,hm⟩| ⟨hk,c,hc,hcell⟩
 .exact qN I.ok.kind hk hn hm go
 .rcases hk with hk|hk
  .exact wpAny_loadName_cell I.ok.kind hk hc hcell go
  .rcases hx with k|k
   .have:X.env.scope.names.lookup x=some .free:=hk;rw[k]at this;cases this
   .have:X.env.scope.names.lookup x=some .free:=hk;rw[k]at this;cases this
def tAugS (to ti te:TE)(tget:V->V->Hp->VK->Prop)(tip:TIp)(tset:d09):TS:=λD σ H=>to σ H λo H1=>ti σ H1 λi H2=>tget o i H2 λx H3=>te σ H3 λy H4=>tip x y H4 λz H5=>tset o i z H5 λH6=>D.nx σ H6
def PGet (X:Cx)(t:V->V->Hp->VK->Prop):Prop:=
 ∀(pins:List (Addr×Obj)) (s:Shared) (σ:St) (H:Hp) (o i:V) (ov iv:Value) (Q:VK),Inv X pins σ H s->RelV o ov->RelV i iv->t o i H Q->
  wpAny (model X.prog X.w) X.A (getItem ov iv) (EP X pins σ Q) X.xe s
theorem dI5 {o i:Expr}{to ti te:TE}{tget:V->V->Hp->VK->Prop}{tip:TIp}{tset:d09}{op:Operator}(ho:PE X o to)(hi:PE X i ti)(hg:PGet X tget)(he:PE X e te)(hp:PIp X op tip)(hs:PSet X tset)
  (ha: ∀ov iv new,augStore i ov iv new=(do holding [new,ov,iv] (setItem ov iv new);release [new,ov,iv] [];pure .next):=by intros;rfl):PS X (.AugAssign (.Subscript o i tpos) op e pos) (tAugS to ti te tget tip tset):=by
 intro pins s σ H D I h;refine wpAny_AugAssign_SubscriptAny (thn (ho pins s σ H _ I h) λov s1 ⟨x1,H1,I1,r1,q1⟩=> ?_) ha
 refine thn (hi pins s1 σ H1 _ I1 q1) λiv s2 ⟨x2,H2,I2,r2,q2⟩=> ?_
 refine thn (hg pins s2 σ H2 x1 x2 ov iv _ I2 r1 r2 q2) λold s3 ⟨x3,H3,I3,r3,q3⟩=> ?_
 refine thn (he pins s3 σ H3 _ I3 q3) λv s4 ⟨x4,H4,I4,r4,q4⟩=> ?_
 refine thn (hp pins s4 σ H4 x3 x4 old v _ I4 r3 r4 q4) λnew s5 ⟨x5,H5,I5,r5,q5⟩=> ?_
 exact thn (hs pins s5 σ H5 x1 x2 x5 ov iv new _ I5 r1 r2 r5 q5) λ_ s6 ⟨H6,I6,q6⟩=>⟨σ,H6,I6,q6⟩
def ipI (f:Int->Int->Int):TIp:=λx y H Q=> ∃i j,x= .int i/\y= .int j/\Q (.int<|f i j) H
theorem ip_add:PIp X .Add (ipI λi j=>i+j):=by
 intro pins s σ H x y v u Q I r1 r2 h;obtain⟨i,j,e1,e2,q⟩:=h;subst e1;subst e2;obtain⟨t,rfl⟩:=r1;obtain⟨t',rfl⟩:=r2;exact iadd_int ⟨.int _,H,I.tok _,⟨_,rfl⟩,q⟩
theorem d12:PIp X .Sub (ipI λi j=>i-j):=by
 intro pins s σ H x y v u Q I r1 r2 h;obtain⟨i,j,e1,e2,q⟩:=h;subst e1;subst e2;obtain⟨t,rfl⟩:=r1;obtain⟨t',rfl⟩:=r2;exact isub_int ⟨.int _,H,I.tok _,⟨_,rfl⟩,q⟩
end
section
variable {X:Cx}{pos:Pos}
def tWhile (c:TT)(tb:TS):TS:=λD σ H=> ∃W:Nat->St->Hp->Prop,(∃m,W m σ H)/\ ∀m σ H,W m σ H->
 c σ H λb H1=>if b=true then ∃N:St->Hp->Prop,(∀σ' H',N σ' H'-> ∃m',m'<m/\W m' σ' H')/\tb {D with nx:=N,ct:=N,bk:=D.nx} σ H1 else D.nx σ H1
theorem d13 {tc:TT}{tb:TS}(hp:PassesOwn (model X.prog X.w) X.A X.env X.xe)(hc:PT X c tc)(hb:PSs X body tb):PS X (.While c body [] pos) (tWhile tc tb):=by
 intro pins s σ H D I h;obtain⟨W,⟨m0,w0⟩,turn⟩:=h;refine wpAny_While (codeAny_whileLoop (λn s'=> ∃σ' H',Inv X pins σ' H' s'/\W n σ' H') ?_ m0 ⟨σ,H,I,w0⟩)
 rintro n s1 ⟨σ1,H1,I1,w1⟩;refine o7 hp (thn (hc pins s1 σ1 H1 _ I1<|turn n σ1 H1 w1) λb s2 ⟨H2,I2,q2⟩=> ?_)
 cases b with
 | true=>
  obtain⟨N,hN,q2⟩:=q2;rw[aA rfl];refine o7 hp (thn (hb pins s2 σ1 H2 _ I2 q2) λf s3 q3=> ?_)
  cases f with
  | next=>
   obtain⟨σ3,H3,I3,n3⟩:=q3;obtain⟨m',hm,w3⟩:=hN σ3 H3 n3;exact⟨m',hm,σ3,H3,I3,w3⟩
  | cont=>
   obtain⟨σ3,H3,I3,n3⟩:=q3;obtain⟨m',hm,w3⟩:=hN σ3 H3 n3;exact⟨m',hm,σ3,H3,I3,w3⟩
  | brk=>exact q3
  | ret v=>exact q3
 | false=>
  rw[a9 bJ];exact nZ ⟨σ1,H2,I2,q2⟩
end
structure It where
 go:Nat->Hp->Prop
 yld:Nat->Hp->V->Hp->Prop
 stop:Nat->Hp->Prop
def aS5 (X:Cx)(pins:List (Addr×Obj))(H:Hp)(b:Addr):Prop:=
 H b=none/\b≠X.env.locals/\b ∉ X.fs/\(b∈X.ex\/X.s₀.heap.objs.size<=b)/\(∀x c,X.env.cells.lookup x=some c->c≠b)/\ ∀p∈X.pn++pins,p.1≠b
theorem Inv.fpOk {X:Cx}{σ:St}{H H':Hp}(I:Inv X pins σ H s)(hb:s.heap.objs.size<=b)(hn:H' b=none):aS5 X pins H' b:=by
 refine⟨hn,rB<|bG I.lt hb,I.nofs hb,.inr<|aM I.sz hb,λx c e z=> ?_,λp hp z=> ?_⟩
 .obtain⟨v,q⟩:=I.cell x c e;exact absurd (bG q.lt (by rw[z];exact hb)) (cQ _)
 .exact absurd (bG (aY (I.pin p hp).1) (by rw[z];exact hb)) (cQ _)
structure c21 (P:Program)(w:World)(K:Frag)(tg:Expr)(J:It)(fp:List Addr)(it:Addr)(tn:Nat->Heap->Prop):Prop where
 mem:it∈fp
 obj: ∀i h,tn i h-> ∀b∈fp,∃o,h.get? b=some o/\ ∀v,o.data≠ .cell v
 keep: ∀i h h',tn i h->(∀b∈fp,∀o,h.get? b=some o->h'.get? b=some o)->tn i h'
 item: ∀(X:Cx),X.prog=P->X.w=w->X.K=K->X.calm=true-> ∀(i:Nat) (pins:List (Addr×Obj)) (s:Shared) (σ:St) (H:Hp) (E:Value->Shared->Prop),Inv X pins σ H s->(∀b∈fp,aS5 X pins H b)->tn i s.heap->J.go i H->
  wpAny (model P w) X.A (pyNext<|.ref it) (λr s1=> ∃u,r=some u/\
   wpAny (model P w) X.A (letOwnedTupleGo tg (.ref it) u) (λ_ s2=> ∃x H',Inv X pins σ H' s2/\RelV x u/\J.yld i H x H'/\tn (i+1) s2.heap/\ ∀b∈fp,H' b=none) E s1) E s
 done: ∀(X:Cx),X.prog=P->X.w=w->X.K=K->X.calm=true-> ∀(i:Nat) (pins:List (Addr×Obj)) (s:Shared) (σ:St) (H:Hp) (E:Value->Shared->Prop),Inv X pins σ H s->(∀b∈fp,aS5 X pins H b)->tn i s.heap->J.stop i H->
  wpAny (model P w) X.A (pyNext<|.ref it) (λr s1=>r=none/\Inv X pins σ H s1) E s
 self: ∀(A:Around) (i:Nat) (s:Shared) (Q:Value->Shared->Prop) (E:Value->Shared->Prop),tn i s.heap->Q (.ref it) s->wpAny (model P w) A (pyIter<|.ref it) Q E s
abbrev TI:=St->Hp->(It->Hp->Prop)->Prop
def PIE (X:Cx)(pins:List (Addr×Obj))(σ:St)(tg:Expr)(R:It->Hp->Prop)(itv:Value)(s2:Shared):Prop:=
 ∃(it:Addr) (fp:List Addr) (tn:Nat->Heap->Prop) (J:It) (H':Hp),itv= .ref it/\Inv X pins σ H' s2/\c21 X.prog X.w X.K tg J fp it tn/\tn 0 s2.heap/\(∀b∈fp,aS5 X pins H' b)/\R J H'
def PI (X:Cx)(tg iter:Expr)(wi:TI):Prop:=
 ∀(pins:List (Addr×Obj)) (s:Shared) (σ:St) (H:Hp) (R:It->Hp->Prop),Inv X pins σ H s->wi σ H R->
  wpAny (model X.prog X.w) X.A (eval iter X.env) (λv s1=>wpAny (model X.prog X.w) X.A (pyIter v) (PIE X pins σ tg R) X.xe s1) X.xe s
theorem c22 {M:Model}{n:String}{Q:Unit->Shared->Prop}(ho:s.heap.get? it=some o)(hc:o.cls= .type n)(hd:o.data= .fields vs)
  (hn:["enumerate","zip","dict_itemiterator","dict_reverseitemiterator","odict_iterator","itertools.zip_longest","itertools.pairwise"].contains n=false) (hQ:Q () s):wpAny M A (letOwnedTupleGo tg (.ref it) u) Q E s:=by
 unfold letOwnedTupleGo;cases tg<;>first
  | exact aL hQ
  | (cases u<;>first
    | exact aL hQ
    | (refine aB (wpAny_load ho ?_)
       rw[hc,hd];show wpAny M A (if(["enumerate","zip","dict_itemiterator","dict_reverseitemiterator","odict_iterator","itertools.zip_longest","itertools.pairwise"].contains n&&vs[0]? ==some (rawInt _))=true then _ else _) Q E s;rw[a9 (by intro h;rw[hn,Bool.false_and]at h;cases h)]
       exact aL hQ))
noncomputable def Itl (K:Frag)(a:Addr):It:=
 ⟨λi H=> ∃xs x,SqL K H a xs/\xs[i]? =some x,λi H x H'=>H'=H/\ ∀xs,SqL K H a xs->xs[i]? =some x,λi H=> ∃xs,SqL K H a xs/\xs.length<=i⟩
noncomputable def Itt (K:Frag)(a:Addr):It:=
 ⟨λi H=> ∃xs x,SqT K H a xs/\xs[i]? =some x,λi H x H'=>H'=H/\ ∀xs,SqT K H a xs->xs[i]? =some x,λi H=> ∃xs,SqT K H a xs/\xs.length<=i⟩
noncomputable def Itr (lo:Int)(n:Nat):It:=⟨λi _=>i<n,λi H x H'=>H'=H/\x= .int (lo+i),λi _=>n<=i⟩
theorem cT2 (a it:Addr):c21 P w K tg (Itl K a) [it] it (λi h=>h.IsListIter it a i) where
 mem:=ae
 obj:=λi h st b hb=>by
  have e:b=it:=by simpa using hb
  subst e;obtain⟨o,e,c,d⟩:=st;exact⟨o,e,λv z=>by rw[d]at z;cases z⟩
 keep:=λi h h' st k=>st.at λo e=>k it ae o e
 item:=by
  intro X hP hw hK hc i pins s σ H E I hf st hg;subst hP hw hK;obtain⟨xs,x,hq,hx⟩:=hg;obtain⟨its,rv,p,hz⟩:=I.list hq;obtain⟨u,hu,ru⟩:=rv.get hx;obtain⟨f0,f1,f2,f3,f4,f5⟩:=hf it ae
  refine wpAny_pyNext_list_item st p.isList (x:=u) (by simpa using hu) λh' st' sb=> ?_
  have I1:Inv X pins σ H {s with heap:=h'}:=I.turned (t':=s.toks) (λb o hb e=>(sb.2 b hb).trans e) f0 f1 f3 f4 f5
  obtain⟨o,e,c,d⟩:=id st';exact⟨u,rfl,c22 (s:={s with heap:=h'}) e c d ac ⟨x,H,I1,ru,⟨rfl,λys hy=>by rw[I.list_inj hy hq];exact hx⟩,st',λb hb=>(hf b hb).1⟩⟩
 done:=by
  intro X hP hw hK hc i pins s σ H E I hf st hg;subst hP hw hK;obtain⟨xs,hq,hx⟩:=hg;obtain⟨its,rv,p,hz⟩:=I.list hq;obtain⟨f0,f1,f2,f3,f4,f5⟩:=hf it ae
  have hl:=rv.length;exact wpAny_pyNext_list_end (I.ok.hd hc) st p.isList (by simp;lia) λh' eb=>⟨rfl,I.turned (t':=s.toks) (λb o hb e=>eb b o hb e) f0 f1 f3 f4 f5⟩
 self:=λ_ _ _ _ _ st h=>wpAny_pyIter_listiter st h
theorem cD7 (a it:Addr):c21 P w K tg (Itt K a) [it] it (λi h=>h.IsTupleIter it a i) where
 mem:=ae
 obj:=λi h st b hb=>by
  have e:b=it:=by simpa using hb
  subst e;obtain⟨o,e,c,d⟩:=st;exact⟨o,e,λv z=>by rw[d]at z;cases z⟩
 keep:=λi h h' st k=>st.at λo e=>k it ae o e
 item:=by
  intro X hP hw hK hc i pins s σ H E I hf st hg;subst hP hw hK;obtain⟨xs,x,hq,hx⟩:=hg;obtain⟨its,rv,p,hz⟩:=I.tuple hq;obtain⟨u,hu,ru⟩:=rv.get hx;obtain⟨f0,f1,f2,f3,f4,f5⟩:=hf it ae
  refine wpAny_pyNext_tuple_item st (show s.heap.IsTuple a its.toArray from p) (x:=u) (by simpa using hu) λh' st' sb=> ?_
  have I1:Inv X pins σ H {s with heap:=h'}:=I.turned (t':=s.toks) (λb o hb e=>(sb.2 b hb).trans e) f0 f1 f3 f4 f5
  obtain⟨o,e,c,d⟩:=id st';exact⟨u,rfl,c22 (s:={s with heap:=h'}) e c d ac ⟨x,H,I1,ru,⟨rfl,λys hy=>by rw[I.tuple_inj hy hq];exact hx⟩,st',λb hb=>(hf b hb).1⟩⟩
 done:=by
  intro X hP hw hK hc i pins s σ H E I hf st hg;subst hP hw hK;obtain⟨xs,hq,hx⟩:=hg;obtain⟨its,rv,p,hz⟩:=I.tuple hq;obtain⟨f0,f1,f2,f3,f4,f5⟩:=hf it ae
  have hl:=rv.length;exact wpAny_pyNext_tuple_end (I.ok.hd hc) st (show s.heap.IsTuple a its.toArray from p) (by simp;lia) λh' eb=>⟨rfl,I.turned (t':=s.toks) (λb o hb e=>eb b o hb e) f0 f1 f3 f4 f5⟩
 self:=λ_ _ _ _ _ st h=>wpAny_pyIter_tupleiter st h
theorem cD8 (it:Addr)(lo:Int)(n:Nat):c21 P w K tg (Itr lo n) [it] it (λi h=>IsRangeIter h it (lo+(i:Nat)*1) ((n:Int)-(i:Nat)) 1) where
 mem:=ae
 obj:=λi h st b hb=>by
  have e:b=it:=by simpa using hb
  subst e;exact⟨_,st,λv z=>by
   have z':Data.fields _=Data.cell v:=z;cases z'⟩
 keep:=λi h h' st k=>k it ae _ st
 item:=by
  intro X hP hw hK hc i pins s σ H E I hf st hg;subst hP hw hK;obtain⟨f0,f1,f2,f3,f4,f5⟩:=hf it ae
  have W:=Walks.range (prog:=X.prog) (w:=X.w) (I.ok.hd hc) it lo 1 n;refine W.item i s _ _ hg st λv h' tk hv st' kk=> ?_
  obtain⟨t,rfl⟩:=hv;have I1:Inv X pins σ H {s with heap:=h',toks:=tk}:=I.turned (λb o hb e=>kk b o (by simpa using hb) e) f0 f1 f3 f4 f5
  refine⟨_,rfl,c22 (s:={s with heap:=h',toks:=tk}) (n:="range_iterator") st' rfl rfl ac ⟨.int<|lo+i,H,I1,⟨t,?_⟩,⟨rfl,rfl⟩,st',λb hb=>(hf b hb).1⟩⟩
  rw[fX]
 done:=by
  intro X hP hw hK hc i pins s σ H E I hf st hg;subst hP hw hK;obtain⟨f0,f1,f2,f3,f4,f5⟩:=hf it ae
  exact wpAny_pyNext_range_end (I.ok.hd hc) st (by have:n<=i:=hg;lia) λh' eb=>⟨rfl,I.turned (t':=s.toks) (λb o hb e=>eb b o hb e) f0 f1 f3 f4 f5⟩
 self:=λ_ _ _ _ _ st h=>aM2 st h
section
variable {X:Cx}{tg:Expr}
theorem c23 {σ:St}{H:Hp}{R:It->Hp->Prop}{hi:Int}{t u v:Tok}(I:Inv X pins σ H s)(h1: -(2^62)<=lo)(h2:lo<2^62)(h3: -(2^62)<=hi)(h4:hi<2^62)
  (q:R (Itr lo (hi-lo).toNat) H):wpAny (model X.prog X.w) X.A (pyIter<|.ref s.heap.objs.size) (PIE X pins σ tg R) E {s with heap:=s.heap.push {cls:= .type "range",data:= .fields #[.int lo t,.int hi u,.int 1 v]},toks:=tk}:=by
 refine wpAny_pyIter_range (IsRange.new ..) (small_one h1 h2 h3 h4) ?_
 have I1:Inv X pins σ H {s with heap:=s.heap.push {cls:= .type "range",data:= .fields #[.int lo t,.int hi u,.int 1 v]},toks:=tk}:=I.kept λb o e=>aW _ e
 refine⟨(s.heap.push {cls:= .type "range",data:= .fields #[.int lo t,.int hi u,.int 1 v]}).objs.size,[(s.heap.push {cls:= .type "range",data:= .fields #[.int lo t,.int hi u,.int 1 v]}).objs.size],_,_,H,rfl,
  I1.kept (t':=tk) λb o e=>aW _ e,cD8 _ lo (hi-lo).toNat,?_,λb hb=> ?_,q⟩
 .have e1:lo+((0:Nat):Int)*1=lo:=ae
  have e2:(((hi-lo).toNat:Nat):Int)-((0:Nat):Int)=Builtin.Range.rangeSize lo hi 1:=by rw[rangeSize_one];split<;>lia
  show IsRangeIter _ _ (lo+((0:Nat):Int)*1) ((((hi-lo).toNat:Nat):Int)-((0:Nat):Int)) 1
  rw[e1,e2];exact bX _ rfl
 .have e:b=(s.heap.push {cls:= .type "range",data:= .fields #[.int lo t,.int hi u,.int 1 v]}).objs.size:=by simpa using hb
  subst e;exact I1.fpOk (aG _) (I1.hok.fresh<|aG _)
def iRng1 (ta:TA):TI:=λσ H R=>ta σ H λvs H1=> ∃j:Int,vs=[.int j]/\ -(2^62)<=j/\j<2^62/\R (Itr 0 j.toNat) H1
def iRng2 (ta:TA):TI:=λσ H R=>ta σ H λvs H1=> ∃i j:Int,vs=[.int i,.int j]/\(-(2^62)<=i/\i<2^62/\ -(2^62)<=j/\j<2^62)/\R (Itr i (j-i).toNat) H1
theorem cT3 {a:Expr}{ta:TA}(hg:Gl X "range")(hm:X.mg "range"=none)(ha:PA X [a] ta)(hs:↥(starEach [a] X.env=[(false,eval a X.env)])):PI X tg (.Call (.Name "range" p) [a] [] pos) (iRng1 ta):=by
 intro pins s σ H R I h;refine Call_ (v8 I hg hm boot_range<|kA (thn (ha pos pins s σ H _ I h) λus s1 ⟨vs,H1,I1,r1,q1⟩=> ?_) hs rfl)
 obtain⟨j,e,q1,q2,q⟩:=q1;subst e;cases r1 with
 | cons r rr=>
  cases rr;obtain⟨t,rfl⟩:=r;exact call_range_1 (c23 I1 ad ad q1 q2<|by simpa using q)
theorem cT4 {a b:Expr}{ta:TA}(hg:Gl X "range")(hm:X.mg "range"=none)(ha:PA X [a,b] ta)(hs:↥(starEach [a,b] X.env=[(false,eval a X.env),(false,eval b X.env)]))(hs2:↥(starEach [b] X.env=[(false,eval b X.env)])) :
  PI X tg (.Call (.Name "range" p) [a,b] [] pos) (iRng2 ta):=by
 intro pins s σ H R I h;refine Call_ (v8 I hg hm boot_range<|kA (thn (ha pos pins s σ H _ I h) λus s1 ⟨vs,H1,I1,r1,q1⟩=> ?_) (by rw[hs,hs2]) (by rw[hs2];rfl))
 obtain⟨i,j,e,⟨q1,q2,q3,q4⟩,q⟩:=q1;subst e;cases r1 with
 | cons r rr=>
  cases rr with
  | cons r' rr=>
   cases rr;obtain⟨t,rfl⟩:=r;obtain⟨t',rfl⟩:=r';exact call_range_2 (c23 I1 q1 q2 q3 q4 q)
def tFor (wi:TI)(g:TG)(tb:TS):TS:=λD σ H=>wi σ H λJ H1=> ∃W:Nat->Nat->St->Hp->Prop,(∃m,W 0 m σ H1)/\ ∀i m σ H,W i m σ H->
 (J.stop i H/\D.nx σ H)\/(J.go i H/\ ∃N:St->Hp->Prop,(∀σ' H',N σ' H'-> ∃m',m'<m/\W (i+1) m' σ' H')/\ ∀x H',J.yld i H x H'->g x σ H' λσ2 H2=>tb {D with nx:=N,ct:=N,bk:=D.nx} σ2 H2)
noncomputable def aZ1 (fp:List Addr)(h:Heap):List (Addr×Obj):=fp.filterMap λb=>(h.get? b).map λo=>(b,o)
theorem rH (hb:b∈fp)(e:h.get? b=some o):(b,o)∈aZ1 fp h:=aN8.mpr ⟨b,hb,by rw[e];rfl⟩
theorem cT5 {p:Addr×Obj}(hp:p∈aZ1 fp h):p.1∈fp/\h.get? p.1=some p.2:=by
 obtain⟨b,hb,e⟩:=aN8.mp hp;cases q:h.get? b with
 | none=>rw[q]at e;cases e
 | some o=>
  rw[q]at e;have e':(b,o)=p:=gL e;subst e';exact⟨hb,q⟩
theorem Inv.pinned {σ:St}{H:Hp}(I:Inv X pins σ H s)(hf: ∀b∈fp,aS5 X pins H b)(ho: ∀b∈fp,∃o,s.heap.get? b=some o/\ ∀v,o.data≠ .cell v):Inv X (pins++aZ1 fp s.heap) σ H s:=
 I.pins_of λp hp=>(cP.mp hp).elim (λz=>I.pin p (dM _ z)) λz=>by
  obtain⟨hb,e⟩:=cT5 z;obtain⟨f0,f1,f2,_⟩:=hf p.1 hb;obtain⟨o,e',d⟩:=ho p.1 hb;rw[e]at e';cases e';exact⟨e,f0,f1,f2,d⟩
theorem Inv.unpinned {pl:List (Addr×Obj)}{σ:St}{H:Hp}(I:Inv X (pins++pl) σ H s):Inv X pins σ H s:=I.pins_of λp hp=>I.pin p (dM _<|uL _ hp)
theorem ps_for {wi:TI}{g:TG}{tb:TS}(hp:PassesOwn (model X.prog X.w) X.A X.env X.xe)(hc:X.calm=true)(hi:PI X tg iter wi)(hg:PG X tg g)(hb:PSs X body tb)
  (hs: ∀x,foldedSetIterable iter X.env x=pure x:=by intro _;rfl):PS X (.For tg iter body [] pos) (tFor wi g tb):=by
 intro pins s σ H D I h;refine wpAny_For (thn (hi pins s σ H _ I h) λv s1 h1=>thn h1 λitv s2 h2=> ?_) hs
 obtain⟨it,fp,tn,J,H2,e,I2,T,st2,f2,W,⟨m0,w0⟩,turn⟩:=h2;subst e;have stat: ∀{H':Hp},(∀b∈fp,H' b=none)-> ∀b∈fp,aS5 X pins H' b:=λhn b hb=>⟨hn b hb,(f2 b hb).2⟩
 refine codeAny_forLoop_any (λn s'=> ∃i σ' H',Inv X pins σ' H' s'/\tn i s'.heap/\(∀b∈fp,H' b=none)/\W i n σ' H') ?_ m0 ⟨0,σ,H2,I2,st2,λb hb=>(f2 b hb).1,w0⟩
 rintro n s3 ⟨i,σ3,H3,I3,st3,fr3,w3⟩;rcases turn i n σ3 H3 w3 with⟨stop,qn⟩| ⟨go,N,hN,step⟩
 .refine o7 hp (thn (T.done X rfl rfl rfl hc i pins s3 σ3 H3 X.xe I3 (stat fr3) st3 stop) λr s4 ⟨hr,I4⟩=> ?_)
  subst hr;exact nZ ⟨σ3,H3,I4,qn⟩
 .refine o7 hp (thn (T.item X rfl rfl rfl hc i pins s3 σ3 H3 X.xe I3 (stat fr3) st3 go) λr s4 ⟨u,hr,h4⟩=> ?_)
  subst hr;refine o7 hp (thn h4 λ_ s5 ⟨x,H5,I5,r5,y5,st5,fr5⟩=> ?_)
  have I5':=I5.pinned (stat fr5) (T.obj _ _ st5);refine o7 hp (thn (hg _ s5 σ3 H5 x u _ I5' r5<|step x H5 y5) λ_ s6 ⟨σ6,H6,I6,q6⟩=> ?_)
  refine o7 hp (thn (hb _ s6 σ6 H6 _ I6 q6) λf s7 q7=> ?_)
  have again: ∀{σ7:St} {H7:Hp},Inv X (pins++aZ1 fp s5.heap) σ7 H7 s7->N σ7 H7-> ∃m,m<n/\ ∃i σ' H',Inv X pins σ' H' s7/\tn i s7.heap/\(∀b∈fp,H' b=none)/\W i m σ' H':=λ{σ7 H7} I7 n7=>by
   obtain⟨m',hm,w7⟩:=hN σ7 H7 n7;refine⟨m',hm,i+1,σ7,H7,I7.unpinned,T.keep _ _ _ st5 λb hb o e=>(I7.pin (b,o)<|dM _<|dM _<|rH hb e).1,λb hb=> ?_,w7⟩
   obtain⟨o,e,d⟩:=T.obj _ _ st5 b hb;exact(I7.pin (b,o)<|dM _<|dM _<|rH hb e).2.1
  cases f with
  | next=>obtain⟨σ7,H7,I7,n7⟩:=q7;exact again I7 n7
  | cont=>obtain⟨σ7,H7,I7,n7⟩:=q7;exact again I7 n7
  | brk=>obtain⟨σ7,H7,I7,q7⟩:=q7;exact⟨σ7,H7,I7.unpinned,q7⟩
  | ret v=>obtain⟨x7,σ7,H7,I7,r7,q7⟩:=q7;exact⟨x7,σ7,H7,I7.unpinned,r7,q7⟩
end
abbrev R2:=V->V->Hp->VK->Prop
def OpR (X:Cx)(f:Value->Value->Sem Value)(r:R2):Prop:=
 ∀(pins:List (Addr×Obj)) (s:Shared) (σ:St) (H:Hp) (x y:V) (v u:Value) (Q:VK),Inv X pins σ H s->RelV x v->RelV y u->r x y H Q->
  wpAny (model X.prog X.w) X.A (f v u) (EP X pins σ Q) X.xe s
def UnR (X:Cx)(f:Value->Sem Value)(r:V->Hp->VK->Prop):Prop:=
 ∀(pins:List (Addr×Obj)) (s:Shared) (σ:St) (H:Hp) (x:V) (v:Value) (Q:VK),Inv X pins σ H s->RelV x v->r x H Q->
  wpAny (model X.prog X.w) X.A (f v) (EP X pins σ Q) X.xe s
def tN (X:Cx)(f:Value)(r:List V->Hp->VK->Prop):Prop:=
 ∀(pins:List (Addr×Obj)) (s:Shared) (σ:St) (H:Hp) (xs:List V) (us:List Value) (Q:VK),Inv X pins σ H s->Vals xs us->r xs H Q->
  wpAny (model X.prog X.w) X.A (call f us) (EP X pins σ Q) X.xe s
def tOp (r:R2)(ta tb:TE):TE:=λσ H Q=>ta σ H λx H1=>tb σ H1 λy H2=>r x y H2 Q
def tUn (r:V->Hp->VK->Prop)(ta:TE):TE:=λσ H Q=>ta σ H λx H1=>r x H1 Q
def rI (C:Int->Int->Prop)(g:Int->Int->V):R2:=λx y H Q=> ∃i j,x= .int i/\y= .int j/\C i j/\Q (g i j) H
def rI0 (g:Int->Int->V):R2:=λx y H Q=> ∃i j,x= .int i/\y= .int j/\Q (g i j) H
def rU (g:Int->V):V->Hp->VK->Prop:=λx H Q=> ∃i,x= .int i/\Q (g i) H
section
variable {X:Cx}{a b c:Expr}{ta tb tc:TE}{pos:Pos}
theorem binT (ha:PE X a ta)(hb:PE X b tb){σ:St}{H:Hp}{R:V->V->Hp->Prop}(I:Inv X pins σ H s)
  (h:ta σ H λx H1=>tb σ H1 λy H2=>R x y H2) {Q:Value->Shared->Prop} {f:Value->Value->Sem Value}
  (hf: ∀v u s2 x y H2,Inv X pins σ H2 s2->RelV x v->RelV y u->R x y H2->wpAny (model X.prog X.w) X.A (f v u) Q X.xe s2) :
  wpAny (model X.prog X.w) X.A (eval a X.env) (λv s₁=>wpAny (model X.prog X.w) X.A (eval b X.env) (λu s₂=>wpAny (model X.prog X.w) X.A (f v u) Q X.xe s₂) X.xe s₁) X.xe s:=by
 refine thn (ha pins s σ H _ I h) λv s1 ⟨x,H1,I1,r1,q1⟩=> ?_
 refine thn (hb pins s1 σ H1 _ I1 q1) λu s2 ⟨y,H2,I2,r2,q2⟩=> ?_
 exact hf v u s2 x y H2 I2 r1 r2 q2
theorem pe_op {op:Operator}{r:R2}(ho:OpR X (binaryOp op) r)(ha:PE X a ta)(hb:PE X b tb):PE X (.BinOp a op b pos) (tOp r ta tb):=by
 intro pins s σ H Q I h;exact wpAny_BinOp (binT ha hb I h λv u s2 x y H2 I2 rx ry q=>ho pins s2 σ H2 x y v u Q I2 rx ry q)
theorem pe_un {op:UnaryOp}{r:V->Hp->VK->Prop}(ho:UnR X (unaryOp op) r)(ha:PE X a ta):PE X (.UnaryOp op a pos) (tUn r ta):=by
 intro pins s σ H Q I h;exact UnaryOp_ (thn (ha pins s σ H _ I h) λv s1 ⟨x,H1,I1,r1,q1⟩=>ho pins s1 σ H1 x v Q I1 r1 q1)
theorem opI {f:Value->Value->Sem Value}{C:Int->Int->Prop}{g:Int->Int->Int}
  (rule: ∀(i j:Int) (t u:Tok) (s:Shared) (Q:Value->Shared->Prop) (E:Value->Shared->Prop),C i j->Q (.int (g i j) s.toks) {s with toks:=s.toks+1}->wpAny (model X.prog X.w) X.A (f (.int i t)<|.int j u) Q E s) :
  OpR X f (rI C λi j=> .int (g i j)):=by
 intro pins s σ H x y v u Q I rx ry h;obtain⟨i,j,rfl,rfl,hc,q⟩:=h;obtain⟨t,rfl⟩:=rx;obtain⟨t',rfl⟩:=ry;exact rule i j t t' s _ _ hc ⟨.int<|g i j,H,I.tok _,⟨_,rfl⟩,q⟩
theorem opI0 {f:Value->Value->Sem Value}{g:Int->Int->Int}
  (rule: ∀(i j:Int) (t u:Tok) (s:Shared) (Q:Value->Shared->Prop) (E:Value->Shared->Prop),Q (.int (g i j) s.toks) {s with toks:=s.toks+1}->wpAny (model X.prog X.w) X.A (f (.int i t)<|.int j u) Q E s) :
  OpR X f (rI0 λi j=> .int (g i j)):=by
 intro pins s σ H x y v u Q I rx ry h;obtain⟨i,j,rfl,rfl,q⟩:=h;obtain⟨t,rfl⟩:=rx;obtain⟨t',rfl⟩:=ry;exact rule i j t t' s _ _ ⟨.int<|g i j,H,I.tok _,⟨_,rfl⟩,q⟩
theorem dI6 {f:Value->Value->Sem Value}{g:Int->Int->Bool}
  (rule: ∀(i j:Int) (t u:Tok) (s:Shared) (Q:Value->Shared->Prop) (E:Value->Shared->Prop),Q (.bool<|g i j) s->wpAny (model X.prog X.w) X.A (f (.int i t)<|.int j u) Q E s) :
  OpR X f (rI0 λi j=> .bl (g i j)):=by
 intro pins s σ H x y v u Q I rx ry h;obtain⟨i,j,rfl,rfl,q⟩:=h;obtain⟨t,rfl⟩:=rx;obtain⟨t',rfl⟩:=ry;exact rule i j t t' s _ _ ⟨.bl<|g i j,H,I,rfl,q⟩
def dI7 (i j:Int):Prop:=0<=j/\j<=1000000/\i.natAbs<2^64
def cD9 (i j:Int):Prop:=(-(2^64)<i/\i<2^64)\/(-(2^64)<j/\j<2^64)
theorem cD9.ok {i j:Int}(h:cD9 i j):IntMulOk i j:=by
 rcases h with⟨h1,h2⟩| ⟨h1,h2⟩
 .exact .of_left (intBits_le_64 h1 h2)
 .exact .of_right (intBits_le_64 h1 h2)
theorem op_add:OpR X (binaryOp .Add) (rI0 λi j=> .int (i+j)):=opI0 λ_ _ _ _ _ _ _ q=>add_int q
theorem op_sub:OpR X (binaryOp .Sub) (rI0 λi j=> .int (i-j)):=opI0 λ_ _ _ _ _ _ _ q=>sub_int q
theorem dI8:OpR X (binaryOp .Mod) (rI (λ_ j=>j≠0) λi j=> .int (i.fmod j)):=opI λ_ _ _ _ _ _ _ hc q=>mod_int' hc q
theorem op_pow:OpR X (binaryOp .Pow) (rI dI7 λi j=> .int (i^j.toNat)):=opI λ_ _ _ _ _ _ _ hc q=>pow_int_small hc.1 hc.2.1 hc.2.2 q
theorem unI {f:Value->Sem Value}{g:Int->Int}
  (rule: ∀(i:Int) (t:Tok) (s:Shared) (Q:Value->Shared->Prop) (E:Value->Shared->Prop),Q (.int (g i) s.toks) {s with toks:=s.toks+1}->wpAny (model X.prog X.w) X.A (f<|.int i t) Q E s) :
  UnR X f (rU λi=> .int (g i)):=by
 intro pins s σ H x v Q I rx h;obtain⟨i,rfl,q⟩:=h;obtain⟨t,rfl⟩:=rx;exact rule i t s _ _ ⟨.int<|g i,H,I.tok _,⟨_,rfl⟩,q⟩
theorem un_neg:UnR X (unaryOp .USub) (rU λi=> .int (-i)):=unI λ_ _ _ _ _ q=>neg_int q
end
noncomputable def scal:V->V->Bool
 | .non,.non=>true| .non,.int _=>true| .int _,.non=>true| .non,.bl _=>true| .bl _,.non=>true| .non,.str _=>true| .str _,.non=>true
 | .int _,.int _=>true| .bl _,.bl _=>true| .str _,.str _=>true| .byt _,.byt _=>true
 | .int _,.str _=>true| .str _,.int _=>true| .bl _,.str _=>true| .str _,.bl _=>true
 | _,_=>false
noncomputable def rEq:R2:=λx y H Q=>scal x y=true/\Q (.bl<|decide (x=y)) H
noncomputable def rNe:R2:=λx y H Q=>scal x y=true/\Q (.bl<|!decide (x=y)) H
theorem b81 {i j:Int}:decide (V.int i=V.int j)=(i==j):=by
 rw[a05];simp
theorem bT7 {i j:Bool}:decide (V.bl i=V.bl j)=(i==j):=by
 rw[a05];simp
theorem b82 {i j:Str}:decide (V.str i=V.str j)=(i==j):=by
 rw[a05];simp
theorem cM1 {i j:Array UInt8}:decide (V.byt i=V.byt j)=(i.toList==j.toList):=by
 rw[a05];cases i;cases j;simp
section
variable {X:Cx}{a b c:Expr}{ta tb tc:TE}{pos:Pos}
theorem fQ {σ:St}{H:Hp}{Q:VK}{k k':Bool}(I:Inv X pins σ H s)(q:Q (.bl k) H)(e:k=k'):EP X pins σ Q (.bool k') s:=by
 subst e;exact⟨.bl k,H,I,rfl,q⟩
theorem d14:OpR X (compareOp .Eq) rEq:=by
 intro pins s σ H x y v u Q I rx ry h;obtain⟨hs,q⟩:=h;cases x with
 | non=>
  cases rx;cases y with
  | non=>cases ry;exact PySem.EqNone.eq_none_none (fQ I q ae)
  | bl j=>cases ry;exact PySem.EqNone.eq_none_bool (fQ I q ae)
  | int j=>obtain⟨t',rfl⟩:=ry;exact PySem.EqNone.eq_none_int (fQ I q ae)
  | str j=>obtain⟨t',rfl⟩:=ry;exact PySem.EqNone.eq_none_str (fQ I q ae)
  | _=>exact absurd (show false=true from hs) bJ
 | bl i=>
  cases rx;cases y with
  | non=>cases ry;exact PySem.EqNone.eq_bool_none (fQ I q ae)
  | bl j=>cases ry;exact eq_bool (fQ I q bT7)
  | str j=>obtain⟨t',rfl⟩:=ry;exact PySem.EqMixed.eq_bool_str (fQ I q ae)
  | _=>exact absurd (show false=true from hs) bJ
 | int i=>
  obtain⟨t,rfl⟩:=rx;cases y with
  | non=>cases ry;exact PySem.EqNone.eq_int_none (fQ I q ae)
  | int j=>obtain⟨t',rfl⟩:=ry;exact eq_int (fQ I q b81)
  | str j=>obtain⟨t',rfl⟩:=ry;exact PySem.EqMixed.eq_int_str (fQ I q ae)
  | _=>exact absurd (show false=true from hs) bJ
 | str i=>
  obtain⟨t,rfl⟩:=rx;cases y with
  | non=>cases ry;exact PySem.EqNone.eq_str_none (fQ I q ae)
  | bl j=>cases ry;exact PySem.EqMixed.eq_str_bool (fQ I q ae)
  | int j=>obtain⟨t',rfl⟩:=ry;exact PySem.EqMixed.eq_str_int (fQ I q ae)
  | str j=>obtain⟨t',rfl⟩:=ry;exact eq_str (fQ I q b82)
  | _=>exact absurd (show false=true from hs) bJ
 | byt i=>
  obtain⟨t,rfl⟩:=rx;cases y with
  | byt j=>obtain⟨t',rfl⟩:=ry;exact PySem.W.eq_bytes (fQ I q cM1)
  | _=>exact absurd (show false=true from hs) bJ
 | _=>cases y<;>exact absurd (show false=true from hs) bJ
theorem d15:OpR X (compareOp .NotEq) rNe:=by
 intro pins s σ H x y v u Q I rx ry h;obtain⟨hs,q⟩:=h;cases x with
 | non=>
  cases rx;cases y with
  | non=>cases ry;exact PySem.EqNone.ne_none_none (fQ I q ae)
  | bl j=>cases ry;exact PySem.EqNone.ne_none_bool (fQ I q ae)
  | int j=>obtain⟨t',rfl⟩:=ry;exact PySem.EqNone.ne_none_int (fQ I q ae)
  | str j=>obtain⟨t',rfl⟩:=ry;exact PySem.EqNone.ne_none_str (fQ I q ae)
  | _=>exact absurd (show false=true from hs) bJ
 | bl i=>
  cases rx;cases y with
  | non=>cases ry;exact PySem.EqNone.ne_bool_none (fQ I q ae)
  | bl j=>cases ry;exact ne_bool (fQ I q<|cT not bT7)
  | str j=>obtain⟨t',rfl⟩:=ry;exact PySem.EqMixed.ne_bool_str (fQ I q ae)
  | _=>exact absurd (show false=true from hs) bJ
 | int i=>
  obtain⟨t,rfl⟩:=rx;cases y with
  | non=>cases ry;exact PySem.EqNone.ne_int_none (fQ I q ae)
  | int j=>obtain⟨t',rfl⟩:=ry;exact ne_int (fQ I q<|cT not b81)
  | str j=>obtain⟨t',rfl⟩:=ry;exact PySem.EqMixed.ne_int_str (fQ I q ae)
  | _=>exact absurd (show false=true from hs) bJ
 | str i=>
  obtain⟨t,rfl⟩:=rx;cases y with
  | non=>cases ry;exact PySem.EqNone.ne_str_none (fQ I q ae)
  | bl j=>cases ry;exact PySem.EqMixed.ne_str_bool (fQ I q ae)
  | int j=>obtain⟨t',rfl⟩:=ry;exact PySem.EqMixed.ne_str_int (fQ I q ae)
  | str j=>obtain⟨t',rfl⟩:=ry;exact ne_str (fQ I q<|cT not b82)
  | _=>exact absurd (show false=true from hs) bJ
 | byt i=>
  obtain⟨t,rfl⟩:=rx;cases y with
  | byt j=>obtain⟨t',rfl⟩:=ry;exact PySem.W.ne_bytes (fQ I q<|cT not cM1)
  | _=>exact absurd (show false=true from hs) bJ
 | _=>cases y<;>exact absurd (show false=true from hs) bJ
theorem op_lt:OpR X (compareOp .Lt) (rI0 λi j=> .bl (decide (i<j))):=dI6 λ_ _ _ _ _ _ _ q=>lt_int q
theorem op_le:OpR X (compareOp .LtE) (rI0 λi j=> .bl (decide (i<=j))):=dI6 λ_ _ _ _ _ _ _ q=>le_int q
theorem op_gt:OpR X (compareOp .Gt) (rI0 λi j=> .bl (decide (j<i))):=dI6 λ_ _ _ _ _ _ _ q=>gt_int q
theorem op_ge:OpR X (compareOp .GtE) (rI0 λi j=> .bl (decide (j<=i))):=dI6 λ_ _ _ _ _ _ _ q=>ge_int q
theorem bT8 (b:Expr)(h:⇑(op≠ .In))(h2:⇑(op≠ .NotIn)):behindInMarks op b=false:=by
 have e1:(op==CmpOp.In)=false:=by cases op<;>first|rfl|exact absurd rfl h
 have e2:(op==CmpOp.NotIn)=false:=by cases op<;>first|rfl|exact absurd rfl h2
 cases b<;>simp[behindInMarks,e1,e2]
theorem dI9 {r:R2}(ho:OpR X (compareOp op) r)(ha:PE X a ta)(hb:PE X b tb)(hm:behindInMarks op b=false):PE X (.Compare a [op] [b] pos) (tOp r ta tb):=by
 intro pins s σ H Q I h;exact wpAny_Compare1 (binT ha hb I h λv u s2 x y H2 I2 rx ry q=>ho pins s2 σ H2 x y v u Q I2 rx ry q) hm
def tTest (t:TE):TT:=λσ H Q=>t σ H λx H'=> ∃k,x= .bl k/\Q k H'
theorem dJ0 {r:R2}(ho:OpR X (compareOp op) r)(ha:PE X a ta)(hb:PE X b tb)(hm:behindInMarks op b=false):PT X (.Compare a [op] [b] pos) (tTest<|tOp r ta tb):=by
 intro pins s σ H Q I h;refine wpAny_isTrue_Compare1 (thn (ha pins s σ H _ I h) λv s1 ⟨x,H1,I1,r1,q1⟩=>thn (hb pins s1 σ H1 _ I1 q1) λu s2 ⟨y,H2,I2,r2,q2⟩=>
  thn (ho pins s2 σ H2 x y v u _ I2 r1 r2 q2) λc s3 ⟨z,H3,I3,r3,k,e,q3⟩=> ?_) hm
 subst e;cases r3;exact qW ⟨H3,I3,q3⟩
theorem aZ2:(sizeLine:Nat)<2^63:=by rw[sizeLine_eq];decide
theorem vals1 {x:V}(r:Vals [x] us): ∃u,us=[u]/\RelV x u:=by
 cases r with
 | cons r1 r2=>cases r2;exact⟨_,rfl,r1⟩
theorem vals2 {x y:V}(r:Vals [x,y] us): ∃u w',us=[u,w']/\RelV x u/\RelV y w':=by
 cases r with
 | cons r1 r2=>
  cases r2 with
  | cons r3 r4=>cases r4;exact⟨_,_,rfl,r1,r3⟩
theorem d16:tN X (.builtin "abs") (λxs H Q=> ∃i,xs=[.int i]/\Q (.int<|if i<0 then -i else i) H):=by
 intro pins s σ H xs us Q I r h;obtain⟨i,rfl,q⟩:=h;obtain⟨u,rfl,t,rfl⟩:=vals1 r;exact call_abs_int λu tk=>⟨.int<|if i<0 then -i else i,H,I.tok _,⟨_,rfl⟩,q⟩
theorem cT6 (hc:X.calm=true):tN X (.builtin "max") (λxs H Q=> ∃i j,xs=[.int i,.int j]/\Q (.int<|if j>i then j else i) H):=by
 intro pins s σ H xs us Q I r h;obtain⟨i,j,rfl,q⟩:=h;obtain⟨u,w',rfl,⟨t,rfl⟩,⟨t',rfl⟩⟩:=vals2 r;refine max_two_ints (I.ok.hd hc) λh' tk k=>⟨_,H,I.kept k,?_,q⟩
 by_cases hj:j>i
 .rw[aA hj,aA hj];exact⟨_,rfl⟩
 .rw[a9 hj,a9 hj];exact⟨_,rfl⟩
theorem cT7 (hc:X.calm=true):tN X (.builtin "min") (λxs H Q=> ∃i j,xs=[.int i,.int j]/\Q (.int<|if j<i then j else i) H):=by
 intro pins s σ H xs us Q I r h;obtain⟨i,j,rfl,q⟩:=h;obtain⟨u,w',rfl,⟨t,rfl⟩,⟨t',rfl⟩⟩:=vals2 r;refine min_two_ints (I.ok.hd hc) λh' tk k=>⟨_,H,I.kept k,?_,q⟩
 by_cases hj:j<i
 .rw[aA hj,aA hj];exact⟨_,rfl⟩
 .rw[a9 hj,a9 hj];exact⟨_,rfl⟩
end
structure cT8 (h:Heap)(x dx C:Addr)(mA:Str->Option Value):Prop where
 obj:h.get? x=some (instObj C dx)
 ns:h.Ns1 dx mA
 ne:dx≠x
theorem cT9 {mA:Str->Option Value}(n:h.Ns1 dx mA): ∃od,h.get? dx=some od/\ ∀name,lookIn name od=some (mA name):=by
 obtain⟨o,es,ep,ho,hd,hk,_,hm⟩:=n;refine⟨o,ho,λname=> ?_⟩
 have e:=hm name;unfold nsFind findBy at e;rw[<-Array.find?_toList]at e;unfold lookIn;rw[hd];dsimp only;split
 .rename_i y q
  rw[q]at e;exact cT some e
 .rename_i q
  rw[q]at e;have a:es.toList.any (·.refKey)=false:=by
   rw[List.any_eq_false];intro y hy;obtain⟨z,t,hkey⟩:=hk y (Array.mem_toList_iff.mp hy);simp[DictEntry.refKey,hkey]
  have a': ¬es.toList.any (·.refKey)=true:=by rw[a];exact bJ
  rw[a9 a'];exact cT some e
theorem cT8.look {x:Addr}{mA:Str->Option Value}(I:cT8 h x dx C mA): ∃od,InstAt h x (instObj C dx) C (some od)/\ ∀name,lookIn name od=some (mA name):=
 let ⟨od,ho,hl⟩:=cT9 I.ns
 ⟨od,⟨I.obj,rfl,rfl,ho⟩,hl⟩
section
variable {prog:Program}{w:World}{A:Around}{E:Value->Shared->Prop}{s:Shared}{K:Frag}{x dx C f:Addr}{mA:Str->Option Value}{name:Str}{v:Value}
theorem dJ1 {expr:Bool}(X:K.In s.heap)(I:cT8 s.heap x dx C mA)(hg:plainGet K C name=true)(hh:hasDictIn K C=true)
  (ha:findIn K (.ref C) name=some none) (hv:mA name=some v) (hv':PySem.W.handedIn v=true) (h:Q v {s with toks:=s.toks+1}) :
  wpAny (model prog w) A (getAttr (.ref x) name expr) Q E s:=by
 obtain⟨od,J,hl⟩:=I.look;exact PySem.W.get_value X J (PySem.W.plainGet_of hg).1 (PySem.W.findObj_own hh ha rfl (by rw[hl,hv])) hv' h
theorem dJ2 {ns:List Str}{Q:Unit->Shared->Prop}(X:K.In s.heap)(I:cT8 s.heap x dx C mA)
  (hs:findIn K (.ref C) "__setattr__"=some (some<|.builtin "object.__setattr__")) (hp:plainOver K C=true) (ht:takerIn K C name=some none) (hh:hasDictIn K C=true)
  (hw:PySem.Within mA ns) (hsz:ns.length<=sizeLine)
  (h: ∀h',cT8 h' x dx C (λy=>if y=name then some v else mA y)->SameBut dx s.heap h'->Q () {s with heap:=h',toks:=s.toks+2}) :
  wpAny (model prog w) A (setAttr (.ref x) name v) Q E s:=by
 obtain⟨od,J,hl⟩:=I.look;refine PySem.W.set_plain X J hs (PySem.W.osa_open (s:={s with toks:=s.toks+1}) (r:=none) X J hp ht λb=> ?_)
 obtain⟨cd,hc,hd'⟩:=PySem.W.any_some hh;have hx:s.heap.get? x=some ⟨.ref C,some dx,.plain,#[]⟩:=I.obj;refine aB (aL<|aB<|aB<|wpAny_loadPart hx<|aB<|PySem.W.Looks.here (s:={s with toks:=s.toks+1}) (aN6 X hc) ?_);rw[hd'];refine aL (a:=some dx) (aB<|aL<|aB ?_);refine wpAny_nsSet1 (s:={s with toks:=s.toks+1}) I.ns λh' hn2 hs2=> ?_
 obtain⟨oD,esD,epD,hoD,hdD,hcD⟩:=hn2.count (PySem.Within.cons name v hw);refine aB (wpAny_lookBehind hoD (by rw[hdD];exact pastItsLine_dict (aM hcD (by rw[fL];lia))) ?_)
 exact aL (h _ ⟨(hs2.2 _<|Ne.symm I.ne).trans I.obj,hn2,I.ne⟩ hs2)
theorem c24 {R:Result->Shared->Prop}{vs:List Value}(X:K.In s.heap)(hm:makesIn K C=true)
  (hi:findIn K (.ref C) "__init__"=some (some<|.ref f)) (hf:PySem.W.typeIn K (.ref f)=some (.type "function"))
  (h:codeAny (model prog w) (A.under<|.builtin "type.__call__" ⟨.ref C::vs,kw⟩) (.call (.ref f) ⟨.ref (s.heap.objs.size+1)::vs,kw⟩) (PySem.W.InitBack (s.heap.objs.size+1) R)
   {s with heap:=(s.heap.push emptyDict).push (instObj C s.heap.objs.size)}) :
  codeAny (model prog w) A (.call (.ref C) ⟨vs,kw⟩) R s:=by
 obtain⟨hh,g,d,t,os⟩:=s;exact PySem.W.make_core (PySem.W.makes_of X hm) (PySem.W.looks_findIn X hi) (λself=>PySem.W.bind_fn X self hf) (.inl rfl) h
end
noncomputable def wF (f:Str)(v:V):List (Str×V)->List (Str×V)
 | []=>[(f,v)]
 | (g,x)::r=>if g=f then(g,v)::r else(g,x)::wF f v r
theorem b37 (f g:Str)(v:V): ∀fs:List (Str×V),(wF f v fs).lookup g=if g=f then some v else fs.lookup g
 | []=>by
  show List.lookup g [(f,v)]=_
  by_cases h:g=f
  .have hb:(g==f)=true:=gP.mpr h;simp only[List.lookup,hb,aA h]
  .have hb:(g==f)=false:=qP.mpr h;simp only[List.lookup,hb,a9 h]
 | (k,x)::r=>by
  have ih:=b37 f g v r;rw[show wF f v ((k,x)::r)=(if k=f then(k,v)::r else(k,x)::wF f v r)from rfl]
  by_cases hk:k=f
  .rw[aA hk]
   by_cases h:g=k
   .have hb:(g==k)=true:=gP.mpr h;simp only[List.lookup,hb,aA<|h.trans hk]
   .have hb:(g==k)=false:=qP.mpr h;simp only[List.lookup,hb,a9 (λe:g=f=>h (e.trans hk.symm))]
  .rw[a9 hk]
   by_cases h:g=k
   .have hb:(g==k)=true:=gP.mpr h;simp only[List.lookup,hb,a9 (λe:g=f=>hk (h.symm.trans e))]
   .have hb:(g==k)=false:=qP.mpr h;simp only[List.lookup,hb];exact ih
theorem aZ3 (f:Str)(v:V): ∀fs:List (Str×V),f∈(wF f v fs).map (·.1)/\ ∀g,g∈fs.map (·.1)->g∈(wF f v fs).map (·.1)
 | []=>⟨by simp[wF],λg h=>by simp at h⟩
 | (k,x)::r=>by
  obtain⟨i1,i2⟩:=aZ3 f v r;rw[show wF f v ((k,x)::r)=(if k=f then(k,v)::r else(k,x)::wF f v r)from rfl]
  by_cases hk:k=f
  .rw[aA hk];subst hk;exact⟨ae,λg h=>by simpa using h⟩
  .rw[a9 hk];refine⟨?_,λg h=> ?_⟩
   .rw[cR];exact dS _ i1
   .rw[cR]at h⊢;rcases bE.mp h with e|e
    .exact bE.mpr (.inl e)
    .exact dS _ (i2 g e)
theorem b38 (f:Str)(v:V): ∀fs:List (Str×V),(wF f v fs).length<=fs.length+1
 | []=>by simp[wF]
 | (k,x)::r=>by
  have ih:=b38 f v r;rw[show wF f v ((k,x)::r)=(if k=f then(k,v)::r else(k,x)::wF f v r)from rfl]
  by_cases hk:k=f
  .rw[aA hk,fL,fL];lia
  .rw[a9 hk,fL,fL];lia
theorem cD6.some_of {v:V}{o:Option Value}(r:cD6 (some v) o): ∃u,o=some u/\RelV v u:=by
 cases o with
 | none=>exact(show False from r).elim
 | some u=>exact⟨u,rfl,r⟩
theorem cU0 {v:V}(r:RelV v u):PySem.W.handedIn u=true:=by
 cases v with
 | non=>cases (show u=Value.none from r);rfl
 | bl b=>cases (show u=Value.bool b from r);rfl
 | int i=>obtain⟨t,e⟩:=(show ∃t,u=Value.int i t from r);cases e;rfl
 | str x=>obtain⟨t,e⟩:=(show ∃t,u=Value.str x t from r);cases e;rfl
 | byt b=>obtain⟨t,e⟩:=(show ∃t,u=Value.bytes b t from r);cases e;rfl
 | flt b=>obtain⟨t,e⟩:=(show ∃t,u=Value.float b t from r);cases e;rfl
 | ref a=>cases (show u=Value.ref a from r);rfl
 | ty n=>cases (show u=Value.type n from r);rfl
section
variable {P:Program}{w:World}{H H':Hp}{h h':Heap}{a C dx:Addr}{fs fs':List (Str×V)}
theorem cM2 (hok:HOk P w H h)(e:H a=some (.ins C dx fs)): ∃mA,cT8 h a dx C mA/\(∀f,cD6 (fs.lookup f)<|mA f)/\PySem.Within mA (fs.map (·.1))/\fs.length<=1000/\H dx=some (.own a):=by
 obtain⟨d,z,ne,ob,mA,n,r,q⟩:=(show sI P w H h a (.ins C dx fs)from hok a _ e)
 exact⟨mA,⟨ob,n,ne⟩,r,q,z,d⟩
end
structure Cls (K:Frag)(C:Addr):Prop where
 pg:plainGet K C Str.empty=true
 hd:hasDictIn K C=true
 po:plainOver K C=true
 sa:findIn K (.ref C) "__setattr__"=some (some<|.builtin "object.__setattr__")
theorem Cls.get (c:Cls K C)(f:Str):plainGet K C f=true:=c.pg
def a89 (K:Frag)(C:Addr)(f:Str):Prop:=findIn K (.ref C) f=some none
theorem a89.taker {f:Str}(n:a89 K C f):takerIn K C f=some none:=by
 unfold takerIn;rw[show findIn K (.ref C) f=some none from n]
 rfl
section
variable {X:Cx}{pins:List (Addr×Obj)}{σ:St}{H:Hp}{s:Shared}{a C dx:Addr}{fs:List (Str×V)}{f:Str}{v:V}{A:Around}{E:Value->Shared->Prop}
theorem cE0 {b:Bool}(I:Inv X pins σ H s)(e:H a=some (.ins C dx fs))(c:Cls X.K C)(n:a89 X.K C f)(l:fs.lookup f=some v)
  (h: ∀u s',Inv X pins σ H s'->RelV v u->Q u s'):wpAny (model X.prog X.w) A (getAttr (.ref a) f b) Q E s:=by
 obtain⟨mA,O,r,_,_,_⟩:=cM2 I.hok e;obtain⟨u,hu,ru⟩:=cD6.some_of (v:=v) (o:=mA f) (by rw[<-l];exact r f)
 exact dJ1 I.kIn O (c.get f) c.hd n hu (cU0 ru) (h u _ (I.tok _) ru)
theorem cE1 {y:V}{Q:Unit->Shared->Prop}(I:Inv X pins σ H s)(e:H a=some (.ins C dx fs))(c:Cls X.K C)(n:a89 X.K C f)(hl:fs.length<1000)(ry:RelV y u)
  (h: ∀s',Inv X pins σ (upd H a<|.ins C dx<|wF f y fs) s'->Q () s'):wpAny (model X.prog X.w) A (setAttr (.ref a) f u) Q E s:=by
 obtain⟨mA,O,r,wi,_,ho⟩:=cM2 I.hok e;have hz:(fs.map (·.1)).length<=sizeLine:=by rw[aO,sizeLine_eq];lia
 refine dJ2 I.kIn O c.sa c.po n.taker c.hd wi hz λh' O' sb=>h _ ?_
 have hd: ∃o,h'.get? dx=some o:=let ⟨o,_,_,e',_⟩:=O'.ns;⟨o,e'⟩;refine I.write (x:=a) (e:=dx) (by rw[e];exact True.intro) (.inr ho) (λb q hb z=>(sb.2 b hb).trans z) hd ?_
 refine⟨by rw[cE O.ne];exact ho,?_,O.ne,O'.obj,_,O'.ns,λg=> ?_,λg hg=> ?_⟩
 .have:=b38 f y fs;lia
 .show cD6 ((wF f y fs).lookup g) (if g=f then some u else mA g)
  rw[b37]
  by_cases q:g=f
  .rw[aA q,aA q];exact ry
  .rw[a9 q,a9 q];exact r g
 .by_cases q:g=f
  .rw[q];exact(aZ3 f y fs).1
  .refine(aZ3 f y fs).2 g (wi g λz=>hg ?_)
   show(if g=f then some u else mA g)=none
   rw[a9 q];exact z
theorem Inv.made (I:Inv X pins σ H s):Inv X pins σ (upd (upd H s.heap.objs.size<|.own<|s.heap.objs.size+1) (s.heap.objs.size+1)<|.ins C s.heap.objs.size [])
  {s with heap:=(s.heap.push emptyDict).push (instObj C s.heap.objs.size)}:=by
 have e1:(s.heap.push emptyDict).get? s.heap.objs.size=some emptyDict:=bX s.heap rfl;have e2:((s.heap.push emptyDict).push<|instObj C s.heap.objs.size).get? (s.heap.objs.size+1)=some (instObj C s.heap.objs.size):=by
  have:=bX (s.heap.push emptyDict) (o:=instObj C s.heap.objs.size) rfl
  rwa [jG]at this
 have e3:(s.heap.push emptyDict).Ns s.heap.objs.size (λ_=>none):=⟨emptyDict,#[],_,e1,rfl,(λe he=>absurd he ae),λ_=>rfl⟩
 have I1:=I.laid (a:=s.heap.objs.size) (o:= .own (s.heap.objs.size+1)) (h':=s.heap.push emptyDict) (t':=s.toks) (λb u q=>aW _ q) (aG _) ⟨_,e1⟩
 refine I1.laid (a:=s.heap.objs.size+1) (o:= .ins C s.heap.objs.size []) (t':=s.toks) (λb u q=>aW _ q) (le_of_eq<|jG _ _) ?_
 have ne:s.heap.objs.size≠s.heap.objs.size+1:=bL (qZ _);refine⟨by rw[cE ne,j0],cK _,ne,e2,λ_=>none,(Heap.Ns1.of_empty e3).at λo q=>aW _ q,λ_=>True.intro,λy hy=>absurd rfl hy⟩
theorem dJ3 {f:Str}{s:Shared}(hb:attributeBase e f env (eval e env)=eval e env)
  (h:wpAny (model prog w) A (eval e env) (λo s₁=>wpAny (model prog w) A (getAttr o f true) Q E s₁) E s):wpAny (model prog w) A (eval (.Attribute e f pos) env) Q E s:=
 Attribute_any_ h (by rw[arm_eval_Attribute,hb])
end
def tFld (K:Frag)(ta:TE)(f:Str):TE:=λσ H Q=>ta σ H λx H1=> ∃a C dx fs v,x= .ref a/\H1 a=some (.ins C dx fs)/\Cls K C/\a89 K C f/\fs.lookup f=some v/\Q v H1
def d17 (K:Frag)(ta tv:TE)(f:Str):TS:=λD σ H=>tv σ H λy H1=>ta σ H1 λx H2=> ∃a C dx fs,x= .ref a/\H2 a=some (.ins C dx fs)/\Cls K C/\a89 K C f/\fs.length<1000/\
 D.nx σ (upd H2 a<|.ins C dx<|wF f y fs)
section
variable {X:Cx}{o e value:Expr}{f:Str}{pos pos' tpos:Pos}{ta tv:TE}
theorem pe_fld (he:PE X e ta)(hb:attributeBase e f X.env (eval e X.env)=eval e X.env):PE X (.Attribute e f pos) (tFld X.K ta f):=by
 intro pins s σ H Q I h;refine dJ3 hb (thn (he pins s σ H _ I h) λu s1 zz=> ?_)
 obtain⟨x,H1,I1,rx,a,C,dx,fs,v,ex,ea,c,n,l,q⟩:=zz;subst ex;obtain rfl:u=Value.ref a:=rx;exact cE0 I1 ea c n l λu' s2 I2 ru=>⟨v,H1,I2,ru,q⟩
theorem cE2 (ha:PE X o ta)(hv:PE X value tv)(hs:swapsWith value (some<|.Attribute o f pos') pos.line X.env=pure false):PS X (.Assign [.Attribute o f pos'] value pos) (d17 X.K ta tv f):=by
 intro pins s σ H D I h;refine aL3 (thn (hv pins s σ H _ I h) λu s1 ⟨y,H1,I1,ry,q⟩=>thn (ha pins s1 σ H1 _ I1 q) λov s2 zz=> ?_) hs
 obtain⟨x,H2,I2,rx,a,C,dx,fs,ex,ea,c,n,l,q2⟩:=zz;subst ex;obtain rfl:ov=Value.ref a:=rx;exact cE1 I2 ea c n l ry λs3 I3=>⟨σ,_,I3,q2⟩
end
structure i8 (k:Nat)(A:Around):Prop where
 hd:A.handled=none
 dp:A.depth+3*k+5<recursionLimit
 un:A.units+16*k+200<cLine
theorem i8.mono (r:i8 k A)(h:j<=k):i8 j A:=⟨r.hd,by have:=r.dp;lia,by have:=r.un;lia⟩
theorem i8.deeper (r:i8 (k+1) A)(env:Env):i8 k (A.deeper env):=
 ⟨r.hd,by have:=r.dp;show A.depth+1+3*k+5<_;lia,by have:=r.un;show A.units+3+16*k+200<_;lia⟩
theorem cE3 :(A.under<|.builtin "type.__call__" ⟨.ref C::us,kw⟩).depth=A.depth+1:=by
 first|rfl|simp[Around.under,Code.weight,Code.isCreation,Code.isGuard,Code.isCaller,Code.frames,Code.isFrame,guardIds]
theorem cE4 :(A.under<|.builtin "type.__call__" ⟨.ref C::us,kw⟩).units=A.units+1:=by
 first|rfl|simp[Around.under,Code.cUnits,Code.frames,Code.isFrame]
theorem i8.make (r:i8 (k+1) A)(C:Addr)(us:List Value)(kw:List (Str×Value)):i8 k (A.under<|.builtin "type.__call__" ⟨.ref C::us,kw⟩):=
 ⟨r.hd,by have:=r.dp;rw[cE3];omega,by have:=r.un;rw[cE4];omega⟩
theorem i8.depth (r:i8 k A):A.depth<recursionLimit:=by have:=r.dp;lia
theorem i8.units (r:i8 k A):A.units+64<cLine:=by have:=r.un;lia
def tNil:TA:=λ_ H Q=>Q [] H
def tCons (ta:TE)(tr:TA):TA:=λσ H Q=>ta σ H λx H1=>tr σ H1 λxs H2=>Q (x::xs) H2
section
variable {X:Cx}{e:Expr}{es:List Expr}{te:TE}{t:TA}{pos:Pos}
theorem cE5:PA X [] tNil:=λ_ _ _ _ H Q I h=>Calls.spliced_nil ⟨[],H,I,.nil,h⟩
theorem bT9 (ha:PE X e te)(hr:PA X es t)(hs:↥(starEach (e::es) X.env=(false,eval e X.env)::starEach es X.env)):PA X (e::es) (tCons te t):=by
 intro pos pins s σ H Q I h;rw[hs];show wpAny _ _ (spliced ((false,eval e X.env)::backTo pos (starEach es X.env))) _ _ s;refine Calls.spliced_cons (thn (ha pins s σ H _ I h) λu s1 ⟨x,H1,I1,r1,q1⟩=> ?_)
 exact thn (hr pos pins s1 σ H1 _ I1 q1) λus s2 ⟨xs,H2,I2,r2,q2⟩=>⟨x::xs,H2,I2,.cons r1 r2,q2⟩
def tTup (t:TA):TE:=λσ H Q=>t σ H λxs H1=>xs.length<=sizeLine/\ ∀p,H1 p=none->Q (.ref p) (upd H1 p<|.tup xs)
def tLst (t:TA):TE:=λσ H Q=>t σ H λxs H1=>xs.length<=sizeLine/\ ∀p,H1 p=none->Q (.ref p) (upd H1 p<|.lst xs)
theorem pe_tup {x1}(h:PA X es t):PE X (.Tuple es x1 pos) (tTup t):=by
 intro pins s σ H Q I hq;refine wpAny_Tuple_spliced (thn (h pos pins s σ H _ I hq) λus s1 ⟨xs,H1,I1,r,z,q⟩=>⟨by rw[<-r.length];exact z,?_⟩)
 have hf:H1 s1.heap.objs.size=none:=I1.hok.fresh (aG _);refine⟨.ref s1.heap.objs.size,upd H1 s1.heap.objs.size<|.tup xs,I1.laid (t':=s1.toks) (λb u e=>aW _ e) (aG _) ?_,rfl,q _ hf⟩
 exact⟨z,us,r,⟨_,bX _ rfl,rfl,_,rfl⟩⟩
theorem pe_lst (h:PA X es t):PE X (.List es pos) (tLst t):=by
 intro pins s σ H Q I hq;refine wpAny_List_spliced (thn (h pos pins s σ H _ I hq) λus s1 ⟨xs,H1,I1,r,z,q⟩=>⟨by rw[<-r.length];exact z,?_⟩)
 have hf:H1 s1.heap.objs.size=none:=I1.hok.fresh (aG _);refine⟨.ref s1.heap.objs.size,upd H1 s1.heap.objs.size<|.lst xs,I1.laid (t':=s1.toks) (λb u e=>aW _ e) (aG _) ?_,rfl,q _ hf⟩
 exact⟨z,us,0,r,bX _ rfl⟩
end
abbrev Sp:=List V->Hp->VK->XK->Prop
abbrev CXT:=List Env->Hp->Shared->XK->Value->Shared->Prop
structure cE6 (P:Program)(w:World)(K:Frag)(mg:Str->Option Value)(base:Heap)(A:Around)(outer:List Env)(s:Shared)(H:Hp):Prop where
 frames:A.frames=some outer
 mod:Mod K mg base
 bs: ∀b o,base.get? b=some o->s.heap.get? b=some o/\H b=none
 bsz:base.objs.size<=s.heap.objs.size
 funs:s.heap.FunFrames base outer
 frf: ∀b∈frs outer,H b=none
 hok:HOk P w H s.heap
 bare:AllBare s.gens
def CE (outer:List Env)(P:Program)(w:World)(H:Hp)(s:Shared)(Q:VK)(u:Value)(s':Shared):Prop:=
 ∃v H',s'.os=s.os/\AllBare s'.gens/\Un (frs outer) [] H H' s.heap s'.heap/\HOk P w H' s'.heap/\RelV v u/\Q v H'
def CR (CX:CXT)(outer:List Env)(P:Program)(w:World)(H:Hp)(s:Shared)(Q:VK)(E:XK)(r:Result)(s':Shared):Prop:=
 match r with
 | .ok (.ret u)=>CE outer P w H s Q u s'
 | .ok _=>False
 | .error e=>CX outer H s E e s'
structure tX (P:Program)(w:World)(K:Frag)(mg:Str->Option Value)(base:Heap)(CX:CXT)(k:Nat)(f:Addr)(fd:FuncData)(ps:List Str)(sp:Sp):Prop where
 len: ∀vs H Q E,sp vs H Q E->vs.length=ps.length
 run: ∀(A:Around) (outer:List Env) (s:Shared) (H:Hp) (args:Args) (us:List Value) (vs:List V) (Q:VK) (E:XK),i8 k A->cE6 P w K mg base A outer s H->BindsTo s fd args (ps.zip us)->Vals vs us->sp vs H Q E->
  codeAny (model P w) A (.call (.ref f) args) (CR CX outer P w H s Q E) s
theorem tX.mono {CX:CXT}{ps:List Str}{sp:Sp}(F:tX P w K mg base CX j f fd ps sp)(h:j<=k) :
  tX P w K mg base CX k f fd ps sp:=⟨F.len,λA outer s H args us vs Q E hr=>F.run A outer s H args us vs Q E (hr.mono h)⟩
theorem cE6.make {H:Hp}(e:cE6 P w K mg base A outer s H)(C:Addr)(us:List Value)(kw:List (Str×Value)) :
  cE6 P w K mg base (A.under<|.builtin "type.__call__" ⟨.ref C::us,kw⟩) outer s H:=⟨by first|exact e.frames| (simpa[Around.under,Code.envs,Code.isFrame,pushEnvs]using e.frames),e.mod,e.bs,e.bsz,e.funs,e.frf,e.hok,e.bare⟩
section
variable {X:Cx}{pins:List (Addr×Obj)}{σ:St}{H:Hp}{s s':Shared}
theorem Inv.env0 (I:Inv X pins σ H s):cE6 X.prog X.w X.K X.mg X.base X.A X.stack s H:=
 ⟨I.ok.frames,I.ok.mod,I.bs,aM I.ok.bsz I.sz,I.stack,I.stkFree,I.hok,I.bare⟩
theorem Inv.after {Q:VK}(I:Inv X pins σ H s)(h:CE X.stack X.prog X.w H s Q u s'):EP X pins σ Q u s':=by
 obtain⟨v,H',os,bare,un,hok,r,q⟩:=h;obtain⟨hh,g,d,t,os'⟩:=s';obtain rfl:os'=s.os:=os;exact⟨v,H',I.call (h':=hh) (g':=g) (d':=d) (t':=t) (ch:=[]) un hok bare λb z=>absurd z ae,r,q⟩
end
def d18 (sp:Sp)(dvs:List V)(E:XK)(t:TA):TE:=λσ H Q=>t σ H λvs H1=>sp (vs++dvs) H1 Q E
def cM3 (C:Addr)(sp:Sp)(dvs:List V)(E:XK)(t:TA):TE:=λσ H Q=>t σ H λvs H1=> ∀x dx,H1 x=none->H1 dx=none->dx≠x->
 sp (.ref x::(vs++dvs)) (upd (upd H1 dx<|.own x) x<|.ins C dx []) (λv H2=>v= .non/\Q (.ref x) H2) E
def Binds (K:Frag)(fd:FuncData)(ps:List Str)(ds:List Value):Prop:=
 ∀(s:Shared) (us:List Value),K.In s.heap->(us++ds).length=ps.length->BindsTo s fd ⟨us,[]⟩ (ps.zip<|us++ds)
theorem Binds.all {ps:List Str}(h: ∀us:List Value,us.length=ps.length->bindArgs fd ⟨us,[]⟩=pure (ps.zip us)):Binds K fd ps []:=λs us _ hl=>by
 rw[kG]at hl⊢;exact .of_eq (h us hl)
def wZ (CX:CXT)(X:Cx)(E:XK):Prop:= ∀(pins:List (Addr×Obj)) (σ:St) (H:Hp) (s:Shared) (e:Value) (s':Shared),Inv X pins σ H s->CX X.stack H s E e s'->X.xe e s'
section
variable {X:Cx}{CX:CXT}{k:Nat}{f C:Addr}{fd:FuncData}{ps:List Str}{sp:Sp}{dvs:List V}{ds:List Value}{E:XK}{x m:Str}{p pos apos:Pos}{e o:Expr}{es:List Expr}{ta:TE}{t:TA}
theorem d19 {pins:List (Addr×Obj)}{σ:St}{H:Hp}{s:Shared}{Q:VK}{us:List Value}{vs:List V}(F:tX X.prog X.w X.K X.mg X.base CX k f fd ps sp)(hr:i8 k X.A)(hb:Binds X.K fd ps ds)(hd:Vals dvs ds)(hx:wZ CX X E)
  (I:Inv X pins σ H s) (r:Vals vs us) (h:sp (vs++dvs) H Q E):wpAny (model X.prog X.w) X.A (call (.ref f) us) (EP X pins σ Q) X.xe s:=by
 have r2:Vals (vs++dvs) (us++ds):=r.append hd;have hl:(us++ds).length=ps.length:=by rw[<-r2.length];exact F.len _ _ _ _ h
 refine v7 (rC (F.run X.A X.stack s H ⟨us,[]⟩ (us++ds) (vs++dvs) Q E hr I.env0 (hb s us I.kIn hl) r2 h) λr s' hq=> ?_)
 cases r with
 | error e=>exact hx pins σ H s e s' I hq
 | ok fl=>
  cases fl with
  | ret u=>exact I.after hq
  | next=>exact False.elim hq
  | brk=>exact False.elim hq
  | cont=>exact False.elim hq
theorem cM4 (F:tX X.prog X.w X.K X.mg X.base CX k f fd ps sp)(hr:i8 k X.A)(hg:Gl X x)(hm:X.mg x=some (.ref f))(hk:keepIn X.K (.ref f)=true)(hb:Binds X.K fd ps ds)(hd:Vals dvs ds)(hx:wZ CX X E)
  (ha:PA X (e::es) t) (hdb:⇑((x==("__debug__":Str))=false)) (he:↥(starEach (e::es) X.env=(false,eval e X.env)::starEach es X.env)) (hpl:↥((backTo pos<|starEach es X.env).any (·.1)=false)) :
  PE X (.Call (.Name x p) (e::es) [] pos) (d18 sp dvs E t):=by
 intro pins s σ H Q I h;refine qR (wJ I hg hm ?_ hdb);refine aN9 (h₀:=X.base) I.ok.mod.kin hk (thn (ha pos pins s σ H _ I h) λus s1 ⟨vs,H1,I1,r,q⟩=>⟨I1.kIn,?_⟩) he hpl
 exact d19 F hr hb hd hx I1 r q
theorem d20 (F:tX X.prog X.w X.K X.mg X.base CX k f fd ps sp)(hr:i8 k X.A)(hg:Gl X x)(hm:X.mg x=some (.ref f))(hk:keepIn X.K (.ref f)=true)(hb:Binds X.K fd ps ds)(hd:Vals dvs ds)(hx:wZ CX X E)
  (hdb:⇑((x==("__debug__":Str))=false)):PE X (.Call (.Name x p) [] [] pos) (d18 sp dvs E tNil):=by
 intro pins s σ H Q I h;refine qR (wJ I hg hm ?_ hdb);exact PySem.W.callWith_K0 I.kIn hk (d19 (us:=[]) F hr hb hd hx I .nil h)
structure Mk (K:Frag)(C f:Addr):Prop where
 makes:makesIn K C=true
 init:findIn K (.ref C) "__init__"=some (some<|.ref f)
 fn:PySem.W.isFn K (.ref f)=true
 kp:keepIn K (.ref C)=true
theorem d21 {pins:List (Addr×Obj)}{σ:St}{H:Hp}{s:Shared}{Q:VK}{us:List Value}{vs:List V}(M:Mk X.K C f)(F:tX X.prog X.w X.K X.mg X.base CX k f fd ps sp)(hr:i8 (k+1) X.A)(hb:Binds X.K fd ps ds)(hd:Vals dvs ds)
  (hx:wZ CX X E) (I:Inv X pins σ H s) (r:Vals vs us)
  (h: ∀x dx,H x=none->H dx=none->dx≠x->sp (.ref x::(vs++dvs)) (upd (upd H dx<|.own x) x<|.ins C dx []) (λv H2=>v= .non/\Q (.ref x) H2) E) :
  wpAny (model X.prog X.w) X.A (call (.ref C) us) (EP X pins σ Q) X.xe s:=by
 have hq:=h (s.heap.objs.size+1) s.heap.objs.size (I.hok.fresh<|v4 _) (I.hok.fresh<|aG _) (bL<|qZ _);have I2:=Inv.made (C:=C) I;have r2:Vals (V.ref (s.heap.objs.size+1)::(vs++dvs)) (Value.ref (s.heap.objs.size+1)::(us++ds)):= .cons rfl (r.append hd);have hl:(Value.ref (s.heap.objs.size+1)::us++ds).length=ps.length:=by
  have e:=r2.length;rw[F.len _ _ _ _ hq]at e;exact e.symm
 refine v7 (c24 (f:=f) I.kIn M.makes M.init (gP.mp M.fn) (rC (F.run _ X.stack _ _ ⟨Value.ref (s.heap.objs.size+1)::us,[]⟩ (Value.ref (s.heap.objs.size+1)::(us++ds)) _ _ E (hr.make C us [])
  (I2.env0.make C us []) (hb _ (Value.ref (s.heap.objs.size+1)::us) I2.kIn hl) r2 hq) λr s' hq'=> ?_))
 cases r with
 | error e=>exact hx pins σ _ _ e s' I2 hq'
 | ok fl=>
  cases fl with
  | ret u=>
   obtain⟨v,H',I3,rv,ev,q3⟩:=I2.after hq';subst ev;exact⟨rv,⟨V.ref<|s.heap.objs.size+1,H',I3,rfl,q3⟩⟩
  | next=>exact False.elim hq'
  | brk=>exact False.elim hq'
  | cont=>exact False.elim hq'
theorem dJ4 (M:Mk X.K C f)(F:tX X.prog X.w X.K X.mg X.base CX k f fd ps sp)(hr:i8 (k+1) X.A)(hg:Gl X x)(hm:X.mg x=some (.ref C))(hb:Binds X.K fd ps ds)(hd:Vals dvs ds)(hx:wZ CX X E)
  (ha:PA X (e::es) t) (hdb:⇑((x==("__debug__":Str))=false)) (he:↥(starEach (e::es) X.env=(false,eval e X.env)::starEach es X.env)) (hpl:↥((backTo pos<|starEach es X.env).any (·.1)=false)) :
  PE X (.Call (.Name x p) (e::es) [] pos) (cM3 C sp dvs E t):=by
 intro pins s σ H Q I h;refine qR (wJ I hg hm ?_ hdb);refine aN9 (h₀:=X.base) I.ok.mod.kin M.kp (thn (ha pos pins s σ H _ I h) λus s1 ⟨vs,H1,I1,r,q⟩=>⟨I1.kIn,?_⟩) he hpl
 exact d21 M F hr hb hd hx I1 r q
end
section
variable {X:Cx}{CX:CXT}{k:Nat}{f C:Addr}{fd:FuncData}{ps ks:List Str}{sp:Sp}{E:XK}{x m:Str}{p pos apos kpos:Pos}{e o:Expr}{es:List Expr}{kws:List Keyword}{te ta:TE}{t tk:TA}{nm:Option Str}
variable {g:List Value->List Value->List Value}{gV:List V->List V->List V}
end
structure b9 (N P:List Str)(sc:Scope):Prop where
 kind:sc.kind= .function
 co:sc.isCoroutine=false
 gen:sc.isGenerator=false
 nd:N.Nodup
 pre:N.take P.length=P
 par: ∀x∈P,sc.names.lookup x=some .local\/sc.names.lookup x=some .cell
 nofree: ∀y∈sc.names,y.2≠ .free
theorem bO3 {kindOf:Str->Option NameKind}{x:Str}: ∀{binds:List (Str×Value)} {m:Str->Option Value},(∀v,(x,v) ∉ binds)->bindL kindOf binds m x=m x
 | [],_,_=>rfl
 | (n,v)::r,m,h=>by
  unfold bindL;rw[bO3 λw hw=>h w (dS _ hw)]
  split
  .have:x≠n:=by rintro rfl;exact h v jD
   simp[this]
  .rfl
theorem bO4 {kindOf:Str->Option NameKind}{x:Str}: ∀{binds:List (Str×Value)} {m:Str->Option Value},(∀v,(x,v) ∉ binds)->bindC kindOf binds m x=m x
 | [],_,_=>rfl
 | (n,v)::r,m,h=>by
  unfold bindC;rw[bO4 λw hw=>h w (dS _ hw)]
  split
  .rfl
  .have:x≠n:=by rintro rfl;exact h v jD
   simp[this]
theorem bO5 {kindOf:Str->Option NameKind}{x:Str}{v:Value}: ∀{P:List Str} {vs:List Value} {i:Nat} {m:Str->Option Value},P.Nodup->P[i]? =some x->vs[i]? =some v->kindOf x=some .local->
  bindL kindOf (P.zip vs) m x=some v
 | [],_,_,_,_,h,_,_=>by simp at h
 | _::_,[],_,_,_,_,h,_=>by simp at h
 | p::P,w::vs,0,m,nd,h1,h2,hk=>by
  simp at h1 h2;subst h1;subst h2
  show bindL kindOf ((p,w)::P.zip vs) m p=_
  unfold bindL;rw[bO3 λv hv=>(a06.mp nd).1 (a07 hv).1,aA hk]
  simp
 | p::P,w::vs,i+1,m,nd,h1,h2,hk=>by
  show bindL kindOf ((p,w)::P.zip vs) m x=_
  unfold bindL;exact bO5 (i:=i) (a06.mp nd).2 (by simpa using h1) (by simpa using h2) hk
theorem bO6 {kindOf:Str->Option NameKind}{x:Str}{v:Value}: ∀{P:List Str} {vs:List Value} {i:Nat} {m:Str->Option Value},P.Nodup->P[i]? =some x->vs[i]? =some v->kindOf x≠some .local->
  bindC kindOf (P.zip vs) m x=some v
 | [],_,_,_,_,h,_,_=>by simp at h
 | _::_,[],_,_,_,_,h,_=>by simp at h
 | p::P,w::vs,0,m,nd,h1,h2,hk=>by
  simp at h1 h2;subst h1;subst h2
  show bindC kindOf ((p,w)::P.zip vs) m p=_
  unfold bindC;rw[bO4 λv hv=>(a06.mp nd).1 (a07 hv).1,a9 hk]
  simp
 | p::P,w::vs,i+1,m,nd,h1,h2,hk=>by
  show bindC kindOf ((p,w)::P.zip vs) m x=_
  unfold bindC;exact bO6 (i:=i) (a06.mp nd).2 (by simpa using h1) (by simpa using h2) hk
noncomputable def start (N:List Str)(vs:List V):St:=vs.map some++replicate (N.length-vs.length) none
noncomputable def v9 (CX:CXT)(P:Program)(w:World)(K:Frag)(mg:Str->Option Value)(base:Heap)(N:List Str)(qual:Str)(scope:Scope)(f:Addr)(cd:Value)(A:Around)(outer:List Env)(s:Shared)(H:Hp)(E:XK):Cx where
 prog:=P
 w:=w
 K:=K
 mg:=mg
 base:=base
 A:=A.deeper (envOfC qual scope s.heap.objs.size f cd)
 N:=N
 s₀:=s
 H₀:=H
 env:=envOfC qual scope s.heap.objs.size f cd
 outer:=outer
 stack:=envOfC qual scope s.heap.objs.size f cd::outer
 ex:=[]
 calm:=true
 fn:=λ_=>true
 pn:=[]
 xe:=λe s'=>wpAny (model P w) (A.deeper<|envOfC qual scope s.heap.objs.size f cd) (leaving (envOfC qual scope s.heap.objs.size f cd) e) (λ_ s''=>CX outer H s E e s'') (λe' s''=>CX outer H s E e' s'') s'
theorem c25 {sc:Scope}(h:sc.names.lookup x=some .cell): ∃c,(cellsFrom n sc.names []).lookup x=some c:=by
 have q:=aM3 sc.names n [] (.inl h);exact Option.isSome_iff_exists.mp q
theorem bO7 {CX:CXT}{ps:List Str}{cd:Value}{s1:Shared}{H:Hp}{E:XK}{vs:List V}
  (S:b9 N ps scope) (hd:A.handled=none) (e0:cE6 P w K mg base A outer s H) (hl:vs.length=ps.length) (r:Vals vs us)
  (x:InCallC s s.heap.objs.size (bindL (envOfC qual scope s.heap.objs.size f cd).kindOf (ps.zip us) λ_=>none) (cellsFrom (s.heap.objs.size+1) scope.names []) (bindC (envOfC qual scope s.heap.objs.size f cd).kindOf (ps.zip us) λ_=>none) s1) :
  Inv (v9 CX P w K mg base N qual scope f cd A outer s H E) [] (start N vs) H s1:=by
 have hpl:ps.length<=N.length:=by have:=cT length S.pre;rw[a03]at this;lia
 obtain⟨h1,tk,rfl,hk⟩:=x.done;have noA: ∀b:Addr,b ∉ (v9 CX P w K mg base N qual scope f cd A outer s H E).ex:=λb z=>absurd (show b∈([]:List Addr)from z) ae
 refine⟨⟨e0.mod,S.kind,rfl,rfl,aG _,λy z c h1 h2=> ?_,λy hy=> ?_,λy c _ h=> ?_,λ_=>hd,Around.frames_deeper e0.frames,.inr ⟨rfl,rfl⟩,λb z=>absurd z (noA b),e0.bs,e0.bsz,λb _ _=>noA b,λb z=>absurd z (noA b),e0.funs,e0.frf⟩,
  rfl,e0.bare,Un.kept hk,⟨_,x.toInCall.ns,λi y v h1 h2 h3=> ?_⟩,λy c h=>⟨_,x.cell y c h⟩,e0.hok.fresh<|aG _,λy c h=> ?_,λp hp=>absurd (show p∈([]:List (Addr×Obj))from hp) ae,e0.hok.kept hk,?_⟩
 .exact name_of_addr x.apart (qQ h1) (qQ h2)
 .have hy:scope.names.lookup y=some .cell\/scope.names.lookup y=some .free:=hy;rcases hy with hy|hy
  .exact c25 hy
  .exact absurd rfl (S.nofree _<|qQ hy)
 .exact oG (x.above y c<|qQ h)
 .have hi:i<vs.length:=by
   unfold start at h2
   by_cases hi:i<vs.length
   .exact hi
   .rw[jC<|by simpa using hi]at h2
    rw[zP]at h2;split at h2<;>cases h2
  have ha:vs[i]? =some v:=by
   unfold start at h2;rw[iF<|by simpa using hi,bS]at h2
   cases e:vs[i]? with
   | none=>rw[e]at h2;cases h2
   | some a=>rw[e]at h2;cases h2;rfl
  obtain⟨u,hu,rv⟩:=r.get ha;have hp:ps[i]? =some y:=by
   rw[<-S.pre,List.getElem?_take_of_lt ad];exact h1
  have ndP:ps.Nodup:=by rw[<-S.pre];exact S.nd.sublist (List.take_sublist _ _)
  refine⟨u,rv,?_⟩
  rcases S.par y (zV hp)with k|k
  .exact .inl ⟨k,bO5 ndP hp hu k⟩
  .obtain⟨c,e⟩:=c25 (n:=s.heap.objs.size+1) k;refine .inr ⟨.inl k,c,e,?_⟩;have q:=x.cell y c e;rw[bO6 ndP hp hu (by show scope.names.lookup y≠_;rw[k];decide)]at q
   exact q
 .exact e0.hok.fresh (oG<|x.above y c<|qQ h)
 .unfold start;show _=N.length;rw[bY,aO,zS]
  lia
theorem d22 {CX:CXT}{P:Program}{w:World}{K:Frag}{mg:Str->Option Value}{base:Heap}{k:Nat}{f:Addr}{name qual:Str}{params:Arguments}{body:List Stmt}{scope:Scope}{dV kV doc pm cdv ct oc:Value}{an od:Option Addr}
  {osl:Array (Option Value)} {N ps:List Str} {sp:Sp} (lk:K.lookup f=some ⟨oc,od,.func<|fnOf name qual params body scope dV kV doc pm an cdv ct,osl⟩) (hcd:codeIn K cdv qual=true) (S:b9 N ps scope)
  (len: ∀vs H Q E,sp vs H Q E->vs.length=ps.length)
  (hbody: ∀(A:Around) (outer:List Env) (s:Shared) (H:Hp) (vs:List V) (Q:VK) (E:XK),i8 k (A.deeper<|envOfC qual scope s.heap.objs.size f cdv)->sp vs H Q E->
   ∃t,PSs (v9 CX P w K mg base N qual scope f cdv A outer s H E) body t/\t {nx:=λ_ H'=>Q .non H',rt:=Q} (start N vs) H) :
  tX P w K mg base CX (k+1) f (fnOf name qual params body scope dV kV doc pm an cdv ct) ps sp:=by
 refine⟨len,λA outer s H args us vs Q E hr e0 hb r hsp=> ?_⟩
 have hl:=len _ _ _ _ hsp;have KX:K.In s.heap:=e0.mod.kin.keeps λb o e=>(e0.bs b o e).1
 have lim:s.heap.NoLimit:=e0.mod.nolimit.keeps λb o e=>(e0.bs b o e).1
 have hkind: ∀y∈ps.zip us,scope.names.lookup y.1=some .local\/(scope.names.lookup y.1=some .cell/\((cellsFrom (s.heap.objs.size+1) scope.names []).lookup y.1).isSome=true):=λ⟨n,v⟩ hy=>by
  rcases S.par n (a07 hy).1 with q|q
  .exact .inl q
  .exact .inr ⟨q,aM3 _ _ _<|.inl q⟩
 refine codeAny_call_function hr.depth (KX _ _ lk) rfl S.co S.gen rfl (PySem.W.codeRec_of KX hcd) (hb _ _ _ _ ?_)
 refine wpAny_newFunctionEnv_cells S.kind hkind λenv he s1 x=> ?_
 subst he;refine⟨lim.keeps x.toInCall.keep,codeAny_func ?_⟩;obtain⟨t,ht,hq⟩:=hbody A outer s H vs Q E (hr.deeper _) hsp;have I:Inv (v9 CX P w K mg base N qual scope f cdv A outer s H E) [] (start N vs) H s1:=bO7 S hr.hd e0 hl r x;refine bF (ht [] s1 (start N vs) H _ I hq) (λfl s' hs=> ?_) λe s' hs=>hs
 have fin: ∀{σ':St} {H':Hp} {v:V} {u:Value},Inv (v9 CX P w K mg base N qual scope f cdv A outer s H E) [] σ' H' s'->RelV v u->Q v H'->CE outer P w H s Q u s':=
  λ{σ' H' v u} J rv q=>⟨v,H',J.os,J.bare,J.base,J.hok,rv,q⟩
 cases fl with
 | ret u=>
  obtain⟨v,σ',H',J,rv,q⟩:=hs;exact fin J rv q
 | next=>
  obtain⟨σ',H',J,q⟩:=hs;exact fin (v:=V.non) (u:=Value.none) J rfl q
 | brk=>
  obtain⟨_,_,_,q⟩:=hs;exact False.elim q
 | cont=>
  obtain⟨_,_,_,q⟩:=hs;exact False.elim q
section
variable {X:Cx}{x:Str}{p pos:Pos}{e:Expr}{es:List Expr}{t:TA}{id T:String}{r:List V->Hp->VK->Prop}
def tCB (r:List V->Hp->VK->Prop)(t:TA):TE:=λσ H Q=>t σ H λvs H1=>r vs H1 Q
theorem c26 (hc:tN X (.builtin id) r)(hg:Gl X x)(hm:X.mg x=none)(hv:bootBuiltins x=some (.builtin id))(ha:PA X (e::es) t)(hn:⇑(x≠"__name__"))(hdb:⇑((x==("__debug__":Str))=false))
  (he:↥(starEach (e::es) X.env=(false,eval e X.env)::starEach es X.env)) (hpl:↥((backTo pos<|starEach es X.env).any (·.1)=false)):PE X (.Call (.Name x p) (e::es) [] pos) (tCB r t):=by
 intro pins s σ H Q I h;refine qR (v8 I hg hm hv ?_ hn hdb);exact PyProof.Rows.callWith_builtin1 (thn (ha pos pins s σ H _ I h) λus s1 ⟨vs,H1,I1,r1,q1⟩=>hc pins s1 σ H1 vs us Q I1 r1 q1) he hpl
theorem cU1 (hc:tN X (.type T) r)(hg:Gl X x)(hm:X.mg x=none)(hv:bootBuiltins x=some (.type T))(ha:PA X (e::es) t)(hn:⇑(x≠"__name__"))(hdb:⇑((x==("__debug__":Str))=false))
  (he:↥(starEach (e::es) X.env=(false,eval e X.env)::starEach es X.env)) (hpl:↥((backTo pos<|starEach es X.env).any (·.1)=false)):PE X (.Call (.Name x p) (e::es) [] pos) (tCB r t):=by
 intro pins s σ H Q I h;refine qR (v8 I hg hm hv ?_ hn hdb);exact kA (thn (ha pos pins s σ H _ I h) λus s1 ⟨vs,H1,I1,r1,q1⟩=>hc pins s1 σ H1 vs us Q I1 r1 q1) he hpl
end
end L2
namespace HT
open PySem PyProof.Rows
section
open PySem.SeqAt
open PySem.AutoSeq1 (wpAny_loadPart')
open PySem.MeetsSeq PySem.MeetsSeq2 PySem.MeetsSeq3
end
section
variable {prog:Program}{w:World}{A:Around}{E:Value->Shared->Prop}{s:Shared}
theorem cat_tup {vs ws:List Value}(ht:IsTup s.heap t vs.toArray)(hb:IsTup s.heap b ws.toArray)(hv:vs≠[])
  (h1:ws=[]->Q (.ref t) s) (h2:ws≠[]->Q (.ref s.heap.objs.size) {s with heap:=s.heap.push {cls:= .type "tuple",data:= .seq (vs++ws).toArray}})
  (hsz:vs.length+ws.length<=sizeLine):wpAny (model prog w) A (binaryOp .Add (.ref t)<|.ref b) Q E s:=by
 obtain⟨⟨cls,dd,data,sl⟩,ho,hc,n,hd⟩:=id ht;obtain⟨⟨cls2,dd2,data2,sl2⟩,ho2,hc2,n2,hd2⟩:=id hb;simp only at hc hd hc2 hd2;subst hc hd hc2 hd2;have e:vs.toArray++ws.toArray=(vs++ws).toArray:=ae
 by_cases hw:ws=[]
 .exact concat_meets ⟨_,ho,rfl⟩ ⟨_,ho2,rfl⟩ aO7 seq_tuple_add aM4 aL9 (aL5 _ _)
   (tuple_addW1 t b vs.toArray ws.toArray n n2 dd dd2 sl sl2 (by simpa using hv)<|by simp[hw]) ⟨ho,ho2,h1 hw⟩
 .refine concat_meets ⟨_,ho,rfl⟩ ⟨_,ho2,rfl⟩ aO7 seq_tuple_add aM4 aL9 (aL5 _ _)
   (tuple_addW2 t b vs.toArray ws.toArray n n2 dd dd2 sl sl2 (by simpa using hv) (by simpa using hw) (by rw[bI,bI];exact hsz)) ⟨ho,ho2,?_⟩
  rw[e];exact h2 hw
noncomputable def sIx (n d:Nat):Option Int->Nat
 | none=>d
 | some v=>if v<0 then(v+(n:Int)).toNat else min v.toNat n
theorem sIx_none (n d:Nat):sIx n d none=d:=rfl
theorem sIx_nat (n d k:Nat):sIx n d (some (k:Int))=min k n:=by
 show(if(k:Int)<0 then((k:Int)+(n:Int)).toNat else min (k:Int).toNat n)=min k n
 rw[a9 ad,eH]
theorem sIx_le (n d:Nat)(hd:d<=n)(o:Option Int):sIx n d o<=n:=by
 cases o with
 | none=>exact hd
 | some v=>
  show(if v<0 then(v+(n:Int)).toNat else min v.toNat n)<=n
  by_cases hv:v<0
  .rw[aA hv];lia
  .rw[a9 hv];exact Nat.min_le_right _ _
theorem cM5 (v:Int)(n d:Nat):(if v<0 then max (v+(n:Int)) 0 else min v (n:Int))=((sIx n d (some v):Nat):Int):=by
 show(if v<0 then max (v+(n:Int)) 0 else min v (n:Int))=(((if v<0 then(v+(n:Int)).toNat else min v.toNat n):Nat):Int)
 by_cases hv:v<0
 .simp only[aA hv];lia
 .simp only[a9 hv];lia
theorem cE7 (lo hi:Option Int)(n:Nat):Builtin.Slice.sliceAdjust lo hi 1 (n:Int)=(((sIx n 0 lo:Nat):Int),((sIx n n hi:Nat):Int)):=by
 have h1: ¬((1:Int)<0):=ad
 unfold Builtin.Slice.sliceAdjust;simp only[h1,fM];refine kL ?_ ?_
 .cases lo with
  | none=>rfl
  | some v=>exact cM5 v n 0
 .cases hi with
  | none=>rfl
  | some v=>exact cM5 v n n
theorem cE8 (i j:Nat):Builtin.Slice.slicePlaces (i:Int) (j:Int) 1=j-i:=by
 unfold Builtin.Slice.slicePlaces;have h1:(1:Int)>0:=ad
 simp only[h1,cU,Int.ediv_one];split<;>lia
theorem bA1 {o:Option Int}{Q:Option Int->Shared->Prop}(p:IsPart v o)(h:Q o s):wpAny (model prog w) A (Builtin.Slice.slicePartIndex v) Q E s:=by
 cases p with
 | none=>exact slicePart_none h
 | int i t=>exact slicePart_int h
theorem yN {lo:Option Int}{Q:Int×Int×Nat->Shared->Prop}(hs:s.heap.IsSliceOf sl vl vu .none)(pl:IsPart vl lo)(pu:IsPart vu hi)
  (h:Q (((sIx n 0 lo:Nat):Int),1,sIx n n hi-sIx n 0 lo) s):wpAny (model prog w) A (Builtin.Slice.sliceApplied (.ref sl)<|pure (n:Int)) Q E s:=by
 obtain⟨os,hos,hcs,hds⟩:=id hs;unfold Builtin.Slice.sliceApplied Builtin.Slice.sliceFields;refine aB (aB<|dE hos hds (x:=vl) rfl (aB<|dE hos hds (x:=vu) rfl (aB<|dE hos hds (x:= .none) rfl (aL ?_))));refine aB (slicePart_none ?_);show wpAny _ _ (if((1:Int)==0)=true then _ else _) _ _ s;rw[a9 ac]
 refine aB (bA1 pl<|aB<|bA1 pu<|aB<|aL ?_)
 show wpAny _ _ (match Builtin.Slice.sliceAdjust lo hi 1 (n:Int)with| (lo,hi)=>pure (lo,(1:Int),Builtin.Slice.slicePlaces lo hi 1)) _ _ s
 rw[cE7 lo hi n];show wpAny _ _ (pure (((sIx n 0 lo:Nat):Int),(1:Int),Builtin.Slice.slicePlaces ((sIx n 0 lo:Nat):Int) ((sIx n n hi:Nat):Int) 1)) _ _ s;rw[cE8];exact aL h
theorem d23 (xs:Array Value)(i k:Nat):((List.range k).filterMap fun(m:Nat)=>xs[((i:Int)+(m:Int)*1).toNat]?).toArray=((xs.toList.drop i).take k).toArray:=by
 have e:(fun(m:Nat)=>xs[((i:Int)+(m:Int)*1).toNat]?)=λm=>xs[i+m]? :=by
  funext m
  have:((i:Int)+(m:Int)*1).toNat=i+m:=ad
  rw[this]
 rw[e];have:=pick_run xs i k;rw[List.filterMap_map]at this;have e2:((λx=>xs[x]?)∘λx=>i+x)=λm=>xs[i+m]? :=rfl
 rw[e2]at this;rw[this]
theorem getItem_tuple_cut {lo:Option Int}(ht:IsTup s.heap t items)(hs:s.heap.IsSliceOf sl vl vu .none)(pl:IsPart vl lo)(pu:IsPart vu hi)
  (hw: ¬(sIx items.size 0 lo=0/\sIx items.size items.size hi=items.size))
  (h:Q (.ref s.heap.objs.size) {s with heap:=s.heap.push {cls:= .type "tuple",data:= .seq ((items.toList.drop<|sIx items.size 0 lo).take<|sIx items.size items.size hi-sIx items.size 0 lo).toArray}})
  (hsz:items.size<=sizeLine):wpAny (model prog w) A (getItem (.ref t)<|.ref sl) Q E s:=by
 have htake:sizeOk (.seq ((items.toList.drop<|sIx items.size 0 lo).take<|sIx items.size items.size hi-sIx items.size 0 lo).toArray):=by
  show((items.toList.drop<|sIx items.size 0 lo).take<|sIx items.size items.size hi-sIx items.size 0 lo).toArray.size<=sizeLine
  rw[bI,a03,uU,aN5];omega
 have hj:sIx items.size items.size hi<=items.size:=sIx_le _ _ (aG _) hi;obtain⟨os,hos,hcs,hds⟩:=id hs;have hTs:s.TypeIs (.ref sl) "slice":=⟨os,hos,hcs⟩;unfold getItem;try with_reducible refine iK ?_
 first|refine aB (aL ?_)|skip
 refine aB (wpAny_sequenceKey ht.typeIs ac ?_)
 refine aB (lB (name:=Str.ofString "__getitem__") ht.typeIs zL
  (jF zL ht.typeIs entry_tuple_getitem ?_<|args_tuple_getitem _ _))
 show wpAny _ _ (Builtin.Tuple.tupleItemsOf (.ref t) >>= _) _ _ s
 refine aB (tupleItemsOf_ ht ?_)
 refine aB (a15 hTs ?_)
 rw[aA ac]
 refine aB (yN hs pl pu ?_)
 have hno: ¬((((sIx items.size 0 lo:Nat):Int)==0&&(1:Int)==1&&(sIx items.size items.size hi-sIx items.size 0 lo)==items.size)=true):=by
  intro q;rw[dU,dU]at q;have q1:((sIx items.size 0 lo:Nat):Int)=0:=eq_of_beq q.1.1;have q2:sIx items.size items.size hi-sIx items.size 0 lo=items.size:=eq_of_beq q.2;exact hw ⟨aa,aa⟩
 show wpAny _ _ (if(((sIx items.size 0 lo:Nat):Int)==0&&(1:Int)==1&&(sIx items.size items.size hi-sIx items.size 0 lo)==items.size)=true then _ else _) _ _ s
 rw[a9 hno,d23]
 first
  | exact aB (m:=Builtin.Tuple.tupleExact _) (jE (aL ⟨_,rfl,aL h⟩) htake)
  | exact aB (m:=Builtin.Tuple.tupleExact _) (jE (aB<|aL<|aL ⟨_,rfl,aL h⟩) htake)
  | exact aB (aB (m:=Builtin.Tuple.tupleExact _)<|jE (aL<|aL ⟨_,rfl,aL h⟩) htake)
  | exact aB (aB (m:=Builtin.Tuple.tupleExact _)<|jE (aL ⟨_,rfl,aL h⟩) htake)
end
end HT
namespace L2
abbrev TO:=St->Hp->(Option Int->Hp->Prop)->Prop
def PO (X:Cx)(e:Option Expr)(t:TO):Prop:=
 ∀(pins:List (Addr×Obj)) (s:Shared) (σ:St) (H:Hp) (Q:Option Int->Hp->Prop),Inv X pins σ H s->t σ H Q->
  wpAny (model X.prog X.w) X.A (evalPart e X.env) (λu s'=> ∃o H',Inv X pins σ H' s'/\IsPart u o/\Q o H') X.xe s
def dJ5:TO:=λ_ H Q=>Q none H
def tPart (t:TE):TO:=λσ H Q=>t σ H λx H1=> ∃i,x= .int i/\Q (some i) H1
theorem intsAre_of {ns:List Int}: ∀{us:List Value},Vals (ns.map V.int) us->IntsAre us ns:=by
 induction ns with
 | nil=>intro us r;rw[jI]at r;cases r;exact .nil
 | cons n ns ih=>
  intro us r;rw[cR]at r;cases r with
  | cons r1 r2=>
   obtain⟨t,e⟩:=r1;subst e;exact .cons n t (ih r2)
section
variable {X:Cx}{e:Expr}{te:TE}{lo hi:Option Expr}{tl th:TO}{pos p2:Pos}
theorem dJ6:PO X none dJ5:=by
 intro pins s σ H Q I h;rw[evalPart_none];exact aL ⟨none,H,I,.none,h⟩
theorem dJ7 (h:PE X e te):PO X (some e) (tPart te):=by
 intro pins s σ H Q I hw;rw[evalPart_some];refine thn (h pins s σ H _ I hw) λu s1 ⟨x,H1,I1,r1,q1⟩=> ?_
 obtain⟨i,rfl,q⟩:=q1;obtain⟨t,rfl⟩:=r1;exact⟨some i,H1,I1,.int i t,q⟩
def SlR (X:Cx)(r:V->Option Int->Option Int->Hp->VK->Prop):Prop:=
 ∀(pins:List (Addr×Obj)) (s:Shared) (σ:St) (H:Hp) (x:V) (v vl vu:Value) (lo hi:Option Int) (sl:Addr) (Q:VK),Inv X pins σ H s->RelV x v->s.heap.IsSliceOf sl vl vu .none->IsPart vl lo->IsPart vu hi->r x lo hi H Q->
  ∃T id,typeLookup (.type T) "__getitem__"=pure (some<|.builtin id)/\s.TypeIs v T/\wpAny (model X.prog X.w) X.A (getItem v<|.ref sl) (EP X pins σ Q) X.xe s
theorem SlR.or {r r':V->Option Int->Option Int->Hp->VK->Prop}(h:SlR X r)(h':SlR X r'):SlR X (λx lo hi H Q=>r x lo hi H Q\/r' x lo hi H Q):=by
 intro pins s σ H x v vl vu lo hi sl Q I rx hs pl pu q;rcases q with q|q
 .exact h pins s σ H x v vl vu lo hi sl Q I rx hs pl pu q
 .exact h' pins s σ H x v vl vu lo hi sl Q I rx hs pl pu q
def tSl (r:V->Option Int->Option Int->Hp->VK->Prop)(te:TE)(tl th:TO):TE:=λσ H Q=>te σ H λx H1=>tl σ H1 λl H2=>th σ H2 λu H3=>r x l u H3 Q
theorem c27 {r:V->Option Int->Option Int->Hp->VK->Prop}(hr:SlR X r)(he:PE X e te)(hl:PO X lo tl)(hu:PO X hi th):PE X (.Subscript e (.Slice lo hi none p2) pos) (tSl r te tl th):=by
 intro pins s σ H Q I h;refine Subscript_ (thn (he pins s σ H _ I h) λv s1 ⟨x,H1,I1,r1,q1⟩=> ?_)
 refine wpAny_Slice (thn (hl pins s1 σ H1 _ I1 q1) λvl s2 ⟨l,H2,I2,pl,q2⟩=>thn (hu pins s2 σ H2 _ I2 q2) λvu s3 ⟨u,H3,I3,pu,q3⟩=> ?_)
 rw[evalPart_none];refine aL ?_;have I4:Inv X pins σ H3 {s3 with heap:=s3.heap.push {cls:= .type "slice",data:= .fields #[vl,vu,.none]}}:=I3.kept (t':=s3.toks) λb ob q=>aW _ q
 obtain⟨T,id,hT,ht,hg⟩:=hr pins {s3 with heap:=s3.heap.push {cls:= .type "slice",data:= .fields #[vl,vu,.none]}} σ H3 x v vl vu l u s3.heap.objs.size Q I4 r1 (Heap.IsSliceOf.new ..) pl pu q3;show wpAny (model X.prog X.w) X.A (subscriptTail e (.Slice lo hi none p2) v<|.ref s3.heap.objs.size) (EP X pins σ Q) X.xe {s3 with heap:=s3.heap.push {cls:= .type "slice",data:= .fields #[vl,vu,.none]}}
 exact tail_any (ops:=[.ref s3.heap.objs.size,v]) ht hT hg (by with_unfolding_all rfl)
noncomputable def c28 (xs:List V)(lo hi:Option Int):List V:=(xs.drop<|HT.sIx xs.length 0 lo).take (HT.sIx xs.length xs.length hi-HT.sIx xs.length 0 lo)
theorem b39 (xs:List V)(lo hi:Option Int):(c28 xs lo hi).length<=xs.length:=by
 unfold c28;rw[a03,uU]
 lia
noncomputable def rSlT (K:Frag):V->Option Int->Option Int->Hp->VK->Prop:=λx lo hi H Q=> ∃a xs,x= .ref a/\SqT K H a xs/\
 ¬(HT.sIx xs.length 0 lo=0/\HT.sIx xs.length xs.length hi=xs.length)/\ ∀p,H p=none->Q (.ref p) (upd H p<|.tup<|c28 xs lo hi)
theorem d24:SlR X (rSlT X.K):=by
 intro pins s σ H x v vl vu lo hi sl Q I rx hs pl pu h;obtain⟨a,xs,rfl,hx,hw,q⟩:=h;cases rx;obtain⟨its,r,ht,hz⟩:=I.tuple hx;have hlen:its.toArray.size=xs.length:=by rw[bI];exact r.length.symm
 refine⟨"tuple",_,PyProof.Rows.slot_tuple_getitem.lookup,ht.typeIs,?_⟩
 refine HT.getItem_tuple_cut ht hs pl pu (by rw[hlen];exact hw) ?_ (by rw[hlen];exact hz)
 rw[hlen];refine⟨.ref s.heap.objs.size,_,I.laid (t':=s.toks) (o:= .tup (c28 xs lo hi)) (λb ob q=>aW _ q) (aG _) ?_,rfl,q _<|I.hok.fresh<|aG _⟩
 exact⟨aM (b39 xs lo hi) hz,_,(r.drop<|HT.sIx xs.length 0 lo).take<|HT.sIx xs.length xs.length hi-HT.sIx xs.length 0 lo,rG _ _⟩
noncomputable def rCatT (K:Frag):R2:=λx y H Q=> ∃a b xs ys,x= .ref a/\y= .ref b/\SqT K H a xs/\SqT K H b ys/\xs≠[]/\xs.length+ys.length<=sizeLine/\
 (ys=[]->Q (.ref a) H)/\(ys≠[]-> ∀p,H p=none->Q (.ref p) (upd H p<|.tup<|xs++ys))
theorem Vals.nil_iff {xs:List V}(r:Vals xs us):us=[]↔xs=[]:=by
 cases r with
 | nil=>simp
 | cons _ _=>simp
theorem dJ8:OpR X (binaryOp .Add) (rCatT X.K):=by
 intro pins s σ H x y v u Q I rx ry h;obtain⟨a,b,xs,ys,rfl,rfl,ha,hb,hx,hz,q1,q2⟩:=h;cases rx;cases ry;obtain⟨its,r1,p1,_⟩:=I.tuple ha;obtain⟨its2,r2,p2,_⟩:=I.tuple hb;refine HT.cat_tup p1 p2 (λz=>hx (r1.nil_iff.mp z)) (λz=>⟨.ref a,H,I,rfl,q1<|r2.nil_iff.mp z⟩) (λz=> ?_) (by rw[<-r1.length,<-r2.length];exact hz)
 refine⟨.ref s.heap.objs.size,_,I.laid (t':=s.toks) (o:= .tup (xs++ys)) (λb ob q=>aW _ q) (aG _) ?_,rfl,q2 (λw=>z (r2.nil_iff.mpr w)) _<|I.hok.fresh<|aG _⟩
 exact⟨by rw[bY];exact hz,_,r1.append r2,rG _ _⟩
end
noncomputable def ixN (n:Nat)(i:Int):Option Nat:=if 0<=i then(if i<n then some i.toNat else none)else if -(n:Int)<=i then some (i+n).toNat else none
noncomputable def atI (xs:List α)(i:Int):Option α:=(ixN xs.length i).bind λj=>xs[j]?
theorem cM6 {i:Int}(h:ixN n i=some j):seqIndex? i n=some j/\j<n/\ -(n:Int)<=i/\i<n:=by
 unfold ixN at h
 by_cases h0:0<=i
 .rw[aA h0]at h
  by_cases h1:i<n
  .rw[aA h1]at h;have e:i.toNat=j:=gL h;exact⟨by rw[a23 h0 h1,e],ad,ad,h1⟩
  .rw[a9 h1]at h;cases h
 .rw[a9 h0]at h
  by_cases h1: -(n:Int)<=i
  .rw[aA h1]at h;have e:(i+n).toNat=j:=gL h;exact⟨by rw[a16 ad h1,e],ad,h1,ad⟩
  .rw[a9 h1]at h;cases h
theorem b83 {xs:List α}{i:Int}{v:α}(h:atI xs i=some v): ∃j,seqIndex? i xs.length=some j/\xs[j]? =some v/\j<xs.length/\ -(xs.length:Int)<=i/\i<xs.length:=by
 unfold atI at h;cases e:ixN xs.length i with
 | none=>rw[e]at h;cases h
 | some j=>
  rw[e]at h;obtain⟨h1,h2,h3,h4⟩:=cM6 e;exact⟨j,h1,h,h2,h3,h4⟩
theorem cG {xs:List α}{v:α}(h:xs[j]? =some v):atI xs (j:Int)=some v:=by
 have hj:j<xs.length:=(l8.mp h).1;have e:ixN xs.length (j:Int)=some j:=by
  unfold ixN;rw[aA ad,aA ad];simp
 unfold atI;rw[e];exact h
theorem d25 (xs:List α)(v:α):atI (xs++[v]) (-1)=some v:=by
 have hl:(xs++[v]).length=xs.length+1:=ae
 have e:ixN (xs++[v]).length (-1)=some xs.length:=by
  unfold ixN;rw[hl,a9 ac,aA ad]
  congr 1
  lia
 unfold atI;rw[e];show(xs++[v])[xs.length]? =some v;simp
def bU0 (b:Expr):Prop:= ∀o i,subscripted b false o i=operate [o,i] (getItem o i)
def IxR (X:Cx)(r:R2):Prop:=
 ∀(value slice:Expr) (pins:List (Addr×Obj)) (s:Shared) (σ:St) (H:Hp) (x y:V) (v u:Value) (Q:VK),Inv X pins σ H s->RelV x v->RelV y u->r x y H Q->
  subscripted slice false v u=operate [v,u] (getItem v u)->wpAny (model X.prog X.w) X.A (subscriptTail value slice v u) (EP X pins σ Q) X.xe s
def MtR (X:Cx)(id:String)(r:V->List V->Hp->VK->Prop):Prop:=
 ∀(pins:List (Addr×Obj)) (s:Shared) (σ:St) (H:Hp) (x:V) (xs:List V) (v:Value) (us:List Value) (Q:VK),Inv X pins σ H s->RelV x v->Vals xs us->r x xs H Q->
  wpAny (model X.prog X.w) X.A (call (.builtin id) (v::us)) (EP X pins σ Q) X.xe s
section
variable {X:Cx}{a b:Expr}{ta tb:TE}{pos:Pos}
theorem IxR.or {r r':R2}(h:IxR X r)(h':IxR X r'):IxR X (λx y H Q=>r x y H Q\/r' x y H Q):=by
 intro value slice pins s σ H x y v u Q I rx ry q hs;rcases q with q|q
 .exact h value slice pins s σ H x y v u Q I rx ry q hs
 .exact h' value slice pins s σ H x y v u Q I rx ry q hs
theorem pe_ix {r:R2}(hr:IxR X r)(ha:PE X a ta)(hb:PE X b tb)(hs:bU0 b):PE X (.Subscript a b pos) (tOp r ta tb):=by
 intro pins s σ H Q I h;exact Subscript_ (binT ha hb I h λv u s2 x y H2 I2 rx ry q=>hr a b pins s2 σ H2 x y v u Q I2 rx ry q (hs _ _))
noncomputable def rIxL (K:Frag):R2:=λx y H Q=> ∃p xs i v,x= .ref p/\y= .int i/\SqL K H p xs/\atI xs i=some v/\Q v H
noncomputable def rIxT (K:Frag):R2:=λx y H Q=> ∃p xs i v,x= .ref p/\y= .int i/\SqT K H p xs/\atI xs i=some v/\Q v H
noncomputable def rIxS:R2:=λx y H Q=> ∃z i c,x= .str z/\y= .int i/\z.length<=sizeLine/\atI z.cps.toList i=some c/\Q (.str ⟨#[c]⟩) H
theorem dJ9:IxR X (rIxL X.K):=by
 intro value slice pins s σ H x y v u Q I rx ry h hs;obtain⟨p,xs,i,z,rfl,rfl,hq,he,q⟩:=h;cases rx;obtain⟨t,rfl⟩:=ry;obtain⟨its,r,pl,hz⟩:=I.list hq;obtain⟨j,h1,h2,h3,h4,h5⟩:=b83 he;obtain⟨w,ew,rw'⟩:=r.get h2;have hl:=r.length;have hn:=aZ2;have fin:EP X pins σ Q w s:=⟨z,H,I,rw',q⟩
 by_cases h0:0<=i
 .have hj:i.toNat=j:=by
   rw[a23 h0 h5]at h1;exact gL h1
  exact item_listR pl.isList h0 ad (by rw[hj];simpa using ew) fin hs
 .have hj:(i+(its.toArray.size:Int)).toNat=j:=by
   rw[a16 ad h4]at h1
   rw[bI,<-hl];exact gL h1
  exact subscriptTail_builtinR (x:=w) pl.isList.typeIs slot_list_getitem.lookup
   (wpAny_getItem_list_neg (Q:=λr s'=>r=w/\EP X pins σ Q r s') pl.isList ad (by rw[bI]<;>lia) ad (by rw[hj];simpa using ew) ⟨rfl,fin⟩) hs
theorem ix_tup:IxR X (rIxT X.K):=by
 intro value slice pins s σ H x y v u Q I rx ry h hs;obtain⟨p,xs,i,z,rfl,rfl,hq,he,q⟩:=h;cases rx;obtain⟨t,rfl⟩:=ry;obtain⟨its,r,pl,hz⟩:=I.tuple hq;obtain⟨j,h1,h2,h3,h4,h5⟩:=b83 he;obtain⟨w,ew,rw'⟩:=r.get h2;have hl:=r.length;have hn:=aZ2;have fin:EP X pins σ Q w s:=⟨z,H,I,rw',q⟩;exact subscriptTail_builtinR (x:=w) pl.typeIs slot_tuple_getitem.lookup
  (getItem_tuple (j:=j) (Q:=λr s'=>r=w/\EP X pins σ Q r s') pl ad ad (by rw[bI,<-hl];exact h1) (by simpa using ew) ⟨rfl,fin⟩) hs
theorem ix_str:IxR X rIxS:=by
 intro value slice pins s σ H x y v u Q I rx ry h hs;obtain⟨z,i,c,rfl,rfl,hz,he,q⟩:=h;obtain⟨t,rfl⟩:=rx;obtain⟨t',rfl⟩:=ry;obtain⟨j,h1,h2,h3,h4,h5⟩:=b83 he;have hl:z.cps.toList.length=z.length:=by simp[Str.length]
 rw[hl]at h1 h4 h5;have hn:=aZ2;exact tail_any (typeIs_str s z t) slot_str_getitem.lookup (getItem_str (c:=c) (by
  have e1:decide (i< -(2^63:Int))=false:=gK ad
  have e2:decide (i≥2^63)=false:=gK ad
  rw[e1,e2,Bool.or_false]) (by rw[h1];simpa using h2) ⟨.str ⟨#[c]⟩,H,I.tok _,⟨_,rfl⟩,q⟩) hs
noncomputable def rIx (K:Frag):R2:=λx y H Q=>rIxL K x y H Q\/rIxT K x y H Q\/rIxS x y H Q
theorem ix_seq:IxR X (rIx X.K):=dJ9.or (ix_tup.or ix_str)
theorem cE9 (its:List Value)(n j:Nat)(u:Value):Obj.mapSeq (·.setIfInBounds j u) {cls:= .type "list",data:= .seq its.toArray n}={cls:= .type "list",data:= .seq (its.set j u).toArray n}:=by
 simp[Obj.mapSeq]
theorem Inv.lst {σ:St}{H:Hp}{p:Addr}{xs:List V}(I:Inv X pins σ H s)(h:H p=some (.lst xs)) :
  ∃(its:List Value) (n:Nat),Vals xs its/\s.heap.get? p=some {cls:= .type "list",data:= .seq its.toArray n}/\xs.length<=sizeLine:=by
 obtain⟨z,its,n,r,e⟩:=I.hok p _ h;exact⟨its,n,r,e,z⟩
theorem Inv.lstUpd {σ:St}{H:Hp}{p:Addr}{xs ys:List V}{its':List Value}{n':Nat}{f:Obj->Obj}(I:Inv X pins σ H s)(h:H p=some (.lst xs))
  (ho:s.heap.get? p=some {cls:= .type "list",data:= .seq its.toArray n}) (hf:f {cls:= .type "list",data:= .seq its.toArray n}={cls:= .type "list",data:= .seq its'.toArray n'}) (r:Vals ys its') (hz:ys.length<=sizeLine) (t:Nat) :
  Inv X pins σ (upd H p<|.lst ys) {s with heap:=s.heap.update p f,toks:=t}:=by
 have e:(s.heap.update p f).get? p=some {cls:= .type "list",data:= .seq its'.toArray n'}:=by
  rw[qL f ho (by rw[hf]<;>rfl),hf]
 refine I.write (x:=p) (e:=p) (by rw[h];trivial) (.inl rfl) (λb u hb q=>(aM5 _ _<|Ne.symm hb).trans q) ⟨_,e⟩ ?_
 exact⟨hz,its',n',r,e⟩
noncomputable def rSetL:V->V->V->Hp->(Hp->Prop)->Prop:=λo i v H Q=> ∃p xs k j,o= .ref p/\i= .int k/\H p=some (.lst xs)/\ixN xs.length k=some j/\Q (upd H p<|.lst<|xs.set j v)
theorem c29:PSet X rSetL:=by
 intro pins s σ H o i v ov iv u Q I ro ri rv h;obtain⟨p,xs,k,j,rfl,rfl,hp,hj,q⟩:=h;cases ro;obtain⟨t,rfl⟩:=ri;obtain⟨its,n,r,ho,hz⟩:=I.lst hp;obtain⟨h1,h2,h3,h4⟩:=cM6 hj;have hl:=r.length;have hn:=aZ2;have I':Inv X pins σ (upd H p<|.lst<|xs.set j v) {s with heap:=s.heap.update p (Obj.mapSeq (·.setIfInBounds j u))}:=
  I.lstUpd hp ho (cE9 its n j u) (r.set rv j) (by rw[eZ];exact hz) s.toks
 by_cases h0:0<=k
 .have hk:k.toNat=j:=by
   rw[a23 h0 h4]at h1;exact gL h1
  exact PySem.W.ki_setAt ho h0 ad (by rw[bI,<-hl];exact h4) (by rw[hk];exact⟨_,I',q⟩)
 .have hk:(k+(its.toArray.size:Int)).toNat=j:=by
   rw[a16 ad h3]at h1
   rw[bI,<-hl];exact gL h1
  exact PySem.W.ki_setBack ho ad (by rw[bI,<-hl];exact h3) ad (by rw[hk];exact⟨_,I',q⟩)
theorem bU1 (lo hi:Option Int)(n:Nat):(sliceBounds lo hi none n).1=((HT.sIx n 0 lo:Nat):Int)/\(sliceBounds lo hi none n).2.1=((HT.sIx n n hi:Nat):Int)/\(sliceBounds lo hi none n).2.2=1:=by
 refine⟨?_,?_,rfl⟩
 .cases lo with
  | none=>simp[sliceBounds,HT.sIx]
  | some i=>
   simp only[sliceBounds,HT.sIx,getD_none,show(1:Int)>0 by decide,cU]
   by_cases h:i<0
   .simp only[h,cU]<;>lia
   .simp only[h,fM]<;>lia
 .cases hi with
  | none=>simp[sliceBounds,HT.sIx]
  | some i=>
   simp only[sliceBounds,HT.sIx,getD_none,show(1:Int)>0 by decide,cU]
   by_cases h:i<0
   .simp only[h,cU]<;>lia
   .simp only[h,fM]<;>lia
theorem bK5 (its:List Value)(lo hi:Option Int):slicePick its.toArray lo hi none=((its.drop<|HT.sIx its.length 0 lo).take<|HT.sIx its.length its.length hi-HT.sIx its.length 0 lo).toArray:=by
 obtain⟨h1,h2,h3⟩:=bU1 lo hi its.toArray.size;unfold slicePick;rw[h1,h2,h3];simp only[sliceRange_one,pick_run,bI]<;>rfl
noncomputable def rSlL (K:Frag):V->Option Int->Option Int->Hp->VK->Prop:=λx lo hi H Q=> ∃a xs,x= .ref a/\SqL K H a xs/\ ∀p,H p=none->Q (.ref p) (upd H p<|.lst<|c28 xs lo hi)
theorem cM7:SlR X (rSlL X.K):=by
 intro pins s σ H x v vl vu lo hi sl Q I rx hs pl pu h;obtain⟨a,xs,rfl,hx,q⟩:=h;cases rx;obtain⟨its,r,ht,hz⟩:=I.list hx;have hlen:=r.length;refine⟨"list",_,slot_list_getitem.lookup,ht.isList.typeIs,?_⟩;refine wpAny_getItem_list_slice ht.isList hs pl pu .none ae ?_ (by rw[bI]<;>lia)
 rw[bK5,<-hlen];refine⟨.ref s.heap.objs.size,_,I.laid (t':=s.toks) (o:= .lst (c28 xs lo hi)) (λb ob q=>aW _ q) (aG _) ?_,rfl,q _<|I.hok.fresh<|aG _⟩
 exact⟨aM (b39 xs lo hi) hz,_,0,(r.drop<|HT.sIx xs.length 0 lo).take<|HT.sIx xs.length xs.length hi-HT.sIx xs.length 0 lo,bX _ rfl⟩
noncomputable def aS6:V->Bool
 | .non=>true
 | .bl _=>true
 | .int _=>true
 | .str _=>true
 | _=>false
noncomputable def eqV:V->V->Bool
 | .non,.non=>true
 | .bl a,.bl b=>a==b
 | .bl a,.int b=>(if a then 1 else 0)==b
 | .int a,.bl b=>a==(if b then 1 else 0)
 | .int a,.int b=>a==b
 | .str a,.str b=>a==b
 | _,_=>false
theorem eqAt_V {y x:V}(ry:RelV y u)(rx:RelV x v)(fy:aS6 y=true)(fx:aS6 x=true):SeqAt.EqAt A s u v (eqV y x):=by
 cases y with
 | non=>
  cases ry;cases x with
  | non=>cases rx;exact SeqAt.EqAt.same _
  | bl b=>cases rx;exact SeqAt.EqAt.none_bool b
  | int b=>obtain⟨t,rfl⟩:=rx;exact SeqAt.EqAt.none_int b t
  | str b=>obtain⟨t,rfl⟩:=rx;exact SeqAt.EqAt.none_str b t
  | _=>exact absurd (show false=true from fx) bJ
 | bl a=>
  cases ry;cases x with
  | non=>cases rx;exact SeqAt.EqAt.bool_none a
  | bl b=>cases rx;exact SeqAt.EqAt.bool_bool a b
  | int b=>obtain⟨t,rfl⟩:=rx;exact SeqAt.EqAt.bool_int a b t
  | str b=>obtain⟨t,rfl⟩:=rx;exact SeqAt.EqAt.bool_str a b t
  | _=>exact absurd (show false=true from fx) bJ
 | int a=>
  obtain⟨t',rfl⟩:=ry;cases x with
  | non=>cases rx;exact SeqAt.EqAt.int_none a t'
  | bl b=>cases rx;exact SeqAt.EqAt.int_bool a t' b
  | int b=>obtain⟨t,rfl⟩:=rx;exact SeqAt.EqAt.int_int a t' b t
  | str b=>obtain⟨t,rfl⟩:=rx;exact SeqAt.EqAt.int_str a t' b t
  | _=>exact absurd (show false=true from fx) bJ
 | str a=>
  obtain⟨t',rfl⟩:=ry;cases x with
  | non=>cases rx;exact SeqAt.EqAt.str_none a t'
  | bl b=>cases rx;exact SeqAt.EqAt.str_bool a t' b
  | int b=>obtain⟨t,rfl⟩:=rx;exact SeqAt.EqAt.str_int a t' b t
  | str b=>obtain⟨t,rfl⟩:=rx;exact SeqAt.EqAt.str_str a t' b t
  | _=>exact absurd (show false=true from fx) bJ
 | _=>exact absurd (show false=true from fy) bJ
noncomputable def eqU (x:V)(u:Value):Bool:=match u with
 | .none=>eqV .non x
 | .bool b=>eqV (.bl b) x
 | .int i _=>eqV (.int i) x
 | .str z _=>eqV (.str z) x
 | _=>false
theorem d26 {x y:V}(r:RelV y u)(f:aS6 y=true):eqU x u=eqV y x:=by
 cases y with
 | non=>cases r;rfl
 | bl b=>cases r;rfl
 | int i=>obtain⟨t,rfl⟩:=r;rfl
 | str z=>obtain⟨t,rfl⟩:=r;rfl
 | _=>exact absurd (show false=true from f) bJ
theorem bU2 {x:V}: ∀{xs:List V} {us:List Value},Vals xs us->xs.all aS6=true->us.any (eqU x)=xs.any λy=>eqV y x
 | _,_,.nil,_=>rfl
 | y::xs,u::us,.cons r t,f=>by
  rw[all_cons,dU]at f;rw[any_cons,any_cons,d26 r f.1,bU2 t f.2]
theorem bA2 {A:Around}{s:Shared}{x:V}{v:Value}(rx:RelV x v)(fx:aS6 x=true): ∀{xs:List V} {us:List Value},Vals xs us->xs.all aS6=true-> ∀u∈us,SeqAt.EqAt A s u v (eqU x u)
 | _,_,.nil,_=>λu hu=>by cases hu
 | y::xs,u::us,.cons r t,f=>λu' hu=>by
  rw[all_cons,dU]at f;rcases bE.mp hu with rfl|hu
  .rw[d26 r f.1];exact eqAt_V r rx f.1 fx
  .exact bA2 rx fx t f.2 u' hu
noncomputable def inV (x:V)(xs:List V):Bool:=xs.any λy=>eqV y x
noncomputable def rIn (K:Frag)(neg:Bool):R2:=λx y H Q=> ∃p xs,y= .ref p/\(SqL K H p xs\/SqT K H p xs)/\aS6 x=true/\xs.all aS6=true/\Q (.bl<|if neg then !inV x xs else inV x xs) H
theorem bU3:OpR X (compareOp .NotIn) (rIn X.K true):=by
 intro pins s σ H x y v u Q I rx ry h;obtain⟨p,xs,rfl,hq,fx,fs,q⟩:=h;cases ry;rcases hq with hq|hq
 .obtain⟨its,r,pl,hz⟩:=I.list hq;refine SeqAt.notIn_listAt (eqU x) pl.isList (λw hw=>bA2 rx fx r fs w (by simpa using hw)) ⟨.bl _,H,I,rfl,?_⟩
  rw[show its.toArray.any (eqU x)=its.any (eqU x)by simp,bU2 r fs]
  exact q
 .obtain⟨its,r,pl,hz⟩:=I.tuple hq;refine SeqAt.notIn_tupleAt (eqU x) pl (λw hw=>bA2 rx fx r fs w (by simpa using hw)) ⟨.bl _,H,I,rfl,?_⟩
  rw[show its.toArray.any (eqU x)=its.any (eqU x)by simp,bU2 r fs]
  exact q
theorem bU4:tN X (.builtin "len") (λxs H Q=> ∃p ys,xs=[.ref p]/\(SqL X.K H p ys\/SqT X.K H p ys)/\Q (.int ys.length) H):=by
 intro pins s σ H xs us Q I r h;obtain⟨p,ys,rfl,hq,q⟩:=h;obtain⟨u,rfl,rx⟩:=vals1 r;cases rx;have hn:=aZ2;rcases hq with hq|hq
 .obtain⟨its,r',pl,hz⟩:=I.list hq;have hlen:=r'.length;exact Calls.call_len_list pl.isList (by simp only[bI]<;>lia) ⟨.int ys.length,H,I.tok _,⟨s.toks+1,by rw[bI,hlen]⟩,q⟩
 .obtain⟨its,r',pl,hz⟩:=I.tuple hq;have hlen:=r'.length;exact len_tuple pl (by simp only[bI]<;>lia) ⟨.int ys.length,H,I.tok _,⟨s.toks+1,by rw[bI,hlen]⟩,q⟩
theorem bU5:tN X (.type "list") (λxs H Q=> ∃p ys,xs=[.ref p]/\(SqL X.K H p ys\/SqT X.K H p ys)/\ ∀l,H l=none->Q (.ref l) (upd H l<|.lst ys)):=by
 intro pins s σ H xs us Q I r h;obtain⟨p,ys,rfl,hq,q⟩:=h;obtain⟨u,rfl,rx⟩:=vals1 r;cases rx;have fin: ∀(its:List Value),Vals ys its->ys.length<=sizeLine-> ∀(h':Heap) (c':Nat),(∀b o',s.heap.get? b=some o'->h'.get? b=some o')->
   h'.get? s.heap.objs.size=some {cls:= .type "list",dict:=none,data:= .seq its.toArray c',slots:= #[]}->EP X pins σ Q (.ref s.heap.objs.size) {s with heap:=h'}:=λits r' hz h' c' kp e=>
  ⟨.ref s.heap.objs.size,_,I.laid (t':=s.toks) kp (aG _)<|show sI X.prog X.w _ h' _ (.lst ys)from⟨hz,its,c',r',e⟩,rfl,q _<|I.hok.fresh<|aG _⟩
 rcases hq with hq|hq
 .obtain⟨its,r',pl,hz⟩:=I.list hq;have hlen:=r'.length;obtain⟨o,ho,hc,n,hd⟩:=pl.isList;exact call_list_seq p (.inl rfl) ho hc hd (λh' c' kp e=>fin its r' hz h' c' kp e) (by simp only[bI]<;>lia)
 .obtain⟨its,r',pl,hz⟩:=I.tuple hq;have hlen:=r'.length;obtain⟨o,ho,hc,n,hd⟩:=pl;exact call_list_seq p (.inr rfl) ho hc hd (λh' c' kp e=>fin its r' hz h' c' kp e) (by simp only[bI]<;>lia)
theorem xA:tN X (.type "tuple") (λxs H Q=> ∃p ys,xs=[.ref p]/\((SqL X.K H p ys/\ ∀l,H l=none->Q (.ref l) (upd H l<|.tup ys))\/(SqT X.K H p ys/\Q (.ref p) H))):=by
 intro pins s σ H xs us Q I r h;obtain⟨p,ys,rfl,h⟩:=h;obtain⟨u,rfl,rx⟩:=vals1 r;cases rx;rcases h with⟨hq,q⟩| ⟨hq,q⟩
 .obtain⟨its,r',pl,hz⟩:=I.list hq;have hlen:=r'.length;refine call_tuple_list pl.isList (λh' kp=> ?_) (by simp only[bI]<;>lia)
  have I1:Inv X pins σ H {s with heap:=h'}:=I.kept (t':=s.toks) kp;have I2:Inv X pins σ (upd H h'.objs.size<|.tup ys) {s with heap:=h'.push {cls:= .type "tuple",data:= .seq its.toArray}}:=
   I1.laid (t':=s.toks) (λb o e=>aW _ e) (aG _) (show sI X.prog X.w _ _ _ (.tup ys)from⟨hz,its,r',rG _ _⟩)
  exact⟨.ref h'.objs.size,_,I2,rfl,q _<|I1.hok.fresh<|aG _⟩
 .obtain⟨its,r',pl,hz⟩:=I.tuple hq;exact call_tuple_same pl ⟨.ref p,H,I,rfl,q⟩
def tyV (K:Frag)(T:String)(x:V)(H:Hp):Prop:=match x with
 | .str _=>T="str"
 | .int _=>T="int"
 | .ref p=>(T="list"/\ ∃xs,SqL K H p xs)\/(T="tuple"/\ ∃o,K.lookup p=some o/\o.cls= .type "tuple"/\o.dict=none)\/
   (T="dict"/\((∃kvs,H p=some (.dK kvs))\/ ∃kvs,H p=some (.dT kvs)))\/(T="set"/\ ∃S n,H p=some (.set S n))
 | _=>False
theorem tyV_is {pins:List (Addr×Obj)}{σ:St}{H:Hp}{s:Shared}{T:String}{x:V}{v:Value}(I:Inv X pins σ H s)(r:RelV x v)(ty:tyV X.K T x H) :
  s.TypeIs v T/\ ∀a,v= .ref a-> ∃ob,s.heap.get? a=some ob/\ob.dict=none:=by
 cases x with
 | str z=>
  obtain⟨t,rfl⟩:=r;cases (show T="str" from ty)
  exact⟨typeIs_str s z t,λ_ e=>nomatch e⟩
 | int i=>
  obtain⟨t,rfl⟩:=r;cases (show T="int" from ty)
  exact⟨rF s i t,λ_ e=>nomatch e⟩
 | ref p=>
  cases r;rcases ty with⟨rfl,xs,hq⟩| ⟨rfl,o,hk,hc,hd⟩| ⟨rfl,hk⟩| ⟨rfl,S,n,hk⟩
  .obtain⟨its,_,pl,_⟩:=I.list hq;refine⟨pl.isList.typeIs,λa e=> ?_⟩
   cases e;obtain⟨o,n,e,c,hd,_⟩:=pl;exact⟨o,e,hd⟩
  .refine⟨⟨o,I.kIn p o hk,hc⟩,λa e=> ?_⟩
   cases e;exact⟨o,I.kIn _ o hk,hd⟩
  .have z: ∃o,s.heap.get? p=some o/\o.ExactDict:=by
    rcases hk with⟨kvs,hk⟩| ⟨kvs,hk⟩
    .obtain⟨_,_,_,_,o,_,_,e,ex,_⟩:=I.hok p _ hk;exact⟨o,e,ex⟩
    .obtain⟨_,_,_,_,o,_,_,e,ex,_⟩:=I.hok p _ hk;exact⟨o,e,ex⟩
   obtain⟨o,e,ex⟩:=z;refine⟨⟨o,e,ex.1⟩,λa e2=> ?_⟩
   cases e2;exact⟨o,e,ex.2.1⟩
  .obtain⟨o,_,_,_,e,ex,_⟩:=I.hok p _ hk;refine⟨⟨o,e,ex.1⟩,λa e2=> ?_⟩
   cases e2;exact⟨o,e,ex.2.1⟩
 | _=>exact False.elim ty
def tBM (K:Frag)(T:String)(r:V->List V->Hp->VK->Prop)(to:TE)(t:TA):TE:=λσ H Q=>to σ H λx H1=>tyV K T x H1/\t σ H1 λxs H2=>r x xs H2 Q
variable {o e:Expr}{es:List Expr}{to:TE}{t:TA}{name:Str}{apos cpos:Pos}{T id:String}{r:V->List V->Hp->VK->Prop}
theorem pe_bm (pa:PlainAttrs T)(slot:Slot T name id)(hty:typeOf (.builtin id)=pure (.type "method_descriptor"))(hm:MtR X id r)(ho:PE X o to)(ha:PA X (e::es) t)
  (hbase:↥(attributeBase o name X.env (eval o X.env)=eval o X.env))
  (hfew:↥(((backTo cpos<|starEach (e::es) X.env).all (λx=> !x.1)&&(backToKw cpos<|keywordEach [] X.env).all (λx=>x.1.isSome)
   &&decide ((e::es).length+([]:List Keyword).length+(if([]:List Keyword).isEmpty then 0 else 1)<30))=true))
  (hline:↥((apos.endLine==cpos.line)=true)) (hs:↥(starEach (e::es) X.env=(false,eval e X.env)::starEach es X.env)) (hplain:↥((backTo cpos<|starEach es X.env).any (·.1)=false)) :
  PE X (.Call (.Attribute o name apos) (e::es) [] cpos) (tBM X.K T r to t):=by
 intro pins s σ H Q I h;refine wpAny_Call_method_late hbase hfew hline rfl (thn (ho pins s σ H _ I h) λv s1 ⟨x,H1,I1,r1,ty,q1⟩=> ?_)
 obtain⟨h1,h2⟩:=tyV_is I1 r1 ty;refine⟨T,id,pa,slot,hty,h1,h2,?_⟩;have hA:=ha cpos pins s1 σ H1 _ I1 q1;rw[hs]at hA⊢;refine Calls.callWith_builtin (by show(false||(backTo cpos<|starEach es X.env).any (·.1))=false;rw[hplain]<;>rfl) (aN1 ?_)
 exact thn hA λus s2 ⟨vs,H2,I2,r2,q2⟩=>hm pins s2 σ H2 x vs v us Q I2 r1 r2 q2
end
def MtM (X:Cx)(id:String)(r:V->List V->Hp->VK->Prop):Prop:=
 ∀(pins:List (Addr×Obj)) (s:Shared) (σ:St) (H:Hp) (x:V) (xs:List V) (v:Value) (us:List Value) (Q:VK),Inv X pins σ H s->RelV x v->Vals xs us->r x xs H Q->
  wpAny (model X.prog X.w) X.A (call (.builtin id) (v::us)) (EP X pins σ Q) X.xe s
theorem Vals.one {x:V}(h:Vals [x] us): ∃u,us=[u]/\RelV x u:=by
 cases h with
 | cons r q=>cases q;exact⟨_,rfl,r⟩
theorem Vals.two {x y:V}(h:Vals [x,y] us): ∃u v,us=[u,v]/\RelV x u/\RelV y v:=by
 cases h with
 | cons r q=>obtain⟨u,rfl,s⟩:=Vals.one q;exact⟨_,_,rfl,r,s⟩
theorem Vals.rep {xs:List V}{us:List Value}(h:Vals xs us): ∀k:Nat,Vals (replicate k xs).flatten (replicate k us).flatten
 | 0=> .nil
 | k+1=>by
  rw[kD,kD,nX,nX];exact Vals.append h (Vals.rep h k)
theorem foldl_rep (its:List Value): ∀(k:Nat) (acc:List Value),
  foldl (λx1 x2=>x1++x2) acc.toArray (replicate k its.toArray)=(acc++(replicate k its).flatten).toArray
 | 0,acc=>ae
 | k+1,acc=>by
  have e:acc.toArray++its.toArray=(acc++its).toArray:=ae
  have e2:(acc++its)++(replicate k its).flatten=acc++(replicate (k+1) its).flatten:=by
   rw[kD,nX,List.append_assoc]
  rw[<-e2,<-foldl_rep its k (acc++its),<-e,kD,List.foldl_cons]
section
variable {X:Cx}{pins:List (Addr×Obj)}{σ:St}{H:Hp}{s:Shared}{l b:Addr}{xs ys zs:List V}
theorem Inv.lset {its':List Value}{f:Array Value->Array Value}(I:Inv X pins σ H s)(hH:H l=some (.lst xs))
  (e:s.heap.get? l=some {cls:= .type "list",data:= .seq its.toArray n}) (hf:f its.toArray=its'.toArray) (hv:Vals ys its') (hz:ys.length<=sizeLine) :
  Inv X pins σ (upd H l<|.lst ys) {s with heap:=s.heap.update l (Obj.mapSeq f),toks:=t'}:=by
 have q:=PySem.IsL.update e f;rw[hf]at q;refine I.write (x:=l) (e:=l) (by rw[hH];exact trivial) (.inl rfl) (λb' u hb hu=>(aM5 s.heap (Obj.mapSeq f)<|Ne.symm hb).trans hu) ⟨_,q⟩ ?_
 exact⟨hz,its',_,hv,q⟩
theorem Inv.lnew (I:Inv X pins σ H s)(hv:Vals ys its)(hz:ys.length<=sizeLine) :
  Inv X pins σ (upd H s.heap.objs.size<|.lst ys) {s with heap:=s.heap.push {cls:= .type "list",data:= .seq its.toArray},toks:=t'}:=
 I.laid (λ_ _ q=>aW _ q) (aG _) ⟨hz,its,0,hv,bX _ rfl⟩
theorem Inv.fresh (I:Inv X pins σ H s):H s.heap.objs.size=none:=I.hok.fresh (aG _)
theorem Inv.lstM (I:Inv X pins σ H s)(hH:H l=some (.lst xs)):xs.length<=sizeLine/\ ∃(its:List Value) (n:Nat),Vals xs its/\xs.length=its.length/\s.heap.get? l=some {cls:= .type "list",data:= .seq its.toArray n}:=by
 obtain⟨z,its,n,r,e⟩:=I.hok l _ hH;exact⟨z,its,n,r,r.length,e⟩
theorem d27 (h:n<=sizeLine):Builtin.List.listTooLong n=false:=by
 unfold Builtin.List.listTooLong;exact gK ad
end
section
variable {X:Cx}
noncomputable def dK0:V->List V->Hp->VK->Prop:=λx vs H Q=> ∃l xs y,x= .ref l/\vs=[y]/\H l=some (.lst xs)/\xs.length<sizeLine/\Q .non (upd H l<|.lst<|xs++[y])
theorem bO8:MtM X "list.append" dK0:=by
 intro pins s σ H x vs v us Q I rx rv h;obtain⟨l,xs,y,rfl,rfl,hH,hz,q⟩:=h;cases rx;obtain⟨u,rfl,ru⟩:=rv.one;obtain⟨z,its,n,r,hl,e⟩:=I.lstM hH;refine lP F.slot_list_append ⟨_,e,rfl⟩ F.entry_list_append (F.args_list_append_2 _ _) (PySem.list_append l its.toArray n u (by rw[bI];lia)) ⟨e,?_⟩
 refine⟨.non,_,I.lset (its':=its++[u]) hH e ae (r.append<|.cons ru .nil) ?_,rfl,q⟩
 rw[bY,aM7]
 lia
noncomputable def rCat:R2:=λx y H Q=> ∃l b xs zs,x= .ref l/\y= .ref b/\H l=some (.lst xs)/\H b=some (.lst zs)/\xs.length+zs.length<=sizeLine/\ ∀p,H p=none->Q (.ref p) (upd H p<|.lst<|xs++zs)
theorem op_cat:OpR X (binaryOp .Add) rCat:=by
 intro pins s σ H x y v u Q I rx ry h;obtain⟨l,b,xs,zs,rfl,rfl,hH,hB,hz,q⟩:=h;cases rx;cases ry;obtain⟨z,its,n,r,hl,e⟩:=I.lstM hH;obtain⟨z2,its2,n2,r2,hl2,e2⟩:=I.lstM hB;refine PySem.P.add_list e e2 ?_ (by rw[bI,bI];omega)
 have ea:its.toArray++its2.toArray=(its++its2).toArray:=ae
 rw[ea];exact⟨.ref _,_,I.lnew (t':=s.toks) (r.append r2) (by rw[bY];omega),rfl,q _ I.fresh⟩
noncomputable def rRep:R2:=λx y H Q=> ∃l k xs,x= .ref l/\y= .int k/\H l=some (.lst xs)/\ -(2^63)<=k/\k<2^63/\xs.length*k.toNat<=sizeLine/\
 ∀p,H p=none->Q (.ref p) (upd H p<|.lst (replicate k.toNat xs).flatten)
theorem bU6 (xs:List α)(k:Nat):(replicate k xs).flatten.length=k*xs.length:=by
 induction k with
 | zero=>simp
 | succ k ih=>rw[kD,nX,bY,ih,Nat.succ_mul,add_comm]
theorem op_rep:OpR X (binaryOp .Mult) rRep:=by
 intro pins s σ H x y v u Q I rx ry h;obtain⟨l,k,xs,rfl,rfl,hH,h1,h2,hz,q⟩:=h;cases rx;obtain⟨t,rfl⟩:=ry;obtain⟨z,its,n,r,hl,e⟩:=I.lstM hH;have hlen:its.toArray.size*k.toNat<=sizeLine:=by rw[bI,<-hl];exact hz
 have hcap: ¬its.toArray.size*k.toNat>(2^63-1)/8:=by
  have:(sizeLine:Nat)<=(2^63-1)/8:=ac
  lia
 have hfit: ¬(!Builtin.List.listFitsIndex k)=true:=by
  rw[fitsIndex_both h1 h2];exact bJ
 have hlong: ¬Builtin.List.listTooLong (its.toArray.size*k.toNat)=true:=by
  rw[d27 hlen];exact bJ
 have hnew:foldl (λx1 x2=>x1++x2) #[] (replicate (if its.toArray.isEmpty=true then 0 else k.toNat) its.toArray)=(replicate k.toNat its).flatten.toArray:=by
  have f0: ∀m:Nat,foldl (λx1 x2=>x1++x2) #[] (replicate m its.toArray)=(replicate m its).flatten.toArray:=λm=>by
   have:=foldl_rep its m [];rw[a08]at this;exact this
  rw[f0];cases its with
  | nil=>simp
  | cons a r'=>rw[a9 ae]
 refine wpAny_binaryOp_repeat_ref (T:="list") (U:="int") ac ⟨_,e,rfl⟩ (λs'=>rF s' k t) noFill_list_mul F.fills_int_mul F.slot_int_rmul repeat_list F.slot_int_index.lookup
  (lP F.slot_int_rmul (rF s k t) F.entry_int_rmul (F.args_int_rmul_2 _ _) (int___rmul___int_list k t l its.toArray n)
   ⟨e,rfl,⟨_,e,rfl⟩,lP F.slot_list_mul ⟨_,e,rfl⟩ F.entry_list_mul (F.args_list_mul_2 _ _) (AutoListH.list___mul___list_int_3 l its.toArray n k t hfit hcap hlong) ⟨e,?_⟩⟩)
 rw[hnew];exact⟨.ref _,_,I.lnew (t':=s.toks) (r.rep k.toNat) (by rw[bU6,a17];exact hz),rfl,q _ I.fresh⟩
end
section
variable {prog:Program}{w:World}{A:Around}{E:Value->Shared->Prop}{s:Shared}
set_option maxRecDepth 100000 in
end
end L2
namespace Att
open PySem PySem.W PySem.Calls PyProof.Rows
theorem b62 {P:Params}: ∀(ns:List Int) (vs:List Value),WellAll P h vs (ns.map WData.int)->IntsAre vs ns:=by
 intro ns
 induction ns with
 | nil=>
  intro vs w;rw[jI]at w;cases w;exact .nil
 | cons n ns ih=>
  intro vs w;rw[cR]at w;cases w with
  | cons a b=>
   cases a;exact .cons _ _ (ih _ b)
theorem cU2 {l:OpenLaw}{n:Nat}(hn:l.most=some n){P:Params}{h:Heap}{args:List WData}{vals:List Value}
  (hpre:l.row.toRowW.claim.pre args=true) (hwl:WellAll P h vals args) :
  ∃a vs ns,vals=[Value.ref a]/\args=[WData.list<|ns.map WData.int]/\h.get? a=some {cls:= .type "list",data:= .seq vs.toArray}/\IntsAre vs ns/\ns.length<=n:=by
 have hsh:WShape.hasAll [] args [.list .int]=true:=(pre_splitW hpre).1;have hc:l.pre.holds [] {args:=args}=true:=(pre_splitW hpre).2;obtain⟨d,r,rfl,h1,h2⟩:=hasAllW_cons hsh;obtain rfl:=hasAllW_nil h2;obtain⟨xs,rfl,h3⟩:=hasW_list h1;obtain⟨ns,rfl⟩:=items_int h3;have hlen:ns.length<=n:=by
  unfold OpenLaw.pre at hc;have h4:(WTm.not<|.lt (.lit<|.int (n:Int))<|.len<|.arg 0).holds [] {args:=[.list<|ns.map .int]}=true:=by
   have h4:=(holds_andW hc).1;rw[hn]at h4;exact h4
  have h5:=condW_of h4 (w_not<|w_lt w_lit<|w_len_list<|w_arg rfl);rw[aO]at h5;refine Nat.le_of_not_lt λq=> ?_
  have q':(n:Int)< ((ns.length:Nat):Int):=aa
  first
   | (rw[iJ q']at h5;exact absurd h5 ac)
   | (simp at h5;omega)
 cases hwl with
 | cons w1 w2=>
  cases w2;cases w1 with
  | list ho hall=>exact⟨_,_,ns,rfl,rfl,ho,b62 ns _ hall,hlen⟩
theorem cU3 (l:OpenLaw)(args:List WData):l.row.toRowW.claim.post args (.bool true) args=true:=
 postW_of (r:=l.row.toRowW) (X:=(true==true))
  (show WShape.has [] (.bool true) .bool=true by first|rfl|decide|simp[WShape.has,WShape.arms,WShape.armsAll])
  (show(WTm.eq .res<|.lit<|.bool true).value [] {args:=args,res:=some (.bool true),after:=args}=some (.bool<|true==true)from w_eq_bool (w_res rfl) w_lit) rfl
theorem attach_call {l:OpenLaw}{XP:(Str->Option Value)->Heap->Prop}{d:DefRec}
  (hn:l.most=some n) (hdf:d.params.defaults=[])
  (call: ∀(w:World) (s₀ s₁:Shared) (mg mb:Str->Option Value) (fa:Addr) (o:Obj) (pm cd doc:Value) (a:Addr) (vs:List Value) (ns:List Int),
   Ground q loose [] XP w s₀ mg mb s₁.heap->YP w s₁.heap->
   s₁.heap.get? fa=some o->o.data= .func (docDef d.name d.params d.body d.scope pm cd doc)->s₁.heap.CodeRec cd d.name->mg d.name=some (.ref fa)->
   s₁.heap.get? a=some {cls:= .type "list",data:= .seq vs.toArray}->IntsAre vs ns->ns.length<=n->s₁.gens= #[]->
   codeAny (model l.prog w) callerA (.call (.ref fa) ⟨[.ref a],[]⟩) (λr s'=>r= .ok (.ret<|.bool true)/\OldK s₁.heap s'.heap/\s'.os=s₁.os/\AllBare s'.gens) s₁) :
  WalkO q loose XP YP l.row.toRowW d [] (λf vs=>PySem.call f vs):=by
 intro w s₀ s₁ mg mb G Y fa o pm cd doc dV kV ho hd hcd hD hmg hg args vals as hpre hlay hrd hwl hlo;obtain rfl:dV= .none:=Dflts.none hD hdf;obtain rfl:kV= .none:=Dflts.noKw hD;obtain⟨a,vs,ns,rfl,rfl,hobj,hints,hlen⟩:=cU2 hn hpre hwl;refine enter_call (rC (call w s₀ s₁ mg mb fa o pm cd doc a vs ns G Y ho (fd_plain hd) hcd hmg hobj hints hlen hg) λr s' hq=> ?_)
 obtain⟨rfl,h2,h3,h4⟩:=hq;exact⟨.inl ⟨.bool true,.bool true,[],rfl,λ_=>rfl,.bool true,cU3 l _,λ_=>⟨List.Pairwise.nil,λ_ hm=>(nomatch hm)⟩⟩,h2,h3,h4⟩
end Att
namespace L2
theorem bO9: ∀{vs:List Value} {ns:List Int},IntsAre vs ns->Vals (ns.map V.int) vs
 | _,_,.nil=> .nil
 | _,_,.cons n t h=> .cons ⟨t,rfl⟩ (bO9 h)
def Only (H:Hp):Prop:= ∀b,H b=none\/ ∃o xs,H b=some (.frz o<|.lst xs)
theorem d28 {P:Program}{w:World}{K:Frag}{mg mb:Str->Option Value}{CX:CXT}{k:Nat}{fa a:Addr}{fd:FuncData}{x:Str}{sp:Sp}{s₁:Shared}{vs:List Value}{ns:List Int}
  (KX:K.In s₁.heap) (hns:s₁.heap.Ns mainGlobals mg) (hb:s₁.heap.Ns builtinsNs mb) (hbb: ∀x:Str,x≠"__name__"->mb x=bootBuiltins x) (hlim:s₁.heap.NoLimit) (hg:s₁.gens= #[])
  (ha:s₁.heap.get? a=some {cls:= .type "list",data:= .seq vs.toArray}) (hi:IntsAre vs ns) (hl:ns.length<=sizeLine) (hr:i8 k callerA)
  (F: ∀base:Heap,K.In base->base.Ns mainGlobals mg->tX P w K mg base CX k fa fd [x] sp) (hbind: ∀(s:Shared) (u:Value),BindsTo s fd ⟨[u],[]⟩ [(x,u)])
  (hsp: ∀H:Hp,Only H->SqL K H a (ns.map V.int)->sp [.ref a] H (λv _=>v= .bl true) λ_ _ _=>False)
  (hCX: ∀H e s',CX [] H s₁ (λ_ _ _=>False) e s'->False) :
  codeAny (model P w) callerA (.call (.ref fa) ⟨[.ref a],[]⟩) (λr s'=>r= .ok (.ret<|.bool true)/\OldK s₁.heap s'.heap/\s'.os=s₁.os/\AllBare s'.gens) s₁:=by
 have rv:=bO9 hi;have lenV:=hi.length;have core: ∀H:Hp,Only H->SqL K H a (ns.map V.int)->HOk P w H s₁.heap->(∀b,H b≠none->b=a)->(H a≠none->K.lookup a=none)->
   codeAny (model P w) callerA (.call (.ref fa) ⟨[.ref a],[]⟩) (λr s'=>r= .ok (.ret<|.bool true)/\OldK s₁.heap s'.heap/\s'.os=s₁.os/\AllBare s'.gens) s₁:=by
  intro H hO hS hok hA hK;have base_of: ∀{b:Addr} {o:Obj},s₁.heap.get? b=some o->H b=none->(bT4 s₁.heap H).get? b=some o:=λe n=>d03 e n
  have noA: ∀{b:Addr} {o:Obj} {es:Array DictEntry} {ep:Nat},s₁.heap.get? b=some o->o.data= .dict es ep->H b=none:=λ{b o es ep} e d=>by
   cases q:H b with
   | none=>rfl
   | some u=>
    have e':b=a:=hA b (by rw[q];simp)
    subst e';rw[ha]at e;cases e;have d':Data.seq vs.toArray _=Data.dict es ep:=d;cases d'
  have nsK: ∀{b:Addr} {m:Str->Option Value},s₁.heap.Ns b m->(bT4 s₁.heap H).Ns b m:=λ{b m} ⟨o,es,ep,e,d,r⟩=>⟨o,es,ep,base_of e<|noA e d,d,r⟩
  have hKb:K.In (bT4 s₁.heap H):=λb o e=>base_of (KX b o e) (by
   cases q:H b with
   | none=>rfl
   | some u=>
    have e':b=a:=hA b (by rw[q];simp)
    subst e';rw[hK (by rw[q];simp)]at e;cases e)
  have hM:Mod K mg (bT4 s₁.heap H):=⟨hKb,nsK hns,⟨mb,nsK hb,hbb⟩,let ⟨mc,h1,h2⟩:=hlim;⟨mc,nsK h1,h2⟩⟩;have e0:cE6 P w K mg (bT4 s₁.heap H) callerA [] s₁ H:=⟨rfl,hM,λb o e=>dH7 e,le_of_eq<|cT0 _ _,trivial,λb hb=>absurd (show b∈([]:List Addr)from hb) ae,hok,.of_eq hg⟩
  refine rC ((F _ hKb<|nsK hns).run callerA [] s₁ H ⟨[.ref a],[]⟩ [.ref a] [.ref a] _ _ hr e0 (hbind s₁<|.ref a) (.cons rfl .nil)<|hsp H hO hS) λr s' h=> ?_
  cases r with
  | error e=>exact(hCX H e s' h).elim
  | ok fl=>
   cases fl with
   | next=>exact False.elim h
   | brk=>exact False.elim h
   | cont=>exact False.elim h
   | ret u=>
    obtain⟨v,H',os,bare,un,hok',r',q⟩:=h;have q':v= .bl true:=q;subst q';obtain rfl:u=Value.bool true:=r';refine⟨rfl,OldK.of_keep λb o e=> ?_,os,bare⟩
    cases q:H b with
    | none=>exact un.keep b o e q (by intro z;exact absurd (show b∈([]:List Addr)from z) ae) ae
    | some u=>
     rcases hO b with z| ⟨ob,xs,z⟩
     .rw[q]at z;cases z
     .have z2:=un.frzs b ob _ z;obtain⟨e1,_⟩:=hok b _ z;obtain⟨e2,_⟩:=hok' b _ z2;rw[e]at e1;cases e1;exact e2
 cases hk:K.lookup a with
 | some o=>
  have e:=KX a o hk;rw[ha]at e;cases e;refine core (λ_=>none) (λ_=> .inl rfl) (.inr ⟨_,vs.toArray,_,hk,rfl,rfl,rfl,by rw[bI,lenV];exact hl,by simpa using rv⟩) (λb u z=>by have z':(none:Option HO)=some u:=z;cases z') (λb z=>absurd rfl z) λz=>absurd rfl z
 | none=>
  refine core (λb=>if b=a then some (.frz {cls:= .type "list",data:= .seq vs.toArray}<|.lst<|ns.map V.int)else none) (λb=> ?_) (.inl<|.inr ⟨{cls:= .type "list",data:= .seq vs.toArray},aA rfl⟩) (λb u z=> ?_) (λb z=> ?_) λ_=>hk
  .by_cases hb:b=a
   .exact .inr ⟨_,_,aA hb⟩
   .exact .inl (a9 hb)
  .by_cases hb:b=a
   .have z':=(aA hb).symm.trans z;cases z';subst hb;exact⟨ha,by rw[aO];exact hl,vs,_,rv,ha⟩
   .have z':=(a9 hb).symm.trans z;cases z'
  .by_cases hb:b=a
   .exact hb
   .exact absurd (a9 hb) z
theorem walk_of {l:PySem.W.OpenLaw}{XP:(Str->Option Value)->Heap->Prop}{d:DefRec}{K:Params->Frag}{CX:World->CXT}{sp:World->Sp}
  (hn:l.most=some n) (hn2:n<=sizeLine) (hdf:d.params.defaults=[]) (hr:i8 k callerA)
  (hY: ∀(w:World) (h:Heap),YP w h->(K w.params).In h)
  (F: ∀(w:World) (mg:Str->Option Value) (fa:Addr) (h:Heap),(K w.params).In h->h.Ns mainGlobals mg->mg d.name=some (.ref fa)->
   ∃fd:FuncData,(∀(s:Shared) (u:Value),BindsTo s fd ⟨[u],[]⟩ [(x,u)])/\
    ∀base:Heap,(K w.params).In base->base.Ns mainGlobals mg->tX l.prog w (K w.params) mg base (CX w) k fa fd [x] (sp w))
  (hsp: ∀(w:World) (H:Hp) (a:Addr) (ns:List Int),ns.length<=n->Only H->SqL (K w.params) H a (ns.map V.int)->sp w [.ref a] H (λv _=>v= .bl true) λ_ _ _=>False)
  (hCX: ∀(w:World) (H:Hp) (s:Shared) (e:Value) (s':Shared),CX w [] H s (λ_ _ _=>False) e s'->False) :
  PySem.W.WalkO q loose XP YP l.row.toRowW d [] (λf vs=>PySem.call f vs):=by
 refine Att.attach_call hn hdf λw s₀ s₁ mg mb fa o pm cd doc a vs ns G Y ho hd hcd hmg hobj hints hlen hg=> ?_
 have KX:=hY w _ Y;obtain⟨fd,hb,hF⟩:=F w mg fa _ KX G.T.g hmg;exact d28 KX G.T.g G.T.b G.T.builtins G.T.nolimit hg hobj hints (aM hlen hn2) hr hF hb (λH hO hS=>hsp w H a ns hlen hO hS) λH e s'=>hCX w H s₁ e s'
def jQ (s:Stmt):Arguments:=match s with
 | .FunctionDef _ a _ _ _ _ _ _ _ _=>a
 | _=>{posonlyargs:=[],args:=[],vararg:=none,kwonlyargs:=[],kw_defaults:=[],kwarg:=none,defaults:=[]}
def eG (s:Stmt):List Stmt:=match s with
 | .FunctionDef _ _ b _ _ _ _ _ _ _=>b
 | _=>[]
def aJ (s:Stmt):Scope:=match s with
 | .FunctionDef _ _ _ _ _ _ sc _ _ _=>sc
 | _=>{kind:= .function,names:=[],isGenerator:=false,isCoroutine:=false}
abbrev CX0:CXT:=λ_ _ _ _ _ _=>False
abbrev E0:XK:=λ_ _ _=>False
structure Fun (K:Frag)(x qual:Str)(st:Stmt)(f:Addr)(fd:FuncData):Prop where
 ex: ∃(oc:Value) (od:Option Addr) (kV doc pm:Value) (an:Option Addr) (cdv ct:Value) (osl:Array (Option Value)),
  fd=fnOf x qual (jQ st) (eG st) (aJ st) .none kV doc pm an cdv ct/\K.lookup f=some ⟨oc,od,.func fd,osl⟩/\codeIn K cdv qual=true
 kp:keepIn K (.ref f)=true
section
variable {P:Program}{w:World}{K:Frag}{mg:Str->Option Value}{base:Heap}
theorem Fun.ok {ps:List Str}{sp:Sp}(F:Fun K x qual st f fd)(S:b9 N ps (aJ st))(len: ∀vs H Q E,sp vs H Q E->vs.length=ps.length)
  (hbody: ∀(cdv:Value) (A:Around) (outer:List Env) (s:Shared) (H:Hp) (vs:List V) (Q:VK) (E:XK),i8 k (A.deeper<|envOfC qual (aJ st) s.heap.objs.size f cdv)->sp vs H Q E->
   ∃t,PSs (v9 CX0 P w K mg base N qual (aJ st) f cdv A outer s H E).nox (eG st) t/\t {nx:=λ_ H'=>Q .non H',rt:=Q} (start N vs) H):tX P w K mg base CX0 (k+1) f fd ps sp:=by
 obtain⟨oc,od,kV,doc,pm,an,cdv,ct,osl,rfl,lk,hcd⟩:=F.ex;refine d22 lk hcd S len λA outer s H vs Q E hr hsp=> ?_
 obtain⟨t,h,q⟩:=hbody cdv A outer s H vs Q E hr hsp;exact⟨t,h.nox,q⟩
theorem Fun.binds {ps:List Str}(F:Fun K x qual st f fd)
  (h: ∀(kV doc pm:Value) (an:Option Addr) (cdv ct:Value) (us:List Value),us.length=ps.length->bindArgs (fnOf x qual (jQ st) (eG st) (aJ st) .none kV doc pm an cdv ct) ⟨us,[]⟩=pure (ps.zip us)):Binds K fd ps []:=by
 obtain⟨oc,od,kV,doc,pm,an,cdv,ct,osl,rfl,lk,hcd⟩:=F.ex;exact .all (h kV doc pm an cdv ct)
theorem bA3 {oc:Value}{an:Option Addr}{osl:Array (Option Value)}{kV doc pm cdv ct:Value}(l:K.lookup f=some ⟨oc,od,.func<|fnOf x qual (jQ st) (eG st) (aJ st) .none kV doc pm an cdv ct,osl⟩)
  (c:codeIn K cdv qual=true) (k:keepIn K (.ref f)=true):Fun K x qual st f (fnOf x qual (jQ st) (eG st) (aJ st) .none kV doc pm an cdv ct):=⟨⟨oc,od,kV,doc,pm,an,cdv,ct,osl,rfl,l,c⟩,k⟩
end
section
variable {X:Cx}
theorem pv (i:Nat)(hN:↥(X.N[i]? =some x))(hv:Vis X.env.scope x:=by first|exact Or.inl rfl|exact Or.inr (Or.inl rfl)|exact Or.inr (Or.inr rfl))(hd:⇑((x==("__debug__":Str))=false))
  (hcd:⇑((x==("__classdict__":Str))=false)):PE X (.Name x pos) (aP6 i):=pe_var hN hv hd hcd
end
def iC (H H':Hp):Prop:= ∀b o,H b=some o->H' b=some o
theorem iC.refl (H:Hp):iC H H:=λ_ _ h=>h
theorem iC.trans {H H1 H2:Hp}(a:iC H H1)(b:iC H1 H2):iC H H2:=λc o h=>b c o (a c o h)
theorem iC.free {H H':Hp}(e:iC H H')(h:H' l=Option.none):H l=Option.none:=by
 cases q:H l with
 | none=>rfl
 | some o=>
  rw[e l o q]at h;cases h
theorem iC.seq {H H':Hp}{xs:List V}(e:iC H H')(h:SqL K H a xs):SqL K H' a xs:=by
 rcases h with(h| ⟨o,h⟩)|h
 .exact .inl (.inl<|e _ _ h)
 .exact .inl (.inr ⟨o,e _ _ h⟩)
 .exact .inr h
end L2
namespace M
inductive D where
 | non|bl (b:Bool)|int (i:Int)|str (x:Str)|ty (n:String)
 | tup (l:List D)|lst (l:List D)|rol (l:List D)
 | obj (C:Addr) (ks:List Str) (l:List D)
 | adr (a:Addr)
 | xob (a d:Addr) (ks:List Str) (l:List D)
abbrev AS:=Addr->Prop
def KT (K:Frag)(a:Addr)(vs:List V):Prop:=
 ∃(o:Obj) (its:Array Value) (n:Nat),K.lookup a=some o/\o.cls= .type "tuple"/\o.data= .seq its n/\its.size<=sizeLine/\Vals vs its.toList
def KL (K:Frag)(a:Addr)(vs:List V):Prop:=
 ∃(o:Obj) (its:Array Value) (n:Nat),K.lookup a=some o/\o.cls= .type "list"/\o.dict=none/\o.data= .seq its n/\its.size<=sizeLine/\Vals vs its.toList
def OkC (K:Frag)(C:Addr)(ks:List Str):Prop:=Cls K C/\ ∀f∈ks,a89 K C f
mutual
def Rep (K:Frag)(A:AS)(H:Hp):D->V->Prop
 | .non,v=>v= .non
 | .bl b,v=>v= .bl b
 | .int i,v=>v= .int i
 | .str x,v=>v= .str x
 | .ty n,v=>v= .ty n
 | .tup l,v=> ∃a vs,v= .ref a/\((¬A a/\Rd H a (.tup vs))\/KT K a vs)/\bP K A H l vs
 | .lst l,v=> ∃a vs,v= .ref a/\ ¬A a/\H a=some (.lst vs)/\bP K A H l vs
 | .rol l,v=> ∃a vs,v= .ref a/\((¬A a/\Rd H a (.lst vs))\/KL K a vs)/\bP K A H l vs
 | .obj C ks l,v=> ∃a dx vs,v= .ref a/\ ¬A a/\H a=some (.ins C dx<|ks.zip vs)/\ks.length=vs.length/\bP K A H l vs/\OkC K C ks
 | .adr a,v=>v= .ref a
 | .xob a d ks l,v=> ∃vs,v= .ref a/\ ¬A d/\H d=some (.xd<|ks.zip vs)/\ks.length=vs.length/\bP K A H l vs
def bP (K:Frag)(A:AS)(H:Hp):List D->List V->Prop
 | [],vs=>vs=[]
 | d::ds,vs=> ∃v vr,vs=v::vr/\Rep K A H d v/\bP K A H ds vr
end
section
variable {K:Frag}{A A':AS}{H H':Hp}
def nJ (A:AS)(H:Hp)(A':AS)(H':Hp):Prop:= ∀b o,¬A b->H b=some o-> ¬A' b/\H' b=some o
theorem Rd.pres (p:nJ A H A' H'){u:HO}(n: ¬A a)(r:Rd H a u): ¬A' a/\Rd H' a u:=by
 rcases r with r| ⟨o,r⟩
 .exact⟨(p a _ n r).1,.inl (p a _ n r).2⟩
 .exact⟨(p a _ n r).1,.inr ⟨o,(p a _ n r).2⟩⟩
mutual
theorem Rep.mono (p:nJ A H A' H'): ∀{d:D} {v:V},Rep K A H d v->Rep K A' H' d v
 | .non,_,h=>h
 | .bl _,_,h=>h
 | .int _,_,h=>h
 | .str _,_,h=>h
 | .ty _,_,h=>h
 | .tup l,v,h=>by
  simp only[Rep]at h⊢;obtain⟨a,vs,e,c,r⟩:=h;refine⟨a,vs,e,?_,bP.mono p r⟩;rcases c with⟨n,c⟩|c
  .exact .inl (Rd.pres p n c)
  .exact .inr c
 | .lst l,v,h=>by
  simp only[Rep]at h⊢;obtain⟨a,vs,e,n,c,r⟩:=h;exact⟨a,vs,e,(p a _ n c).1,(p a _ n c).2,bP.mono p r⟩
 | .rol l,v,h=>by
  simp only[Rep]at h⊢;obtain⟨a,vs,e,c,r⟩:=h;refine⟨a,vs,e,?_,bP.mono p r⟩;rcases c with⟨n,c⟩|c
  .exact .inl (Rd.pres p n c)
  .exact .inr c
 | .obj C ks l,v,h=>by
  simp only[Rep]at h⊢;obtain⟨a,dx,vs,e,n,c,hl,r,ok⟩:=h;exact⟨a,dx,vs,e,(p a _ n c).1,(p a _ n c).2,hl,bP.mono p r,ok⟩
 | .adr _,_,h=>h
 | .xob a d ks l,v,h=>by
  simp only[Rep]at h⊢;obtain⟨vs,e,n,c,hl,r⟩:=h;exact⟨vs,e,(p d _ n c).1,(p d _ n c).2,hl,bP.mono p r⟩
theorem bP.mono (p:nJ A H A' H'): ∀{l:List D} {vs:List V},bP K A H l vs->bP K A' H' l vs
 | [],_,h=>by simp only[bP]at h ⊢; exact h
 | d::ds,vs,h=>by
  simp only[bP]at h⊢;obtain⟨v,vr,e,r,rs⟩:=h;exact⟨v,vr,e,Rep.mono p r,bP.mono p rs⟩
end
theorem bP.length: ∀{l:List D} {vs:List V},bP K A H l vs->l.length=vs.length
 | [],_,h=>by simp only[bP]at h;subst h;rfl
 | d::ds,vs,h=>by
  simp only[bP]at h;obtain⟨v,vr,rfl,_,rs⟩:=h;simp only[fL,bP.length rs]
theorem bP.nil:bP K A H [] []:=by simp only[bP]
theorem bP.cons {d:D}{v:V}{l:List D}{vs:List V}(r:Rep K A H d v)(rs:bP K A H l vs):bP K A H (d::l) (v::vs):=by
 simp only[bP];exact⟨v,vs,rfl,r,rs⟩
theorem bP.uncons {d:D}{l:List D}{vs:List V}(h:bP K A H (d::l) vs): ∃v vr,vs=v::vr/\Rep K A H d v/\bP K A H l vr:=by
 simpa only[bP]using h
theorem bP.unnil {vs:List V}(h:bP K A H [] vs):vs=[]:=by simpa only[bP]using h
theorem bP.append: ∀{l m:List D} {vs ws:List V},bP K A H l vs->bP K A H m ws->bP K A H (l++m) (vs++ws)
 | [],_,_,_,h,g=>by rw[h.unnil];exact g
 | d::l,m,vs,ws,h,g=>by
  obtain⟨v,vr,rfl,r,rs⟩:=h.uncons;exact .cons r (bP.append rs g)
theorem bP.get: ∀{l:List D} {vs:List V} {i:Nat} {d:D},bP K A H l vs->l[i]? =some d-> ∃v,vs[i]? =some v/\Rep K A H d v
 | [],_,_,_,_,e=>by simp at e
 | d::l,vs,0,d',h,e=>by
  obtain⟨v,vr,rfl,r,rs⟩:=h.uncons;simp at e;subst e;exact⟨v,ae,r⟩
 | d::l,vs,i+1,d',h,e=>by
  obtain⟨v,vr,rfl,r,rs⟩:=h.uncons;obtain⟨w,h1,h2⟩:=bP.get (i:=i) rs (by simpa using e)
  exact⟨w,by simpa using h1,h2⟩
theorem bP.set: ∀{l:List D} {vs:List V} {d:D} {v:V} (i:Nat),bP K A H l vs->Rep K A H d v->bP K A H (l.set i d) (vs.set i v)
 | [],_,_,_,_,h,_=>by rw[h.unnil];exact .nil
 | d'::l,vs,d,v,0,h,g=>by
  obtain⟨w,vr,rfl,r,rs⟩:=h.uncons;exact .cons g rs
 | d'::l,vs,d,v,i+1,h,g=>by
  obtain⟨w,vr,rfl,r,rs⟩:=h.uncons;exact .cons r (bP.set i rs g)
theorem bP.drop: ∀{l:List D} {vs:List V} (n:Nat),bP K A H l vs->bP K A H (l.drop n) (vs.drop n)
 | _,_,0,h=>h
 | [],_,n+1,h=>by rw[h.unnil];exact .nil
 | d::l,vs,n+1,h=>by
  obtain⟨v,vr,rfl,r,rs⟩:=h.uncons;exact bP.drop n rs
theorem bP.take: ∀{l:List D} {vs:List V} (n:Nat),bP K A H l vs->bP K A H (l.take n) (vs.take n)
 | _,_,0,h=>by simp only[List.take_zero];exact .nil
 | [],_,n+1,h=>by rw[h.unnil];exact .nil
 | d::l,vs,n+1,h=>by
  obtain⟨v,vr,rfl,r,rs⟩:=h.uncons;exact .cons r (bP.take n rs)
theorem bP.rep {l:List D}{vs:List V}(h:bP K A H l vs): ∀k:Nat,bP K A H (replicate k l).flatten (replicate k vs).flatten
 | 0=> .nil
 | k+1=>by
  rw[kD,kD,nX,nX];exact .append h (h.rep k)
theorem nJ.same (s:iC H H'):nJ A H A H':=λb o n e=>⟨n,s b o e⟩
theorem nJ.sub (s:iC H H')(h: ∀a,A' a->A a):nJ A H A' H':=λb o n e=>⟨λq=>n (h b q),s b o e⟩
theorem nJ.fresh (s:iC H H')(n:H a=none):nJ A H (λb=>A b\/b=a) H':=λb o nb e=>
 ⟨λq=>q.elim nb λz=>(by subst z;rw[n]at e;cases e),s b o e⟩
theorem nJ.upd {a:Addr}{o:HO}(h:A a):nJ A H A (upd H a o):=λb o' nb e=>⟨nb,by rw[cE λz=>nb (by subst z;exact h)];exact e⟩
end
inductive B where
 | pu (d:D)|ow (l:List D)|bo (l:List D)
noncomputable def B.d:B->D
 | .pu d=>d
 | .ow l=> .lst l
 | .bo l=> .lst l
abbrev Ev:=List (Option B)
def Own (ρ:Ev)(σ:L2.St):AS:=λa=> ∃(i:Nat) (l:List D),ρ[i]? =some (some<|.ow l)/\σ[i]? =some (some<|.ref a)
structure C0 where
 H0:Hp
 A0:AS
def Av (C:C0)(ρ:Ev)(σ:L2.St):AS:=λa=>C.A0 a\/Own ρ σ a
structure EOk (K:Frag)(C:C0)(ρ:Ev)(σ:L2.St)(H:Hp):Prop where
 len:ρ.length=σ.length
 pu: ∀(i:Nat) (d:D),ρ[i]? =some (some<|.pu d)-> ∃v,σ[i]? =some (some v)/\Rep K (Av C ρ σ) H d v
 ow: ∀(i:Nat) (l:List D),ρ[i]? =some (some<|.ow l)-> ∃a vs,σ[i]? =some (some<|.ref a)/\H a=some (.lst vs)/\C.H0 a=none/\bP K (Av C ρ σ) H l vs
 inj: ∀(i j:Nat) (l l':List D) (a:Addr),ρ[i]? =some (some<|.ow l)->ρ[j]? =some (some<|.ow l')->σ[i]? =some (some<|.ref a)->σ[j]? =some (some<|.ref a)->i=j
 bo: ∀(i:Nat) (l:List D),ρ[i]? =some (some<|.bo l)-> ∃a vs,σ[i]? =some (some<|.ref a)/\C.A0 a/\C.H0 a=some (.lst vs)/\bP K (Av C ρ σ) H l vs
 ext:iC C.H0 H
 a0: ∀a,C.A0 a->C.H0 a≠none
section
variable {K:Frag}{C:C0}{ρ ρ':Ev}{σ σ':L2.St}{H H':Hp}
theorem EOk.avSome (I:EOk K C ρ σ H)(h:Av C ρ σ a):H a≠none:=by
 rcases h with h| ⟨i,l,h1,h2⟩
 .intro z;cases e:C.H0 a with
  | none=>exact I.a0 a h e
  | some o=>rw[I.ext a o e]at z;cases z
 .obtain⟨b,vs,h3,h4,_⟩:=I.ow i l h1;rw[h2]at h3;cases h3;rw[h4];simp
theorem EOk.same (I:EOk K C ρ σ H)(s:iC H H'):EOk K C ρ σ H' where
 len:=I.len
 pu:=λi d h=>let ⟨v,h1,h2⟩:=I.pu i d h;⟨v,h1,h2.mono<|.same s⟩
 ow:=λi l h=>let ⟨a,vs,h1,h2,h3,h4⟩:=I.ow i l h;⟨a,vs,h1,s _ _ h2,h3,h4.mono<|.same s⟩
 inj:=I.inj
 bo:=λi l h=>let ⟨a,vs,h1,h2,h3,h4⟩:=I.bo i l h;⟨a,vs,h1,h2,h3,h4.mono<|.same s⟩
 ext:=I.ext.trans s
 a0:=I.a0
theorem get_set_ne {l:List α}{x:α}(h:i≠j):(l.set i x)[j]? =l[j]? :=by
 rw[aO3];simp[h]
theorem iM {l:List α}{x:α}(h:i<l.length):(l.set i x)[i]? =some x:=by
 rw[aO3];simp[h]
theorem bH {l:List α}{x y:α}(h:(l.set i x)[j]? =some y):(i=j/\y=x/\i<l.length)\/(i≠j/\l[j]? =some y):=by
 by_cases e:i=j
 .subst e;rw[aO3]at h
  by_cases hl:i<l.length
  .simp[hl]at h;exact .inl ⟨rfl,h.symm,hl⟩
  .simp[hl]at h
 .exact .inr ⟨e,by rw[get_set_ne e]at h;exact h⟩
def vA (K:Frag)(A:AS)(H H':Hp):B->V->Prop
 | .pu d,v=>Rep K A H' d v
 | .ow l,v=> ∃a vs,v= .ref a/\H a=none/\H' a=some (.lst vs)/\bP K (λb=>A b\/b=a) H' l vs
 | .bo _,_=>False
theorem vA.rep {A:AS}(hA: ∀a,A a->H a≠none): ∀{b:B} {v:V},vA K A H H' b v->Rep K A H' b.d v
 | .pu d,v,h=>h
 | .ow l,v,h=>by
  obtain⟨a,vs,e,n,h1,r⟩:=h;show Rep K A H' (.lst l) v;simp only[Rep];exact⟨a,vs,e,λz=>hA a z n,h1,r.mono λb o nb q=>⟨λz=>nb (.inl z),q⟩⟩
 | .bo l,v,h=>h.elim
theorem EOk.store (I:EOk K C ρ σ H){b:B}{v:V}{H1:Hp}(s:iC H H1)(r:vA K (Av C ρ σ) H H1 b v)(hi:i<σ.length):EOk K C (ρ.set i<|some b) (σ.set i<|some v) H1:=by
 have I1:=I.same s;have hir:i<ρ.length:=by rw[I.len];exact hi
 cases b with
 | pu d=>
  have sub: ∀a,Av C (ρ.set i<|some<|.pu d) (σ.set i<|some v) a->Av C ρ σ a:=by
   rintro a (z| ⟨j,l,h1,h2⟩)
   .exact .inl z
   .rcases bH h1 with⟨rfl,h3,_⟩| ⟨ne,h3⟩
    .cases h3
    .rw[get_set_ne ne]at h2;exact .inr ⟨j,l,h3,h2⟩
  refine⟨by rw[eZ,eZ];exact I.len,?_,?_,?_,?_,I1.ext,I.a0⟩
  rotate_right
  .intro j l h;rcases bH h with⟨rfl,h3,_⟩| ⟨ne,h3⟩
   .cases h3
   .obtain⟨a,vs,h4,h5,h6,h7⟩:=I1.bo j l h3;exact⟨a,vs,by rw[get_set_ne ne];exact h4,h5,h6,h7.mono<|.sub (.refl _) sub⟩
  .intro j d' h;rcases bH h with⟨rfl,h3,_⟩| ⟨ne,h3⟩
   .cases h3;exact⟨v,iM hi,Rep.mono (.sub (.refl _) sub) r⟩
   .obtain⟨v',h4,h5⟩:=I1.pu j d' h3;exact⟨v',by rw[get_set_ne ne];exact h4,h5.mono<|.sub (.refl _) sub⟩
  .intro j l h;rcases bH h with⟨rfl,h3,_⟩| ⟨ne,h3⟩
   .cases h3
   .obtain⟨a,vs,h4,h5,h6,h7⟩:=I1.ow j l h3;exact⟨a,vs,by rw[get_set_ne ne];exact h4,h5,h6,h7.mono<|.sub (.refl _) sub⟩
  .intro j k l l' a h1 h2 h3 h4;rcases bH h1 with⟨rfl,z,_⟩| ⟨ne,z⟩
   .cases z
   .rcases bH h2 with⟨rfl,z',_⟩| ⟨ne',z'⟩
    .cases z'
    .rw[get_set_ne ne]at h3;rw[get_set_ne ne']at h4;exact I.inj j k l l' a z z' h3 h4
 | ow l0=>
  obtain⟨a0,vs0,rfl,n0,e0,r0⟩:=r;have sub: ∀a,Av C (ρ.set i<|some<|.ow l0) (σ.set i<|some<|.ref a0) a->Av C ρ σ a\/a=a0:=by
   rintro a (z| ⟨j,l,h1,h2⟩)
   .exact .inl (.inl z)
   .rcases bH h1 with⟨rfl,h3,_⟩| ⟨ne,h3⟩
    .rw[iM hi]at h2;cases h2;exact .inr rfl
    .rw[get_set_ne ne]at h2;exact .inl (.inr ⟨j,l,h3,h2⟩)
  have P:nJ (Av C ρ σ) H (Av C (ρ.set i<|some<|.ow l0)<|σ.set i<|some<|.ref a0) H1:=λb o nb e=>
   ⟨λq=>(sub b q).elim nb λz=>(by subst z;rw[n0]at e;cases e),s b o e⟩
  refine⟨by rw[eZ,eZ];exact I.len,?_,?_,?_,?_,I1.ext,I.a0⟩
  rotate_right
  .intro j l h;rcases bH h with⟨rfl,h3,_⟩| ⟨ne,h3⟩
   .cases h3
   .obtain⟨a,vs,h4,h5,h6,h7⟩:=I.bo j l h3;exact⟨a,vs,by rw[get_set_ne ne];exact h4,h5,h6,h7.mono P⟩
  .intro j d' h;rcases bH h with⟨rfl,h3,_⟩| ⟨ne,h3⟩
   .cases h3
   .obtain⟨v',h4,h5⟩:=I.pu j d' h3;exact⟨v',by rw[get_set_ne ne];exact h4,h5.mono P⟩
  .intro j l h;rcases bH h with⟨rfl,h3,_⟩| ⟨ne,h3⟩
   .cases h3;refine⟨a0,vs0,iM hi,e0,?_,r0.mono λb o nb q=>⟨λz=>nb (sub b z),q⟩⟩
    cases e:C.H0 a0 with
    | none=>rfl
    | some o=>rw[I.ext _ _ e]at n0;cases n0
   .obtain⟨a,vs,h4,h5,h6,h7⟩:=I.ow j l h3;exact⟨a,vs,by rw[get_set_ne ne];exact h4,s _ _ h5,h6,h7.mono P⟩
  .intro j k l l' a h1 h2 h3 h4;have old: ∀{j:Nat} {l:List D},ρ[j]? =some (some<|.ow l)->σ[j]? ≠some (some<|.ref a0):=λ{j l} h z=>by
    obtain⟨b,vs,h4,h5,_⟩:=I.ow j l h;rw[z]at h4;cases h4;rw[n0]at h5;cases h5
   rcases bH h1 with⟨rfl,z,_⟩| ⟨ne,z⟩
   .rw[iM hi]at h3;cases h3;rcases bH h2 with⟨rfl,z',_⟩| ⟨ne',z'⟩
    .rfl
    .rw[get_set_ne ne']at h4;exact absurd h4 (old z')
   .rw[get_set_ne ne]at h3;rcases bH h2 with⟨rfl,z',_⟩| ⟨ne',z'⟩
    .rw[iM hi]at h4;cases h4;exact absurd h3 (old z)
    .rw[get_set_ne ne']at h4;exact I.inj j k l l' a z z' h3 h4
 | bo l0=>exact r.elim
theorem EOk.freeze (I:EOk K C ρ σ H){l:List D}(h:ρ[i]? =some (some<|.ow l)) :
  EOk K C (ρ.set i<|some<|.pu<|.lst l) σ H/\(∀a,Own (ρ.set i<|some<|.pu<|.lst l) σ a->Own ρ σ a)/\ ∃v,σ[i]? =some (some v)/\Rep K (Av C (ρ.set i<|some<|.pu<|.lst l) σ) H (.lst l) v:=by
 have sub: ∀a,Own (ρ.set i<|some<|.pu<|.lst l) σ a->Own ρ σ a:=by
  rintro a ⟨j,l',h1,h2⟩;rcases bH h1 with⟨rfl,h3,_⟩| ⟨ne,h3⟩
  .cases h3
  .exact⟨j,l',h3,h2⟩
 have subA: ∀a,Av C (ρ.set i<|some<|.pu<|.lst l) σ a->Av C ρ σ a:=λa z=>z.imp id (sub a)
 obtain⟨a,vs,h1,h2,h3,h4⟩:=I.ow i l h;have na: ¬Av C (ρ.set i<|some<|.pu<|.lst l) σ a:=by
  rintro(z| ⟨j,l',g1,g2⟩)
  .exact I.a0 a z h3
  .rcases bH g1 with⟨rfl,g3,_⟩| ⟨ne,g3⟩
   .cases g3
   .exact ne (I.inj i j l l' a h g3 h1 g2)
 have R:Rep K (Av C (ρ.set i<|some<|.pu<|.lst l) σ) H (.lst l) (.ref a):=by
  simp only[Rep];exact⟨a,vs,rfl,na,h2,h4.mono<|.sub (.refl _) subA⟩
 refine⟨⟨by rw[eZ];exact I.len,?_,?_,?_,?_,I.ext,I.a0⟩,sub,.ref a,h1,R⟩
 rotate_right
 .intro j l' g;rcases bH g with⟨rfl,g3,_⟩| ⟨ne,g3⟩
  .cases g3
  .obtain⟨a',vs',g4,g5,g6,g7⟩:=I.bo j l' g3;exact⟨a',vs',g4,g5,g6,g7.mono<|.sub (.refl _) subA⟩
 .intro j d' g;rcases bH g with⟨rfl,g3,_⟩| ⟨ne,g3⟩
  .cases g3;exact⟨_,h1,R⟩
  .obtain⟨v',g4,g5⟩:=I.pu j d' g3;exact⟨v',g4,g5.mono<|.sub (.refl _) subA⟩
 .intro j l' g;rcases bH g with⟨rfl,g3,_⟩| ⟨ne,g3⟩
  .cases g3
  .obtain⟨a',vs',g4,g5,g6,g7⟩:=I.ow j l' g3;exact⟨a',vs',g4,g5,g6,g7.mono<|.sub (.refl _) subA⟩
 .intro j k l1 l2 a' g1 g2 g3 g4;rcases bH g1 with⟨rfl,z,_⟩| ⟨ne,z⟩
  .cases z
  .rcases bH g2 with⟨rfl,z',_⟩| ⟨ne',z'⟩
   .cases z'
   .exact I.inj j k l1 l2 a' z z' g3 g4
theorem EOk.write (I:EOk K C ρ σ H){l l':List D}{vs':List V}(h:ρ[i]? =some (some<|.ow l))(hs:σ[i]? =some (some<|.ref a))(r:bP K (Av C ρ σ) H l' vs') :
  EOk K C (ρ.set i<|some<|.ow l') σ (upd H a<|.lst vs'):=by
 have hi:i<ρ.length:=(l8.mp h).1;have sub: ∀b,Av C (ρ.set i<|some<|.ow l') σ b->Av C ρ σ b:=by
  rintro b (z| ⟨j,l2,h1,h2⟩)
  .exact .inl z
  .rcases bH h1 with⟨rfl,h3,_⟩| ⟨ne,h3⟩
   .exact .inr ⟨i,l,h,h2⟩
   .exact .inr ⟨j,l2,h3,h2⟩
 have own:Av C ρ σ a:= .inr ⟨i,l,h,hs⟩;have P:nJ (Av C ρ σ) H (Av C (ρ.set i<|some<|.ow l') σ) (upd H a<|.lst vs'):=λb o nb e=>⟨λz=>nb (sub b z),(nJ.upd own b o nb e).2⟩
 obtain⟨a1,vs,h1,h2,h3,h4⟩:=I.ow i l h;rw[hs]at h1;cases h1;refine⟨by rw[eZ];exact I.len,?_,?_,?_,?_,?_,I.a0⟩
 rotate_left 3
 .intro j l2 g;rcases bH g with⟨rfl,g3,_⟩| ⟨ne,g3⟩
  .cases g3
  .obtain⟨a',vs',g4,g5,g6,g7⟩:=I.bo j l2 g3;exact⟨a',vs',g4,g5,g6,g7.mono P⟩
 rotate_left 1
 .intro j d' g;rcases bH g with⟨rfl,g3,_⟩| ⟨ne,g3⟩
  .cases g3
  .obtain⟨v',g4,g5⟩:=I.pu j d' g3;exact⟨v',g4,g5.mono P⟩
 .intro j l2 g;rcases bH g with⟨rfl,g3,_⟩| ⟨ne,g3⟩
  .cases g3;exact⟨a,vs',hs,j0,h3,r.mono P⟩
  .obtain⟨a',vs2,g4,g5,g6,g7⟩:=I.ow j l2 g3;refine⟨a',vs2,g4,?_,g6,g7.mono P⟩;rw[cE λz=> ?_]
   .exact g5
   .subst z;exact ne (I.inj i j l l2 a' h g3 hs g4)
 .intro j k l1 l2 a' g1 g2 g3 g4;have old: ∀{j:Nat} {l1:List D},(ρ.set i<|some<|.ow l')[j]? =some (some<|.ow l1)-> ∃l3,ρ[j]? =some (some<|.ow l3):=λ{j l1} g=>by
   rcases bH g with⟨rfl,z,_⟩| ⟨ne,z⟩
   .exact⟨l,h⟩
   .exact⟨l1,z⟩
  obtain⟨_,q1⟩:=old g1;obtain⟨_,q2⟩:=old g2;exact I.inj j k _ _ a' q1 q2 g3 g4
 .intro b o e;rw[cE λz=> ?_]
  .exact I.ext b o e
  .subst z;rw[h3]at e;cases e
noncomputable def C0.raise (C:C0)(ρ:Ev)(σ:L2.St)(H:Hp)(D:(a:Addr)->Decidable (Own ρ σ a)):C0:=⟨λb=> @ite _ (Own ρ σ b) (D b) none (H b),C.A0⟩
open Classical in
theorem EOk.raise (I:EOk K C ρ σ H):EOk K (C.raise ρ σ H λ_=>inferInstance) ρ σ H/\iC C.H0 (C.raise ρ σ H λ_=>inferInstance).H0:=by
 have e1: ∀b,Own ρ σ b->(C.raise ρ σ H λ_=>inferInstance).H0 b=none:=λb h=>aA h
 have e2: ∀b,¬Own ρ σ b->(C.raise ρ σ H λ_=>inferInstance).H0 b=H b:=λb h=>a9 h
 have no: ∀b o,C.H0 b=some o-> ¬Own ρ σ b:=λb o e ⟨i,l,h1,h2⟩=>by
  obtain⟨a,vs,h3,h4,h5,_⟩:=I.ow i l h1;rw[h2]at h3;cases h3;rw[h5]at e;cases e
 have s1:iC C.H0 (C.raise ρ σ H λ_=>inferInstance).H0:=λb o e=>by rw[e2 b<|no b o e];exact I.ext b o e
 refine⟨⟨I.len,I.pu,λi l h=> ?_,I.inj,λi l h=> ?_,λb o e=> ?_,λa h z=> ?_⟩,s1⟩
 .obtain⟨a,vs,h3,h4,h5,h6⟩:=I.ow i l h;exact⟨a,vs,h3,h4,e1 a ⟨i,l,h,h3⟩,h6⟩
 .obtain⟨a,vs,h3,h4,h5,h6⟩:=I.bo i l h;exact⟨a,vs,h3,h4,s1 _ _ h5,h6⟩
 .by_cases q:Own ρ σ b
  .rw[e1 b q]at e;cases e
  .rw[e2 b q]at e;exact e
 .cases e:C.H0 a with
  | none=>exact I.a0 a h e
  | some o=>rw[s1 a o e]at z;cases z
theorem EOk.lower {C C':C0}(I:EOk K C' ρ σ H)(s:iC C.H0 C'.H0)(e:C'.A0=C.A0)(ha: ∀a,C.A0 a->C.H0 a≠none):EOk K C ρ σ H:=by
 obtain⟨H0',A0'⟩:=C';obtain⟨H0,A0⟩:=C;have e':A0'=A0:=e;subst e';refine⟨I.len,I.pu,λi l h=> ?_,I.inj,λi l h=> ?_,s.trans I.ext,ha⟩
 .obtain⟨a,vs,h3,h4,h5,h6⟩:=I.ow i l h;exact⟨a,vs,h3,h4,s.free h5,h6⟩
 .obtain⟨a,vs,h3,h4,h5,h6⟩:=I.bo i l h;refine⟨a,vs,h3,h4,?_,h6⟩;cases e:H0 a with
  | none=>exact absurd e (ha a h4)
  | some o=>
   have:=s a o e;have h5':H0' a=some (.lst vs):=h5;have this':H0' a=some o:=this;rw[h5']at this';cases this';exact e
end
def Frz (ρ ρ':Ev):Prop:=ρ'.length=ρ.length/\ ∀i:Nat,ρ'[i]? =ρ[i]? \/ ∃l:List D,ρ[i]? =some (some<|.ow l)/\ρ'[i]? =some (some<|.pu<|.lst l)
theorem Frz.refl (ρ:Ev):Frz ρ ρ:=⟨rfl,λ_=> .inl rfl⟩
theorem Frz.trans {a b c:Ev}(h:Frz a b)(g:Frz b c):Frz a c:=by
 refine⟨g.1.trans h.1,λi=> ?_⟩
 rcases g.2 i with e| ⟨l,e1,e2⟩
 .rcases h.2 i with e'| ⟨l,e1,e2⟩
  .exact .inl (e.trans e')
  .exact .inr ⟨l,e1,e.trans e2⟩
 .rcases h.2 i with e'| ⟨l',e3,e4⟩
  .exact .inr ⟨l,e'▸e1,e2⟩
  .rw[e4]at e1;cases e1
theorem Frz.own {ρ ρ':Ev}{σ:L2.St}(f:Frz ρ ρ')(h:Own ρ' σ a):Own ρ σ a:=by
 obtain⟨i,l,h1,h2⟩:=h;rcases f.2 i with e| ⟨l',_,e2⟩
 .exact⟨i,l,e▸h1,h2⟩
 .rw[e2]at h1;cases h1
theorem Frz.set {ρ:Ev}{l:List D}(h:ρ[i]? =some (some<|.ow l)):Frz ρ (ρ.set i<|some<|.pu<|.lst l):=by
 refine⟨eZ,λj=> ?_⟩
 by_cases e:i=j
 .subst e;exact .inr ⟨l,h,iM (l8.mp h).1⟩
 .exact .inl (get_set_ne e)
section
variable {K:Frag}{C:C0}{ρ ρ':Ev}{σ:L2.St}{H H':Hp}
theorem Frz.av (f:Frz ρ ρ')(h:Av C ρ' σ a):Av C ρ σ a:=h.imp id f.own
theorem EOk.frz (I:EOk K C ρ σ H)(f:Frz ρ ρ'):EOk K C ρ' σ H:=by
 have ow': ∀{j:Nat} {l:List D},ρ'[j]? =some (some<|.ow l)->ρ[j]? =some (some<|.ow l):=λ{j l} h=>by
  rcases f.2 j with e| ⟨l',_,e2⟩
  .exact e▸h
  .rw[e2]at h;cases h
 refine⟨by rw[f.1];exact I.len,λi d h=> ?_,λi l h=> ?_,λi j l l' a h1 h2=>I.inj i j l l' a (ow' h1) (ow' h2),λi l h=> ?_,I.ext,I.a0⟩
 .rcases f.2 i with e| ⟨l,e1,e2⟩
  .obtain⟨v,h1,h2⟩:=I.pu i d (e▸h);exact⟨v,h1,h2.mono<|.sub (.refl _) λa=>f.av⟩
  .rw[e2]at h;cases h;obtain⟨a,vs,h1,h2,h3,h4⟩:=I.ow i l e1;refine⟨.ref a,h1,?_⟩;simp only[Rep];refine⟨a,vs,rfl,?_,h2,h4.mono<|.sub (.refl _) λa=>f.av⟩
   rintro(z| ⟨j,l',g1,g2⟩)
   .exact I.a0 a z h3
   .have:=I.inj i j l l' a e1 (ow' g1) h1 g2;subst this;rw[e2]at g1;cases g1
 .obtain⟨a,vs,h1,h2,h3,h4⟩:=I.ow i l (ow' h);exact⟨a,vs,h1,h2,h3,h4.mono<|.sub (.refl _) λa=>f.av⟩
 .have h':ρ[i]? =some (some<|.bo l):=by
   rcases f.2 i with e| ⟨l',_,e2⟩
   .exact e▸h
   .rw[e2]at h;cases h
  obtain⟨a,vs,h1,h2,h3,h4⟩:=I.bo i l h';exact⟨a,vs,h1,h2,h3,h4.mono<|.sub (.refl _) λa=>f.av⟩
end
abbrev UE:=Ev->(B->Ev->Prop)->Prop
abbrev UV:=Ev->(D->Ev->Prop)->Prop
abbrev UA:=Ev->(List D->Ev->Prop)->Prop
abbrev UT:=Ev->(Bool->Ev->Prop)->Prop
def lE (K:Frag)(t:UE):TE:=λσ H Q=> ∃C ρ Q0,EOk K C ρ σ H/\t ρ Q0/\
 ∀b ρ' v H',Q0 b ρ'->Frz ρ ρ'->iC H H'->vA K (Av C ρ' σ) H H' b v->Q v H'
def lA (K:Frag)(t:UA):TA:=λσ H Q=> ∃C ρ Q0,EOk K C ρ σ H/\t ρ Q0/\
 ∀ds ρ' vs H',Q0 ds ρ'->Frz ρ ρ'->iC H H'->bP K (Av C ρ' σ) H' ds vs->Q vs H'
def lT (K:Frag)(t:UT):TT:=λσ H Q=> ∃C ρ Q0,EOk K C ρ σ H/\t ρ Q0/\
 ∀b ρ' H',Q0 b ρ'->Frz ρ ρ'->iC H H'->Q b H'
def cF0 (K:Frag)(A:AS)(H:Hp):D->V->Prop
 | .tup l,v=> ∃a vs,v= .ref a/\SqT K H a vs/\bP K A H l vs
 | .lst l,v=> ∃a vs,v= .ref a/\H a=some (.lst vs)/\bP K A H l vs
 | .rol l,v=> ∃a vs,v= .ref a/\SqL K H a vs/\bP K A H l vs
 | d,v=>Rep K A H d v
def lV (K:Frag)(t:UV):TE:=λσ H Q=> ∃C ρ Q0,EOk K C ρ σ H/\t ρ Q0/\
 ∀d ρ' v H',Q0 d ρ'->Frz ρ ρ'->iC H H'->cF0 K (Av C ρ' σ) H' d v->Q v H'
def PU (X:Cx)(e:Expr)(t:UE):Prop:=PE X e (lE X.K t)
def PUV (X:Cx)(e:Expr)(t:UV):Prop:=PE X e (lV X.K t)
def PUA (X:Cx)(es:List Expr)(t:UA):Prop:=PA X es (lA X.K t)
def PUT (X:Cx)(e:Expr)(t:UT):Prop:=PT X e (lT X.K t)
def PUW (X:Cx)(e:Expr)(t:UT):Prop:=PW X e (lT X.K t)
section
variable {K:Frag}{A:AS}{H:Hp}
theorem Rep.one: ∀{d:D} {v:V},Rep K A H d v->cF0 K A H d v
 | .non,_,h=>h
 | .bl _,_,h=>h
 | .int _,_,h=>h
 | .str _,_,h=>h
 | .ty _,_,h=>h
 | .tup l,v,h=>by
  simp only[Rep]at h;obtain⟨a,vs,e,c,r⟩:=h;exact⟨a,vs,e,c.imp cS id,r⟩
 | .lst l,v,h=>by
  simp only[Rep]at h;obtain⟨a,vs,e,n,c,r⟩:=h;exact⟨a,vs,e,c,r⟩
 | .rol l,v,h=>by
  simp only[Rep]at h;obtain⟨a,vs,e,c,r⟩:=h;exact⟨a,vs,e,c.imp cS id,r⟩
 | .obj _ _ _,_,h=>h
 | .adr _,_,h=>h
 | .xob _ _ _ _,_,h=>h
end
theorem jP {X:Cx}{t t':TE}(h:PE X e t)(i: ∀σ H Q,t' σ H Q->t σ H Q):PE X e t':=λpins s σ H Q I q=>h pins s σ H Q I (i σ H Q q)
theorem dU1 {X:Cx}{t t':TA}(h:PA X es t)(i: ∀σ H Q,t' σ H Q->t σ H Q):PA X es t':=λpos pins s σ H Q I q=>h pos pins s σ H Q I (i σ H Q q)
theorem c30 {X:Cx}{t t':TT}(h:PT X e t)(i: ∀σ H Q,t' σ H Q->t σ H Q):PT X e t':=λpins s σ H Q I q=>h pins s σ H Q I (i σ H Q q)
theorem dU2 {X:Cx}{t t':TT}(h:PW X e t)(i: ∀σ H Q,t' σ H Q->t σ H Q):PW X e t':=λw pins s σ H Q I q=>h w pins s σ H Q I (i σ H Q q)
section
variable {X:Cx}{a b c e o:Expr}{es iW:List Expr}{pos:Pos}{ta tb tc:UE}
def uC (d:D):UE:=λρ Q=>Q (.pu d) ρ
theorem aK {i j pos}:PU X (.Constant (.int i) j pos) (uC<|.int i):=jP pe_int λσ H Q ⟨C,ρ,Q0,I,h,k⟩=>k _ ρ _ H h (.refl _) (.refl _) (show Rep _ _ _ _ _ by simp only[Rep])
theorem cM8 {b j pos}:PU X (.Constant (.bool b) j pos) (uC<|.bl b):=jP pe_bl λσ H Q ⟨C,ρ,Q0,I,h,k⟩=>k _ ρ _ H h (.refl _) (.refl _) (show Rep _ _ _ _ _ by simp only[Rep])
theorem bA4 {j pos}:PU X (.Constant .none j pos) (uC .non):=jP pe_non λσ H Q ⟨C,ρ,Q0,I,h,k⟩=>k _ ρ _ H h (.refl _) (.refl _) (show Rep _ _ _ _ _ by simp only[Rep])
theorem pu_str {x j pos}:PU X (.Constant (.str x) j pos) (uC<|.str x):=jP pe_str λσ H Q ⟨C,ρ,Q0,I,h,k⟩=>k _ ρ _ H h (.refl _) (.refl _) (show Rep _ _ _ _ _ by simp only[Rep])
def b40 (ρ:Ev)(i:Nat)(Q:B->Ev->Prop):Prop:=match ρ[i]? with
 | some (some<|.pu d)=>Q (.pu d) ρ
 | some (some<|.ow l)=>Q (.pu<|.lst l) (ρ.set i<|some<|.pu<|.lst l)
 | _=>False
def aF (i:Nat):UE:=λρ Q=>b40 ρ i Q
theorem gZ (i:Nat){pos:Pos}(h:PE X (.Name x pos) (aP6 i)):PU X (.Name x pos) (aF i):=jP h λσ H Q ⟨C,ρ,Q0,I,h,k⟩=>by
 unfold aF b40 at h;split at h
 .rename_i d e
  obtain⟨v,h1,h2⟩:=I.pu i d e;exact⟨v,h1,k _ ρ v H h (.refl _) (.refl _) h2⟩
 .rename_i l e
  obtain⟨_,_,v,h1,h2⟩:=I.freeze e;exact⟨v,h1,k _ _ v H h (.set e) (.refl _) h2⟩
 .exact h.elim
def c31 (ρ:Ev)(i:Nat)(Q:D->Ev->Prop):Prop:=match ρ[i]? with
 | some (some<|.pu d)=>Q d ρ
 | some (some<|.ow l)=>Q (.lst l) ρ
 | some (some<|.bo l)=>Q (.lst l) ρ
 | _=>False
def b7 (i:Nat):UV:=λρ Q=>c31 ρ i Q
theorem a25 (i:Nat){pos:Pos}(h:PE X (.Name x pos) (aP6 i)):PUV X (.Name x pos) (b7 i):=jP h λσ H Q ⟨C,ρ,Q0,I,h,k⟩=>by
 unfold b7 c31 at h;split at h
 .rename_i d e
  obtain⟨v,h1,h2⟩:=I.pu i d e;exact⟨v,h1,k _ ρ v H h (.refl _) (.refl _) h2.one⟩
 .rename_i l e
  obtain⟨a,vs,h1,h2,h3,h4⟩:=I.ow i l e;exact⟨_,h1,k _ ρ _ H h (.refl _) (.refl _) ⟨a,vs,rfl,h2,h4⟩⟩
 .rename_i l e
  obtain⟨a,vs,h1,h2,h3,h4⟩:=I.bo i l e;exact⟨_,h1,k _ ρ _ H h (.refl _) (.refl _) ⟨a,vs,rfl,I.ext _ _ h3,h4⟩⟩
 .exact h.elim
def uV (t:UE):UV:=λρ Q=>t ρ λb ρ1=>Q b.d ρ1
theorem EOk.avF {C:C0}{ρ ρ':Ev}{σ:L2.St}{H:Hp}(I:EOk K C ρ σ H)(f:Frz ρ ρ'){a:Addr}(h:Av C ρ' σ a):H a≠none:=I.avSome (f.av h)
theorem a68 (h:PU X e ta):PUV X e (uV ta):=jP h λσ H Q ⟨C,ρ,Q0,I,h,k⟩=>
 ⟨C,ρ,_,I,h,λb ρ' v H' q f s r=>k b.d ρ' v H' q f s (r.rep λa z=>I.avF f z).one⟩
theorem bU7 {v:V}{d:D}{pos:Pos}(h:PE X (.Name x pos) (tC v))(r: ∀A H,Rep X.K A H d v):PU X (.Name x pos) (uC d):=jP h λσ H Q ⟨C,ρ,Q0,I,h,k⟩=>k _ ρ _ H h (.refl _) (.refl _) (r _ _)
def OpU (X:Cx)(f:Value->Value->Sem Value)(g:D->D->(B->Prop)->Prop):Prop:=
 ∀(A:AS) (H:Hp) (d e:D) (v w:V) (Q0:B->Prop) (Q:VK),(∀a,A a->H a≠none)->Rep X.K A H d v->Rep X.K A H e w->g d e Q0->
  (∀b v' H',Q0 b->iC H H'->vA X.K A H H' b v'->Q v' H')-> ∃r,OpR X f r/\r v w H Q
def uOp (g:D->D->(B->Prop)->Prop)(ta tb:UE):UE:=λρ Q=>ta ρ λx ρ1=>tb ρ1 λy ρ2=>g x.d y.d λb=>Q b ρ2
theorem d29 {f:Value->Value->Sem Value}:OpR X f (λx y H Q=> ∃r,OpR X f r/\r x y H Q):=λpins s σ H x y v u Q I rx ry ⟨r,hr,q⟩=>hr pins s σ H x y v u Q I rx ry q
theorem vA.from {K:Frag}{A:AS}{H0 H H':Hp}(s:iC H0 H): ∀{b:B} {v:V},vA K A H H' b v->vA K A H0 H' b v
 | .pu _,_,h=>h
 | .ow _,_,⟨a,vs,e,n,h1,r⟩=>⟨a,vs,e,s.free n,h1,r⟩
 | .bo _,_,h=>h.elim
theorem lOp {f:Value->Value->Sem Value}{g:D->D->(B->Prop)->Prop}(ho:OpU X f g)(σ:L2.St)(H:Hp)(Q:VK)(h:lE X.K (uOp g ta tb) σ H Q) :
  tOp (λx y H Q=> ∃r,OpR X f r/\r x y H Q) (lE X.K ta) (lE X.K tb) σ H Q:=by
 obtain⟨C,ρ,Q0,I,h,k⟩:=h;refine⟨C,ρ,_,I,h,λx ρ1 v H1 q1 f1 s1 r1=> ?_⟩
 have I1:=(I.frz f1).same s1;refine⟨C,ρ1,_,I1,q1,λy ρ2 w H2 q2 f2 s2 r2=> ?_⟩
 have I2:=(I1.frz f2).same s2;have hA: ∀a,Av C ρ2 σ a->H2 a≠none:=λa z=>I2.avSome z
 refine ho (Av C ρ2 σ) H2 x.d y.d v w _ Q hA ((r1.rep λa z=>I.avF f1 z).mono<|.sub s2 λa=>f2.av) (r2.rep λa z=>I1.avF f2 z) q2 λb v' H' q s r=> ?_
 exact k b ρ2 v' H' q (f1.trans f2) (s1.trans<|s2.trans s) (r.from<|s1.trans s2)
theorem aN {op:Operator}{g:D->D->(B->Prop)->Prop}(ho:OpU X (binaryOp op) g)(ha:PU X a ta)(hb:PU X b tb):PU X (.BinOp a op b pos) (uOp g ta tb):=
 jP (pe_op d29 ha hb) (lOp ho)
theorem pu_cmp {g:D->D->(B->Prop)->Prop}(ho:OpU X (compareOp op) g)(ha:PU X a ta)(hb:PU X b tb)(hm:behindInMarks op b=false):PU X (.Compare a [op] [b] pos) (uOp g ta tb):=
 jP (dI9 d29 ha hb hm) (lOp ho)
def isB (Q:Bool->Ev->Prop):B->Ev->Prop:=λb ρ=>match b with
 | .pu (.bl k)=>Q k ρ
 | _=>False
def fO (t:UE):UT:=λρ Q=>t ρ (isB Q)
theorem dK1 {t:UE}(σ:L2.St)(H:Hp)(Q:Bool->Hp->Prop)(h:lT X.K (fO t) σ H Q):lE X.K t σ H λx H'=> ∃k,x= .bl k/\Q k H':=by
 obtain⟨C,ρ,Q0,I,h,k⟩:=h;refine⟨C,ρ,_,I,h,λb ρ' v H' q f s r=> ?_⟩
 unfold isB at q;split at q
 .rename_i k'
  refine⟨k',?_,k k' ρ' H' q f s⟩
  have r':Rep X.K (Av C ρ' σ) H' (.bl k') v:=r
  simpa only[Rep]using r'
 .exact q.elim
theorem c32 (h:PU X e ta)(he: ∀whole,isTrue e X.env whole=(do let v<-whole;standAt e.pos;holding [v] (truthy v)):=by intro _;rfl):PUT X e (fO ta):=
 c30 (pt_val h he) dK1
theorem b84 {g:D->D->(B->Prop)->Prop}(ho:OpU X (compareOp op) g)(ha:PU X a ta)(hb:PU X b tb)(hm:behindInMarks op b=false):PUT X (.Compare a [op] [b] pos) (fO<|uOp g ta tb):=
 c30 (dJ0 d29 ha hb hm) λσ H Q h=>lOp ho σ H _ (dK1 σ H Q h)
def cU4 (t u:UT):UT:=λρ Q=>t ρ λc ρ1=>if c=true then u ρ1 Q else Q false ρ1
def uOr (t u:UT):UT:=λρ Q=>t ρ λc ρ1=>if c=true then Q true ρ1 else u ρ1 Q
def cU5 (t:UT):UT:=λρ Q=>t ρ λc ρ1=>Q (!c) ρ1
variable {tA tB:UT}
theorem aS7 (ha:PUT X a tA):PUW X (.BoolOp .And [a] pos) tA:=dI1 ha
theorem b85 (ha:PUT X a tA):PUW X (.BoolOp .Or [a] pos) tA:=pw_or1 ha
theorem b86 (ha:PUT X a tA)(hb:PUW X (.BoolOp .And (b::iW) pos) tB):PUW X (.BoolOp .And (a::b::iW) pos) (cU4 tA tB):=
 dU2 (pw_and ha hb) λσ H Q ⟨C,ρ,Q0,I,h,k⟩=>⟨C,ρ,_,I,h,λc ρ1 H1 q f s=>by
  cases c with
  | true=>
   rw[aA rfl]at q⊢;exact⟨C,ρ1,Q0,(I.frz f).same s,q,λb ρ2 H2 q2 f2 s2=>k b ρ2 H2 q2 (f.trans f2) (s.trans s2)⟩
  | false=>
   rw[a9 bJ]at q⊢;exact k _ _ _ q f s⟩
theorem aZ4 (ha:PUT X a tA)(hb:PUW X (.BoolOp .Or (b::iW) pos) tB):PUW X (.BoolOp .Or (a::b::iW) pos) (uOr tA tB):=
 dU2 (pw_or ha hb) λσ H Q ⟨C,ρ,Q0,I,h,k⟩=>⟨C,ρ,_,I,h,λc ρ1 H1 q f s=>by
  cases c with
  | true=>
   rw[aA rfl]at q⊢;exact k _ _ _ q f s
  | false=>
   rw[a9 bJ]at q⊢;exact⟨C,ρ1,Q0,(I.frz f).same s,q,λb ρ2 H2 q2 f2 s2=>k b ρ2 H2 q2 (f.trans f2) (s.trans s2)⟩⟩
theorem PUW.pt (h:PUW X e tA):PUT X e tA:=PW.pt h
theorem b87 (ha:PUT X a tA):PUT X (.UnaryOp .Not a pos) (cU5 tA):=
 c30 (pt_not ha) λσ H Q ⟨C,ρ,Q0,I,h,k⟩=>⟨C,ρ,_,I,h,λc ρ1 H1 q f s=>k _ ρ1 H1 q f s⟩
def cM9 (t u:UE):UE:=λρ Q=>t ρ λx ρ1=>isB (λc ρ1=>if c=true then u ρ1 Q else Q (.pu<|.bl false) ρ1) x ρ1
def d30 (t:UE):UE:=λρ Q=>t ρ λx ρ1=>isB (λc ρ1=>Q (.pu<|.bl<|!c) ρ1) x ρ1
theorem cN0 {Q:Bool->Ev->Prop}{b:B}{ρ:Ev}{A:AS}{H H':Hp}{v:V}(h:isB Q b ρ)(r:vA K A H H' b v): ∃k,v= .bl k/\Q k ρ:=by
 unfold isB at h;split at h
 .rename_i k'
  have r':Rep K A H' (.bl k') v:=r;exact⟨k',by simpa only[Rep]using r',h⟩
 .exact h.elim
theorem oK {A:AS}{H H':Hp}{k:Bool}:vA K A H H' (.pu<|.bl k) (.bl k):=by
 show Rep K A H' (.bl k) (.bl k)
 simp only[Rep]
theorem d31 {op}(h:PU X a ta):PU X (.BoolOp op [a] pos) ta:=pe_one h
theorem d32 (ha:PU X a ta)(hb:PU X (.BoolOp .And (b::iW) pos) tb):PU X (.BoolOp .And (a::b::iW) pos) (cM9 ta tb):=
 jP (pe_and ha hb) λσ H Q ⟨C,ρ,Q0,I,h,k⟩=>⟨C,ρ,_,I,h,λx ρ1 v H1 q f s r=>by
  obtain⟨c,rfl,q⟩:=cN0 q r;refine⟨c,rfl,?_⟩;cases c with
  | true=>
   rw[aA rfl]at q⊢;exact⟨C,ρ1,Q0,(I.frz f).same s,q,λb ρ2 v H2 q2 f2 s2 r2=>k b ρ2 v H2 q2 (f.trans f2) (s.trans s2) (r2.from s)⟩
  | false=>
   rw[a9 bJ]at q⊢;exact k _ _ _ _ q f s oK⟩
theorem pu_not (ha:PU X a ta):PU X (.UnaryOp .Not a pos) (d30 ta):=
 jP (pe_not ha) λσ H Q ⟨C,ρ,Q0,I,h,k⟩=>⟨C,ρ,_,I,h,λx ρ1 v H1 q f s r=>by
  obtain⟨c,rfl,q⟩:=cN0 q r;exact⟨c,rfl,k _ _ _ _ q f s oK⟩⟩
def uIf (t:UT)(ta tb:UE):UE:=λρ Q=>t ρ λc ρ1=>if c=true then ta ρ1 Q else tb ρ1 Q
theorem d33 (hc:PUT X c tA)(ha:PU X a ta)(hb:PU X b tb):PU X (.IfExp c a b pos) (uIf tA ta tb):=
 jP (d06 hc ha hb) λσ H Q ⟨C,ρ,Q0,I,h,k⟩=>⟨C,ρ,_,I,h,λc ρ1 H1 q f s=>by
  have I1:=(I.frz f).same s;cases c with
  | true=>
   dsimp only at q⊢;rw[aA rfl]at q⊢;exact⟨C,ρ1,Q0,I1,q,λb ρ2 v H2 q2 f2 s2 r2=>k b ρ2 v H2 q2 (f.trans f2) (s.trans s2) (r2.from s)⟩
  | false=>
   dsimp only at q⊢;rw[a9 bJ]at q⊢;exact⟨C,ρ1,Q0,I1,q,λb ρ2 v H2 q2 f2 s2 r2=>k b ρ2 v H2 q2 (f.trans f2) (s.trans s2) (r2.from s)⟩⟩
def aR:UA:=λρ Q=>Q [] ρ
def aC (t:UE)(u:UA):UA:=λρ Q=>t ρ λx ρ1=>u ρ1 λxs ρ2=>Q (x.d::xs) ρ2
theorem aE:PUA X [] aR:=dU1 cE5 λσ H Q ⟨C,ρ,Q0,I,h,k⟩=>k [] ρ [] H h (.refl _) (.refl _) .nil
theorem aI {t:UA}(ha:PU X e ta)(hr:PUA X es t)(hs:↥(starEach (e::es) X.env=(false,eval e X.env)::starEach es X.env)):PUA X (e::es) (aC ta t):=
 dU1 (bT9 ha hr hs) λσ H Q ⟨C,ρ,Q0,I,h,k⟩=>⟨C,ρ,_,I,h,λx ρ1 v H1 q1 f1 s1 r1=>by
  have I1:=(I.frz f1).same s1;refine⟨C,ρ1,_,I1,q1,λxs ρ2 vs H2 q2 f2 s2 r2=> ?_⟩
  exact k _ ρ2 _ H2 q2 (f1.trans f2) (s1.trans s2) (.cons ((r1.rep λa z=>I.avF f1 z).mono<|.sub s2 λa=>f2.av) r2)⟩
def iT (t:UA):UE:=λρ Q=>t ρ λl ρ1=>l.length<=sizeLine/\Q (.pu<|.tup l) ρ1
def n6 (t:UA):UE:=λρ Q=>t ρ λl ρ1=>l.length<=sizeLine/\Q (.ow l) ρ1
theorem fJ {H:Hp}{p:Addr}(h:H p=none)(o:HO):iC H (upd H p o):=λb u q=>by rw[cE<|dF q h];exact q
theorem j4 {A:AS}{H:Hp}{p:Addr}{l:List D}{vs:List V}(hA: ∀a,A a->H a≠none)(n:H p=none)(r:bP K A H l vs):Rep K A (upd H p<|.tup vs) (.tup l) (.ref p):=by
 simp only[Rep];exact⟨p,vs,rfl,.inl ⟨λz=>hA p z n,.inl j0⟩,r.mono<|.same<|fJ n _⟩
theorem i9 {A:AS}{H H0:Hp}{p:Addr}{l:List D}{vs:List V}(s:iC H0 H)(n:H p=none)(r:bP K A H l vs):vA K A H0 (upd H p<|.lst vs) (.ow l) (.ref p):=
 ⟨p,vs,rfl,s.free n,j0,r.mono<|.fresh (fJ n _) n⟩
theorem eC {t:UA}{x1}(h:PUA X es t):PU X (.Tuple es x1 pos) (iT t):=
 jP (pe_tup h) λσ H Q ⟨C,ρ,Q0,I,h,k⟩=>⟨C,ρ,_,I,h,λl ρ1 vs H1 q f s r=>by
  obtain⟨hz,q⟩:=q;refine⟨by rw[<-r.length];exact hz,λp n=> ?_⟩
  have I1:=(I.frz f).same s;exact k _ ρ1 _ _ q f (s.trans<|fJ n _) (j4 (λa z=>I1.avSome z) n r)⟩
theorem gC {t:UA}(h:PUA X es t):PU X (.List es pos) (n6 t):=
 jP (pe_lst h) λσ H Q ⟨C,ρ,Q0,I,h,k⟩=>⟨C,ρ,_,I,h,λl ρ1 vs H1 q f s r=>by
  obtain⟨hz,q⟩:=q;refine⟨by rw[<-r.length];exact hz,λp n=> ?_⟩
  exact k _ ρ1 _ _ q f (s.trans<|fJ n _) (i9 s n r)⟩
abbrev Φ:=List D->(B->Prop)->Prop
def spP (K:Frag)(φ:Φ):Sp:=λvs H Q _=> ∃A ds Q0,(∀a,A a->H a≠none)/\bP K A H ds vs/\φ ds Q0/\ ∀b v H',Q0 b->iC H H'->vA K A H H' b v->Q v H'
def aU (φ:Φ)(t:UA):UE:=λρ Q=>t ρ λds ρ1=>φ ds λb=>Q b ρ1
theorem lCall {t:UA}{E:XK}(σ:L2.St)(H:Hp)(Q:VK)(h:lE X.K (aU φ t) σ H Q):d18 (spP X.K φ) [] E (lA X.K t) σ H Q:=by
 obtain⟨C,ρ,Q0,I,h,k⟩:=h;refine⟨C,ρ,_,I,h,λds ρ1 vs H1 q f s r=> ?_⟩
 have I1:=(I.frz f).same s;show spP X.K φ (vs++[]) H1 Q E;rw[kG];exact⟨Av C ρ1 σ,ds,_,λa z=>I1.avSome z,r,q,λb v H' q' s' r'=>k b ρ1 v H' q' f (s.trans s') (r'.from s)⟩
theorem dK2 {CX:CXT}{ps:List Str}{E:XK}{t:UA}(F:tX X.prog X.w X.K X.mg X.base CX k f fd ps (spP X.K φ))(hr:i8 k X.A)(hg:Gl X x)(hm:X.mg x=some (.ref f))
  (hk:keepIn X.K (.ref f)=true) (hb:Binds X.K fd ps []) (hx:wZ CX X E) (ha:PUA X (e::es) t) (hdb:⇑((x==("__debug__":Str))=false)) (he:↥(starEach (e::es) X.env=(false,eval e X.env)::starEach es X.env))
  (hpl:↥((backTo pos<|starEach es X.env).any (·.1)=false)):PU X (.Call (.Name x p) (e::es) [] pos) (aU φ t):=
 jP (cM4 F hr hg hm hk hb .nil hx ha hdb he hpl) lCall
theorem d34 {CX:CXT}{ps:List Str}{E:XK}(F:tX X.prog X.w X.K X.mg X.base CX k f fd ps (spP X.K φ))(hr:i8 k X.A)(hg:Gl X x)(hm:X.mg x=some (.ref f))
  (hk:keepIn X.K (.ref f)=true) (hb:Binds X.K fd ps []) (hx:wZ CX X E) (hdb:⇑((x==("__debug__":Str))=false)):PU X (.Call (.Name x p) [] [] pos) (aU φ aR):=
 jP (d20 F hr hg hm hk hb .nil hx hdb) λσ H Q ⟨C,ρ,Q0,I,h,k⟩=>⟨Av C ρ σ,[],_,λa z=>I.avSome z,.nil,h,λb v H' q' s' r'=>k b ρ v H' q' (.refl _) s' r'⟩
def a69 (X:Cx)(f:Value)(g:List D->(B->Prop)->Prop):Prop:=
 ∀(A:AS) (H:Hp) (ds:List D) (vs:List V) (Q0:B->Prop) (Q:VK),(∀a,A a->H a≠none)->bP X.K A H ds vs->g ds Q0->
  (∀b v' H',Q0 b->iC H H'->vA X.K A H H' b v'->Q v' H')-> ∃r,tN X f r/\r vs H Q
theorem callAny {f:Value}:tN X f (λxs H Q=> ∃r,tN X f r/\r xs H Q):=λpins s σ H xs us Q I rx ⟨r,hr,q⟩=>hr pins s σ H xs us Q I rx q
theorem lCB {f:Value}{g:List D->(B->Prop)->Prop}{t:UA}(hc:a69 X f g)(σ:L2.St)(H:Hp)(Q:VK)(h:lE X.K (aU g t) σ H Q):tCB (λxs H Q=> ∃r,tN X f r/\r xs H Q) (lA X.K t) σ H Q:=by
 obtain⟨C,ρ,Q0,I,h,k⟩:=h;refine⟨C,ρ,_,I,h,λds ρ1 vs H1 q f s r=> ?_⟩
 have I1:=(I.frz f).same s;exact hc (Av C ρ1 σ) H1 ds vs _ Q (λa z=>I1.avSome z) r q λb v H' q' s' r'=>k b ρ1 v H' q' f (s.trans s') (r'.from s)
theorem gF {id:String}{g:List D->(B->Prop)->Prop}{t:UA}(hc:a69 X (.builtin id) g)(hg:Gl X x)(hm:X.mg x=none)(hv:bootBuiltins x=some (.builtin id))(ha:PUA X (e::es) t)(hn:⇑(x≠"__name__"))(hdb:⇑((x==("__debug__":Str))=false))
  (he:↥(starEach (e::es) X.env=(false,eval e X.env)::starEach es X.env)) (hpl:↥((backTo pos<|starEach es X.env).any (·.1)=false)):PU X (.Call (.Name x p) (e::es) [] pos) (aU g t):=
 jP (c26 callAny hg hm hv ha hn hdb he hpl) (lCB hc)
theorem cV {T:String}{g:List D->(B->Prop)->Prop}{t:UA}(hc:a69 X (.type T) g)(hg:Gl X x)(hm:X.mg x=none)(hv:bootBuiltins x=some (.type T))(ha:PUA X (e::es) t)(hn:⇑(x≠"__name__"))(hdb:⇑((x==("__debug__":Str))=false))
  (he:↥(starEach (e::es) X.env=(false,eval e X.env)::starEach es X.env)) (hpl:↥((backTo pos<|starEach es X.env).any (·.1)=false)):PU X (.Call (.Name x p) (e::es) [] pos) (aU g t):=
 jP (cU1 callAny hg hm hv ha hn hdb he hpl) (lCB hc)
end
structure UD where
 nx:Ev->Prop
 rt:B->Prop
 bk:Ev->Prop:=λ_=>False
 ct:Ev->Prop:=λ_=>False
abbrev US:=UD->Ev->Prop
structure DOk (K:Frag)(C:C0)(D0:UD)(D:bK4):Prop where
 nx: ∀ρ σ H,D0.nx ρ->EOk K C ρ σ H->D.nx σ H
 rt: ∀b v H,D0.rt b->iC C.H0 H->vA K C.A0 C.H0 H b v->D.rt v H
 bk: ∀ρ σ H,D0.bk ρ->EOk K C ρ σ H->D.bk σ H
 ct: ∀ρ σ H,D0.ct ρ->EOk K C ρ σ H->D.ct σ H
def lS (K:Frag)(t:US):TS:=λD σ H=> ∃C ρ D0,EOk K C ρ σ H/\t D0 ρ/\DOk K C D0 D
def PUS (X:Cx)(st:Stmt)(t:US):Prop:=PS X st (lS X.K t)
def sW (X:Cx)(sts:List Stmt)(t:US):Prop:=PSs X sts (lS X.K t)
theorem tO {X:Cx}{t t':TS}(h:PS X st t)(i: ∀D σ H,t' D σ H->t D σ H):PS X st t':=λpins s σ H D I q=>h pins s σ H D I (i D σ H q)
theorem bA5 {X:Cx}{st:List Stmt}{t t':TS}(h:PSs X st t)(i: ∀D σ H,t' D σ H->t D σ H):PSs X st t':=λpins s σ H D I q=>h pins s σ H D I (i D σ H q)
section
variable {X:Cx}{st:Stmt}{sts:List Stmt}{e:Expr}{pos:Pos}{t u:US}{te:UE}{tc:UT}{K:Frag}
def fT:US:=λD ρ=>D.nx ρ
def aX (t u:US):US:=λD ρ=>t {D with nx:=u D} ρ
theorem cF1:sW X [] fT:=bA5 dI2 λD σ H ⟨C,ρ,D0,I,h,k⟩=>k.nx ρ σ H h I
theorem bO (h1:PUS X st t)(h2:sW X sts u):sW X (st::sts) (aX t u):=
 bA5 (yM h1 h2) λD σ H ⟨C,ρ,D0,I,h,k⟩=>⟨C,ρ,{D0 with nx:=u D0},I,h,⟨λρ' σ' H' q I'=>⟨C,ρ',D0,I',q,k⟩,k.rt,k.bk,k.ct⟩⟩
theorem bN (h1:PUS X st t):sW X [st] t:=bT5 h1
def dQ (t:UE):US:=λD ρ=>t ρ λb _=>D.rt b
theorem vA.back {A A':AS}{H0 H H':Hp}(s:iC H0 H)(h: ∀a,A' a->A a): ∀{b:B} {v:V},vA K A H H' b v->vA K A' H0 H' b v
 | .pu _,_,r=>Rep.mono (.sub (.refl _) h) r
 | .ow _,_,⟨a,vs,e,n,h1,r⟩=>⟨a,vs,e,s.free n,h1,r.mono λb o nb q=>⟨λz=>nb (z.imp (h b) id),q⟩⟩
 | .bo _,_,r=>r.elim
theorem d35 (he:PU X e te):PUS X (.Return (some e) pos) (dQ te):=
 tO (d07 he) λD σ H ⟨C,ρ,D0,I,h,k⟩=>⟨C,ρ,_,I,h,λb ρ' v H' q f s r=>k.rt b v H' q (I.ext.trans s) (r.back I.ext λa z=> .inl z)⟩
def sJ (i:Nat):US:=λD ρ=>match ρ[i]? with
 | some (some<|.pu d)=>D.rt (.pu d)
 | some (some<|.ow l)=>D.rt (.ow l)
 | _=>False
theorem mL (i:Nat)(h:PE X (.Name x p) (aP6 i)):PUS X (.Return (some<|.Name x p) pos) (sJ i):=
 tO (d07 h) λD σ H ⟨C,ρ,D0,I,h,k⟩=>by
  unfold sJ at h;split at h
  .rename_i d e
   obtain⟨v,h1,h2⟩:=I.pu i d e;exact⟨v,h1,k.rt _ v H h I.ext<|Rep.mono (.sub (.refl _) λa z=> .inl z) h2⟩
  .rename_i l e
   obtain⟨a,vs,h1,h2,h3,h4⟩:=I.ow i l e;refine⟨_,h1,k.rt _ _ H h I.ext ⟨a,vs,rfl,h3,h2,h4.mono λb o nb q=>⟨λz=>nb (z.elim .inl λz=> .inr ?_),q⟩⟩⟩
   subst z;exact⟨i,l,e,h1⟩
  .exact h.elim
def iU (c:UT)(t u:US):US:=λD ρ=>c ρ λb ρ1=>if b=true then t D ρ1 else u D ρ1
theorem cN1 {a b:List Stmt}(hc:PUT X c tc)(ha:sW X a t)(hb:sW X b u):PUS X (.If c a b pos) (iU tc t u):=
 tO (dU0 hc ha hb) λD σ H ⟨C,ρ,D0,I,h,k⟩=>⟨C,ρ,_,I,h,λc ρ1 H1 q f s=>by
  have I1:=(I.frz f).same s;cases c with
  | true=>
   dsimp only at q⊢;rw[aA rfl]at q⊢;exact⟨C,ρ1,D0,I1,q,k⟩
  | false=>
   dsimp only at q⊢;rw[a9 bJ]at q⊢;exact⟨C,ρ1,D0,I1,q,k⟩⟩
theorem c33:PUS X st (λ_ _=>False):=tO d08 λD σ H ⟨C,ρ,D0,I,h,k⟩=>h
abbrev UG:=B->Ev->(Ev->Prop)->Prop
def lG (K:Frag)(T:List Nat)(g:UG):TG:=λv σ H Q=> ∃C ρ b H00 Q0,EOk K C ρ σ H00/\iC H00 H/\vA K (Av C ρ σ) H00 H b v/\g b ρ Q0/\ ∀ρ' σ' H',Q0 ρ'->EOk K C ρ' σ' H'->(∀j:Nat,j ∉ T->σ'[j]? =σ[j]?)->Q σ' H'
def PUG (X:Cx)(e:Expr)(T:List Nat)(g:UG):Prop:=PG X e (lG X.K T g)
theorem dU3 {t t':TG}(h:PG X e t)(i: ∀v σ H Q,t' v σ H Q->t v σ H Q):PG X e t':=λpins s σ H v u Q I r q=>h pins s σ H v u Q I r (i v σ H Q q)
def dG (i:Nat):UG:=λb ρ Q=>i<ρ.length/\Q (ρ.set i<|some b)
theorem a26 (i:Nat)(h:PG X e (a67 i)):PUG X e [i] (dG i):=dU3 h λv σ H Q z=>by
 obtain⟨C,ρ,b,H00,Q0,I,s,r,⟨hi,q⟩,k⟩:=z;exact k _ _ _ q (I.store s r (by rw[<-I.len];exact hi)) λj hj=>get_set_ne λz=>hj (by simp[z])
abbrev UGs:=List D->Ev->(Ev->Prop)->Prop
def lGs (K:Frag)(T:List Nat)(g:UGs):TGs:=λvs σ H Q=> ∃C ρ ds Q0,EOk K C ρ σ H/\bP K (Av C ρ σ) H ds vs/\g ds ρ Q0/\ ∀ρ' σ' H',Q0 ρ'->EOk K C ρ' σ' H'->(∀j:Nat,j ∉ T->σ'[j]? =σ[j]?)->Q σ' H'
def dK3 (X:Cx)(es:List Expr)(T:List Nat)(g:UGs):Prop:=PGs X es (lGs X.K T g)
def qB:UGs:=λds ρ Q=>ds=[]/\Q ρ
theorem Av.store_pu {C:C0}{ρ:Ev}{σ:L2.St}{d:D}{v:V}(h:Av C (ρ.set i<|some<|.pu d) (σ.set i<|some v) a):Av C ρ σ a:=by
 rcases h with z| ⟨j,l,h1,h2⟩
 .exact .inl z
 .rcases bH h1 with⟨rfl,h3,_⟩| ⟨ne,h3⟩
  .cases h3
  .rw[get_set_ne ne]at h2;exact .inr ⟨j,l,h3,h2⟩
theorem d36 {t t':TGs}(h:PGs X es t)(i: ∀v σ H Q,t' v σ H Q->t v σ H Q):PGs X es t':=λpins s σ H v u Q I r q=>h pins s σ H v u Q I r (i v σ H Q q)
theorem nS:dK3 X [] [] qB:=d36 dI3 λvs σ H Q z=>by
 obtain⟨C,ρ,ds,Q0,I,r,⟨e,q⟩,k⟩:=z;subst e;exact⟨r.unnil,k ρ σ H q I λ_ _=>rfl⟩
def eK (i:Nat)(u:UGs):UGs:=λds ρ Q=>match ds with
 | d::r=>i<ρ.length/\u r (ρ.set i<|some<|.pu d) Q
 | []=>False
theorem dJ {u:UGs}{T:List Nat}(i:Nat)(h1:PG X e (a67 i))(h2:dK3 X es T u)
  (hs:↥((assignEach (e::es) X.env).map (·.2)=assign e X.env::(assignEach es X.env).map (·.2))):dK3 X (e::es) (i::T) (eK i u):=
 d36 (d10 h1 h2 hs) λvs σ H Q z=>by
  obtain⟨C,ρ,ds,Q0,I,r,g,k⟩:=z;cases ds with
  | nil=>exact(show False from g).elim
  | cons d dr=>
   obtain⟨hi,g⟩:i<ρ.length/\u dr (ρ.set i<|some<|.pu d) Q0:=g;obtain⟨v,vr,rfl,rv,rr⟩:=r.uncons;have I1:EOk X.K C (ρ.set i<|some<|.pu d) (σ.set i<|some v) H:=I.store (b:= .pu d) (.refl _) rv (by rw[<-I.len];exact hi)
   exact⟨v,vr,rfl,C,_,dr,Q0,I1,rr.mono<|.sub (.refl _) λa z=>Av.store_pu z,g,λρ' σ' H' q I' hT=>k ρ' σ' H' q I' λj hj=>(hT j λz=>hj (dS _ z)).trans (get_set_ne λz=>hj (by simp[z]))⟩
def qC (u:UGs):UG:=λb ρ Q=>match b.d with
 | .tup ds=>u ds ρ Q
 | _=>False
theorem sX {u:UGs}{T:List Nat}(hc:X.calm=true)(h:dK3 X es T u)(hu: ∀ds ρ Q,u ds ρ Q->ds.length=n)
  (hn:↥((assignEach es X.env).length=n)) (hst:↥((assignEach es X.env).findIdx? (·.1)=none)):PUG X (.Tuple es k pos) T (qC u):=
 dU3 (pg_tup hc h hn hst) λv σ H Q z=>by
  obtain⟨C,ρ,b,H00,Q0,I,s,r,g,k⟩:=z;have R:=r.rep λa z=>I.avSome z
  unfold qC at g;split at g
  .rename_i ds e
   rw[e]at R;simp only[Rep]at R;obtain⟨a,vs,rfl,c,rs⟩:=R;exact⟨a,vs,rfl,c.imp cS id,by rw[<-rs.length];exact hu _ _ _ g,C,ρ,ds,Q0,I.same s,rs,g,k⟩
  .exact g.elim
def cF2 (t:UE)(g:UG):US:=λD ρ=>t ρ λb ρ1=>g b ρ1 D.nx
theorem bA6 {g:UG}{T:List Nat}(he:PU X e te)(hg:PUG X tg T g)(hs:↥(swapsWithSole [tg] e pos.line X.env=pure false))(hw:↥(swappedStores [tg] e X.env=pure none))
  (h1:↥((assignEach [tg] X.env).map (·.2)=[assign tg X.env])):PUS X (.Assign [tg] e pos) (cF2 te g):=
 tO (d11 he hg hs hw h1) λD σ H ⟨C,ρ,D0,I,h,k⟩=>⟨C,ρ,_,I,h,λb ρ1 v H1 q f s r=>⟨C,ρ1,b,H,D0.nx,I.frz f,s,r,q,λρ' σ' H' q I' _=>k.nx ρ' σ' H' q I'⟩⟩
def bV (i:Nat)(t:UE):US:=λD ρ=>t ρ λb ρ1=>D.nx (ρ1.set i<|some b)
theorem a90 (i:Nat)(hN:X.N.Nodup)(hi:X.N[i]? =some x)(hx:Loc X.env.scope x)(he:PU X e te)(hs:↥(swapsWith e (some<|.Name x pos') pos.line X.env=pure false))(hf:X.fn x=true\/X.env.scope.names.lookup x=some .local:=by walk_at "z")
  (hl: ∀pins σ H s,Inv X pins σ H s->i<σ.length:=by intro pins σ H s I;rw[I.len];decide):PUS X (.Assign [.Name x pos'] e pos) (bV i te):=by
 intro pins s σ H D I q;refine ps_set hN hi hx he hs hf pins s σ H D I ?_;obtain⟨C,ρ,D0,J,h,k⟩:=q;exact⟨C,ρ,_,J,h,λb ρ1 v H1 q f s1 r=>k.nx _ _ _ q ((J.frz f).store s1 r<|hl pins σ H s I)⟩
def cU6 (i j:Nat)(ta:UA):US:=λD ρ=>ta ρ λds ρ1=>match ds with
 | [d,d']=>D.nx ((ρ1.set i<|some<|.pu d).set j<|some<|.pu d')
 | _=>False
theorem bU8 {a b:Expr}{ta:UA}{px pt:Pos}{kt k2 pt2}(i j:Nat)(hc:X.calm=true)(hN:X.N.Nodup)(hi:X.N[i]? =some x)(hj:X.N[j]? =some y)(hij:i≠j)
  (hx:X.env.scope.names.lookup x=some .local) (hy:X.env.scope.names.lookup y=some .local) (ha:PUA X [a,b] ta)
  (hw:swappedStores [.Tuple [.Name x px,.Name y py] kt pt] (.Tuple [a,b] k2 pt2) X.env=pure (some [x,y]))
  (hs:↥(swapsWithSole [.Tuple [.Name x px,.Name y py] kt pt] (.Tuple [a,b] k2 pt2) pos.line X.env=pure false))
  (hl: ∀pins σ H s,Inv X pins σ H s->i<σ.length/\j<σ.length:=by intro pins σ H s I;rw[I.len];decide) :
  PUS X (.Assign [.Tuple [.Name x px,.Name y py] kt pt] (.Tuple [a,b] k2 pt2) pos) (cU6 i j ta):=by
 intro pins s σ H D I q;refine ps_par hc hN hi hj hij hx hy ha hw hs pins s σ H D I ?_;obtain⟨C,ρ,D0,J,h,k⟩:=q;obtain⟨l1,l2⟩:=hl pins σ H s I;refine⟨C,ρ,_,J,h,λds ρ1 vs H1 q f s1 r=> ?_⟩
 split at q
 .rename_i d d'
  obtain⟨v,vr,rfl,rv,rr⟩:=r.uncons;obtain⟨w,wr,rfl,rw',rr'⟩:=rr.uncons;have e:=rr'.unnil;subst e;have J1:EOk X.K C (ρ1.set i<|some<|.pu d) (σ.set i<|some v) H1:=((J.frz f).same s1).store (b:= .pu d) (.refl _) rv l1
  have J2:EOk X.K C ((ρ1.set i<|some<|.pu d).set j<|some<|.pu d') ((σ.set i<|some v).set j<|some w) H1:=J1.store (b:= .pu d') (.refl _) (Rep.mono (.sub (.refl _) λa z=>Av.store_pu z) rw') (by rw[eZ];exact l2)
  exact⟨v,w,rfl,k.nx _ _ _ q J2⟩
 .exact q.elim
def IpU (X:Cx)(op:Operator)(g:D->D->(B->Prop)->Prop):Prop:=
 ∀(A:AS) (H:Hp) (d e:D) (v w:V) (Q0:B->Prop) (Q:VK),(∀a,A a->H a≠none)->Rep X.K A H d v->Rep X.K A H e w->g d e Q0->
  (∀b v' H',Q0 b->iC H H'->vA X.K A H H' b v'->Q v' H')-> ∃r,PIp X op r/\r v w H Q
theorem ipAny {op:Operator}:PIp X op (λx y H Q=> ∃r,PIp X op r/\r x y H Q):=λpins s σ H x y v u Q I rx ry ⟨r,hr,q⟩=>hr pins s σ H x y v u Q I rx ry q
def c34 (i:Nat)(g:D->D->(B->Prop)->Prop)(te:UE):US:=λD ρ=>b40 ρ i λx ρ0=>te ρ0 λy ρ1=>g x.d y.d λb=>D.nx (ρ1.set i<|some b)
theorem d37 {op:Operator}{g:D->D->(B->Prop)->Prop}(i:Nat)(hN:X.N.Nodup)(hi:X.N[i]? =some x)(hx:Loc X.env.scope x)(he:PU X e te)(ho:IpU X op g)(hf:X.fn x=true\/X.env.scope.names.lookup x=some .local:=by walk_at "z")
  (hl: ∀pins σ H s,Inv X pins σ H s->i<σ.length:=by intro pins σ H s I;rw[I.len];decide):PUS X (.AugAssign (.Name x pos') op e pos) (c34 i g te):=by
 intro pins s σ H D I q;refine ps_aug hN hi hx he ipAny hf pins s σ H D I ?_;obtain⟨C,ρ,D0,J,h,k⟩:=q;have go: ∀(d:M.D) (ρ0:Ev) (v:V),Frz ρ ρ0->σ[i]? =some (some v)->Rep X.K (Av C ρ0 σ) H d v->(te ρ0 λy ρ1=>g d y.d λb=>D0.nx (ρ1.set i<|some b))->
   tAug i (lE X.K te) (λx y H Q=> ∃r,PIp X op r/\r x y H Q) D σ H:=λd ρ0 v f0 h1 r0 h=>by
  have J0:=J.frz f0;refine⟨v,h1,C,ρ0,_,J0,h,λy ρ1 w H1 q1 f1 s1 r1=> ?_⟩
  have J1:=(J0.frz f1).same s1;refine ho (Av C ρ1 σ) H1 d y.d v w _ _ (λa z=>J1.avSome z) (r0.mono<|.sub s1 λa=>f1.av) (r1.rep λa z=>J0.avF f1 z) q1 λb v' H' q s r=> ?_
  exact k.nx _ _ _ q (J1.store s r<|hl pins σ _ _ I)
 unfold c34 b40 at h;split at h
 .rename_i d e
  obtain⟨v,h1,h2⟩:=J.pu i d e;exact go d ρ v (.refl _) h1 h2 h
 .rename_i l e
  obtain⟨_,_,v,h1,h2⟩:=J.freeze e;exact go (.lst l) _ v (.set e) h1 h2 h
 .exact h.elim
def aZ5 (c:UT)(tb:US):US:=λD ρ=> ∃W:Nat->Ev->Prop,(∃m,W m ρ)/\ ∀m ρ,W m ρ->
 c ρ λb ρ1=>if b=true then tb {D with nx:=λρ'=> ∃m',m'<m/\W m' ρ',ct:=λρ'=> ∃m',m'<m/\W m' ρ',bk:=D.nx} ρ1 else D.nx ρ1
theorem a91 {tb:US}(hp:PassesOwn (model X.prog X.w) X.A X.env X.xe)(hc:PUT X c tc)(hb:sW X body tb):PUS X (.While c body [] pos) (aZ5 tc tb):=
 tO (d13 hp hc hb) λD σ H ⟨C,ρ,D0,I,⟨W,⟨m0,w0⟩,turn⟩,k⟩=>by
  refine⟨λm σ H=> ∃ρ,EOk X.K C ρ σ H/\W m ρ,⟨m0,ρ,I,w0⟩,?_⟩
  rintro m σ H ⟨ρ,I,w⟩;refine⟨C,ρ,_,I,turn m ρ w,λb ρ1 H1 q f s=> ?_⟩
  have I1:=(I.frz f).same s;cases b with
  | true=>
   dsimp only at q⊢;rw[aA rfl]at q⊢;refine⟨λσ' H'=> ∃m',m'<m/\ ∃ρ',EOk X.K C ρ' σ' H'/\W m' ρ',λσ' H' z=>z,C,ρ1,_,I1,q,⟨?_,k.rt,k.nx,?_⟩⟩
   .rintro ρ' σ' H' ⟨m',hm,w'⟩ I';exact⟨m',hm,ρ',I',w'⟩
   .rintro ρ' σ' H' ⟨m',hm,w'⟩ I';exact⟨m',hm,ρ',I',w'⟩
  | false=>
   dsimp only at q⊢;rw[a9 bJ]at q⊢;exact k.nx _ _ _ q I1
end
abbrev UI:=Ev->(Nat->(Nat->D)->Ev->Prop)->Prop
structure c35 (K:Frag)(A:AS)(H:Hp)(J:It)(n:Nat)(it:Nat->D):Prop where
 go: ∀A' H' i,nJ A H A' H'->i<n->J.go i H'
 yld: ∀A' H' i x H'',nJ A H A' H'->(∀a,A' a->H' a≠none)->i<n->J.yld i H' x H''->iC H' H''/\Rep K A' H'' (it i) x
 stop: ∀A' H',nJ A H A' H'->J.stop n H'
def lI (K:Frag)(t:UI):TI:=λσ H R=> ∃C ρ Q0,EOk K C ρ σ H/\t ρ Q0/\
 ∀n it ρ' J H',Q0 n it ρ'->Frz ρ ρ'->iC H H'->c35 K (Av C ρ' σ) H' J n it->R J H'
def PUI (X:Cx)(tg iter:Expr)(t:UI):Prop:=PI X tg iter (lI X.K t)
def nA (ui:UI)(g:UG)(tb:US):US:=λD ρ=>ui ρ λn it ρ1=> ∃Pv:Nat->Ev->Prop,Pv 0 ρ1/\
 (∀i ρ,i<n->Pv i ρ->g (.pu<|it i) ρ λρ2=>tb {D with nx:=Pv (i+1),ct:=Pv (i+1),bk:=D.nx} ρ2)/\ ∀ρ,Pv n ρ->D.nx ρ
noncomputable def C0.rz (C:C0) (ρ:Ev) (σ:L2.St) (H:Hp):C0:=C.raise ρ σ H λ_=>Classical.propDecidable _
section
variable {X:Cx}{e:Expr}{pos:Pos}{te:UE}{K:Frag}{C:C0}{ρ ρ':Ev}{σ σ':L2.St}{H H':Hp}
theorem EOk.rz (I:EOk K C ρ σ H):EOk K (C.rz ρ σ H) ρ σ H/\iC C.H0 (C.rz ρ σ H).H0:=I.raise
theorem cN2 (I':EOk K (C.rz ρ σ H) ρ' σ' H'):nJ (Av C ρ σ) H (Av (C.rz ρ σ H) ρ' σ') H':=λb o nb e=>by
 have e0:(C.rz ρ σ H).H0 b=some o:=by
  show @ite _ (Own ρ σ b) (Classical.propDecidable _) none (H b)=some o
  rw[a9 λz=>nb (.inr z)]
  exact e
 refine⟨?_,I'.ext b o e0⟩
 rintro(z| ⟨i,l,h1,h2⟩)
 .exact nb (.inl z)
 .obtain⟨a,vs,h3,h4,h5,_⟩:=I'.ow i l h1;rw[h2]at h3;cases h3;rw[e0]at h5;cases h5
theorem aZ6 {ui:UI}{g:UG}{T:List Nat}{tb:US}(hp:PassesOwn (model X.prog X.w) X.A X.env X.xe)(hc:X.calm=true)(hi:PUI X tg iter ui)(hg:PUG X tg T g)(hb:sW X body tb)
  (hs: ∀x,foldedSetIterable iter X.env x=pure x:=by intro _;rfl):PUS X (.For tg iter body [] pos) (nA ui g tb):=
 tO (ps_for hp hc hi hg hb hs) λD σ H ⟨C,ρ,D0,I,h,k⟩=>⟨C,ρ,_,I,h,λn it ρ1 J H1 q f s ok=>by
  obtain⟨Pv,p0,turn,fin⟩:=q;have I1:=(I.frz f).same s;obtain⟨Ir,sub⟩:=I1.rz;refine⟨λi m σ' H'=>m=n-i/\i<=n/\ ∃ρ',EOk X.K (C.rz ρ1 σ H1) ρ' σ' H'/\Pv i ρ',⟨n,rfl,cK _,ρ1,Ir,p0⟩,?_⟩
  rintro i m σ' H' ⟨rfl,hi,ρ',I',p'⟩;have P:=cN2 I';have lo: ∀ρ2 σ2 H2,EOk X.K (C.rz ρ1 σ H1) ρ2 σ2 H2->EOk X.K C ρ2 σ2 H2:=λρ2 σ2 H2 J2=>J2.lower sub rfl I.a0
  by_cases hlt:i<n
  .refine .inr ⟨ok.go _ _ i P hlt,λσ2 H2=> ∃ρ2,EOk X.K (C.rz ρ1 σ H1) ρ2 σ2 H2/\Pv (i+1) ρ2,λσ2 H2 z=>⟨n-(i+1),aa,rfl,hlt,z⟩,λx H2 y=> ?_⟩
   obtain⟨s2,r2⟩:=ok.yld _ _ i x H2 P (λa z=>I'.avSome z) hlt y
   refine⟨C.rz ρ1 σ H1,ρ',.pu<|it i,H',_,I',s2,r2,turn i ρ' hlt p',λρ2 σ2 H3 q I3 _=>⟨C.rz ρ1 σ H1,ρ2,_,I3,q,⟨?_,?_,?_,?_⟩⟩⟩
   .exact λρ3 σ3 H4 q I4=>⟨ρ3,I4,q⟩
   .exact λb v H4 q s4 r4=>k.rt b v H4 q (sub.trans s4) (r4.from sub)
   .exact λρ3 σ3 H4 q I4=>k.nx ρ3 σ3 H4 q (lo _ _ _ I4)
   .exact λρ3 σ3 H4 q I4=>⟨ρ3,I4,q⟩
  .have e:i=n:=aa
   subst e;exact .inl ⟨ok.stop _ _ P,k.nx _ _ _ (fin ρ' p')<|lo _ _ _ I'⟩⟩
noncomputable def qD:D->Option (List D)
 | .tup l=>some l
 | .lst l=>some l
 | .rol l=>some l
 | _=>none
def iN (t:UE):UI:=λρ Q=>t ρ λb ρ1=>match qD b.d with
 | some l=>Q l.length (λi=>l.getD i .non) ρ1
 | none=>False
theorem pi_any {l:Expr}{tl:TE}(hl:PE X l tl):PI X tg l (λσ H R=>tl σ H λx H1=> ∃a,x= .ref a/\((∃xs,SqL X.K H1 a xs/\R (Itl X.K a) H1)\/ ∃xs,SqT X.K H1 a xs/\R (Itt X.K a) H1)):=by
 intro pins s σ H R I h;refine thn (hl pins s σ H _ I h) λv s1 ⟨x,H1,I1,r1,q1⟩=> ?_
 obtain⟨a,e,q⟩:=q1;subst e;cases r1;rcases q with⟨xs,hq,q⟩| ⟨xs,hq,q⟩
 .obtain⟨its,rv,p,hz⟩:=I1.list hq;refine aO4 p.isList ?_;refine⟨s1.heap.objs.size,[s1.heap.objs.size],_,_,H1,rfl,I1.kept (t':=s1.toks) λb o e=>aW _ e,cT2 a _,⟨_,bX _ rfl,rfl,rfl⟩,λb hb=> ?_,q⟩
  have e:b=s1.heap.objs.size:=by simpa using hb
  subst e;exact I1.fpOk (aG _) (I1.hok.fresh<|aG _)
 .obtain⟨its,rv,p,hz⟩:=I1.tuple hq;refine wpAny_pyIter_tuple (show s1.heap.IsTuple a its.toArray from p) ?_
  refine⟨s1.heap.objs.size,[s1.heap.objs.size],_,_,H1,rfl,I1.kept (t':=s1.toks) λb o e=>aW _ e,cD7 a _,⟨_,bX _ rfl,rfl,rfl⟩,λb hb=> ?_,q⟩
  have e:b=s1.heap.objs.size:=by simpa using hb
  subst e;exact I1.fpOk (aG _) (I1.hok.fresh<|aG _)
theorem b41 {t t':TI}(h:PI X tg iter t)(i: ∀σ H R,t' σ H R->t σ H R):PI X tg iter t':=λpins s σ H R I q=>h pins s σ H R I (i σ H R q)
theorem bP0 {A:AS}{vs:List V}{l:List D}(c:(¬A a/\Rd H a (.lst vs))\/KL K a vs)(r:bP K A H l vs):c35 K A H (Itl K a) l.length (λi=>l.getD i .non):=by
 have sq: ∀A' H',nJ A H A' H'->SqL K H' a vs:=λA' H' P=>by
  rcases c with⟨n,c⟩|c
  .exact .inl (Rd.pres P n c).2
  .exact .inr c
 have get: ∀i,i<l.length-> ∃x,vs[i]? =some x/\Rep K A H (l.getD i .non) x:=λi hi=>r.get (by rw[aQ,aV hi];rfl)
 refine⟨λA' H' i P hi=> ?_,λA' H' i x H'' P hA hi y=> ?_,λA' H' P=>⟨vs,sq _ _ P,by rw[r.length];exact aG _⟩⟩
 .obtain⟨x,e,_⟩:=get i hi;exact⟨vs,x,sq _ _ P,e⟩
 .obtain⟨x',e,r'⟩:=get i hi;obtain⟨rfl,y⟩:=y;have:=y vs (sq _ _ P);rw[e]at this;cases this;exact⟨.refl _,r'.mono P⟩
theorem d38 {A:AS}{vs:List V}{l:List D}(c:(¬A a/\Rd H a (.tup vs))\/KT K a vs)(r:bP K A H l vs):c35 K A H (Itt K a) l.length (λi=>l.getD i .non):=by
 have sq: ∀A' H',nJ A H A' H'->SqT K H' a vs:=λA' H' P=>by
  rcases c with⟨n,c⟩|c
  .exact .inl (Rd.pres P n c).2
  .exact .inr c
 have get: ∀i,i<l.length-> ∃x,vs[i]? =some x/\Rep K A H (l.getD i .non) x:=λi hi=>r.get (by rw[aQ,aV hi];rfl)
 refine⟨λA' H' i P hi=> ?_,λA' H' i x H'' P hA hi y=> ?_,λA' H' P=>⟨vs,sq _ _ P,by rw[r.length];exact aG _⟩⟩
 .obtain⟨x,e,_⟩:=get i hi;exact⟨vs,x,sq _ _ P,e⟩
 .obtain⟨x',e,r'⟩:=get i hi;obtain⟨rfl,y⟩:=y;have:=y vs (sq _ _ P);rw[e]at this;cases this;exact⟨.refl _,r'.mono P⟩
theorem iX (h:PU X e te):PUI X tg e (iN te):=b41 (pi_any h) λσ H R ⟨C,ρ,Q0,I,h,k⟩=>⟨C,ρ,_,I,h,λb ρ1 v H1 q f s r=>by
 have rr:=r.rep λa z=>I.avF f z
 generalize b.d=d at q rr;cases d with
 | tup l=>
  simp only[Rep]at rr;obtain⟨a,vs,rfl,c,rs⟩:=rr;exact⟨a,rfl,.inr ⟨vs,c.imp cS id,k _ _ ρ1 _ H1 q f s<|d38 c rs⟩⟩
 | lst l=>
  simp only[Rep]at rr;obtain⟨a,vs,rfl,n,c,rs⟩:=rr;exact⟨a,rfl,.inl ⟨vs,.inl<|.inl c,k _ _ ρ1 _ H1 q f s<|bP0 (.inl ⟨n,.inl c⟩) rs⟩⟩
 | rol l=>
  simp only[Rep]at rr;obtain⟨a,vs,rfl,c,rs⟩:=rr;exact⟨a,rfl,.inl ⟨vs,c.imp cS id,k _ _ ρ1 _ H1 q f s<|bP0 c rs⟩⟩
 | _=>exact(show False from q).elim⟩
theorem bA7 {A:AS}:c35 K A H (Itr lo n) n (λi=> .int (lo+i)):=
 ⟨λ_ _ _ _ h=>h,λ_ _ i x H'' _ _ _ ⟨e,y⟩=>by subst e;subst y;exact⟨.refl _,by simp only[Rep]⟩,λ_ _ _=>aG n⟩
def kM (ta:UA):UI:=λρ Q=>ta ρ λds ρ1=>match ds with
 | [.int j]=>(-(2^62)<=j/\j<2^62)/\Q j.toNat (λi=> .int (0+i)) ρ1
 | _=>False
def bA8 (ta:UA):UI:=λρ Q=>ta ρ λds ρ1=>match ds with
 | [.int i,.int j]=>(-(2^62)<=i/\i<2^62/\ -(2^62)<=j/\j<2^62)/\Q (j-i).toNat (λk=> .int (i+k)) ρ1
 | _=>False
theorem bQ {A:AS}{i:Int}{v:V}(h:Rep K A H (.int i) v):v= .int i:=by simpa only[Rep]using h
theorem gQ {a:Expr}{ta:UA}(hg:Gl X "range")(hm:X.mg "range"=none)(ha:PUA X [a] ta)(hs:↥(starEach [a] X.env=[(false,eval a X.env)])):PUI X tg (.Call (.Name "range" p) [a] [] pos) (kM ta):=
 b41 (cT3 hg hm ha hs) λσ H R ⟨C,ρ,Q0,I,h,k⟩=>⟨C,ρ,_,I,h,λds ρ1 vs H1 q f s r=>by
  split at q
  .rename_i j
   obtain⟨v,vr,rfl,rv,rr⟩:=r.uncons;have:=rr.unnil;subst this;have:=bQ rv;subst this;obtain⟨⟨h1,h2⟩,q⟩:=q;exact⟨j,rfl,h1,h2,k _ _ ρ1 _ H1 q f s bA7⟩
  .exact q.elim⟩
theorem aZ7 {a b:Expr}{ta:UA}(hg:Gl X "range")(hm:X.mg "range"=none)(ha:PUA X [a,b] ta)(hs:↥(starEach [a,b] X.env=[(false,eval a X.env),(false,eval b X.env)]))(hs2:↥(starEach [b] X.env=[(false,eval b X.env)])) :
  PUI X tg (.Call (.Name "range" p) [a,b] [] pos) (bA8 ta):=
 b41 (cT4 hg hm ha hs hs2) λσ H R ⟨C,ρ,Q0,I,h,k⟩=>⟨C,ρ,_,I,h,λds ρ1 vs H1 q f s r=>by
  split at q
  .rename_i i j
   obtain⟨v,vr,rfl,rv,rr⟩:=r.uncons;obtain⟨w,wr,rfl,rw',rr'⟩:=rr.uncons;have:=rr'.unnil;subst this;have:=bQ rv;subst this;have:=bQ rw';subst this;obtain⟨hb,q⟩:=q;exact⟨i,j,rfl,hb,k _ _ ρ1 _ H1 q f s bA7⟩
  .exact q.elim⟩
end
section
variable {X:Cx}{a b e o:Expr}{es:List Expr}{pos:Pos}{ta tb te ti:UE}{K:Frag}{C:C0}{ρ ρ':Ev}{σ σ':L2.St}{H H':Hp}{A:AS}
theorem Frz.ow {l:List D}(f:Frz ρ ρ')(h:ρ'[i]? =some (some<|.ow l)):ρ[i]? =some (some<|.ow l):=by
 rcases f.2 i with q| ⟨l',_,q⟩
 .exact q▸h
 .rw[q]at h;cases h
def qE (ρ:Ev)(i:Nat)(Q:List D->Prop):Prop:=match ρ[i]? with
 | some (some<|.ow l)=>Q l
 | _=>False
theorem mM {Q:List D->Prop}(h:qE ρ i Q): ∃l,ρ[i]? =some (some<|.ow l)/\Q l:=by
 unfold qE at h;split at h
 .rename_i l e
  exact⟨l,e,h⟩
 .exact h.elim
def aS8 (i:Nat)(t:UE):US:=λD ρ=>qE ρ i λ_=>t ρ λb ρ1=>qE ρ1 i λl=>l.length<sizeLine/\D.nx (ρ1.set i<|some<|.ow<|l++[b.d])
theorem mO {apos:Pos}(i:Nat)(hx:PE X (.Name x p) (aP6 i))(he:PU X e te)
  (hbase:↥(attributeBase (.Name x p) "append" X.env (eval (.Name x p) X.env)=eval (.Name x p) X.env))
  (hfew:↥(((backTo cpos<|starEach [e] X.env).all (λx=> !x.1)&&(backToKw cpos<|keywordEach [] X.env).all (λx=>x.1.isSome)
   &&decide ([e].length+([]:List Keyword).length+(if([]:List Keyword).isEmpty then 0 else 1)<30))=true))
  (hline:↥((apos.endLine==cpos.line)=true)) (hs:↥(starEach [e] X.env=(false,eval e X.env)::starEach [] X.env)) (hplain:↥((backTo cpos<|starEach [] X.env).any (·.1)=false))
  (hw:↥(swapsWith (.Call (.Attribute (.Name x p) "append" apos) [e] [] cpos) none pos.line X.env=pure false)) :
  PUS X (.Expr (.Call (.Attribute (.Name x p) "append" apos) [e] [] cpos) pos) (aS8 i te):=
 tO (bT6 (pe_bm PySem.F.plainAttrs_list PySem.F.slot_list_append PySem.F.type_list_append bO8 hx (bT9 he cE5 hs) hbase hfew hline hs hplain) hw) λD σ H ⟨C,ρ,D0,I,h,k⟩=>by
  obtain⟨l,hl,h⟩:=mM h;obtain⟨a,vs,h1,h2,h3,h4⟩:=I.ow i l hl;refine⟨.ref a,h1,.inl ⟨rfl,vs,SqL.of h2⟩,C,ρ,_,I,h,λb ρ1 v H1 q f s r=> ?_⟩
  obtain⟨l',hl',hz,q⟩:=mM q;have e:=f.ow hl';rw[hl]at e;cases e;have I1:=(I.frz f).same s;obtain⟨a',vs',g1,g2,g3,g4⟩:=I1.ow i l hl';rw[h1]at g1;cases g1;refine⟨a,vs',v,rfl,rfl,g2,by rw[<-g4.length];exact hz,k.nx _ _ _ q ?_⟩
  exact I1.write hl' h1 (g4.append<|.cons (r.rep λa z=>I.avF f z) .nil)
def b42 (i:Nat)(t ti:UE):US:=λD ρ=>t ρ λb ρ1=>qE ρ1 i λ_=>ti ρ1 λj ρ2=>qE ρ2 i λl=>match j.d with
 | .int k=>(match ixN l.length k with
  | some n=>D.nx (ρ2.set i<|some<|.ow<|l.set n b.d)
  | none=>False)
 | _=>False
theorem rJ {ix:Expr}(i:Nat)(hx:PE X (.Name x p) (aP6 i))(he:PU X e te)(hi:PU X ix ti)
  (ha: ∀v,assign (.Subscript (.Name x p) ix tpos) X.env v=(do
   let ov<-holding [v] (eval (.Name x p) X.env)
   let iv<-holding [v,ov] (eval ix X.env)
   standAt tpos
   holding [v,ov,iv] (setItem ov iv v)
   release [v,ov,iv] []):=by intro _;rfl)
  (hs:↥(swapsWithSole [.Subscript (.Name x p) ix tpos] e pos.line X.env=pure false)) (hw:↥(swappedStores [.Subscript (.Name x p) ix tpos] e X.env=pure none))
  (h1:↥((assignEach [.Subscript (.Name x p) ix tpos] X.env).map (·.2)=[assign (.Subscript (.Name x p) ix tpos) X.env])):PUS X (.Assign [.Subscript (.Name x p) ix tpos] e pos) (b42 i te ti):=
 tO (d11 he (pg_sub hx hi c29 ha) hs hw h1) λD σ H ⟨C,ρ,D0,I,h,k⟩=>⟨C,ρ,_,I,h,λb ρ1 v H1 q f s r=>by
  obtain⟨l,hl,q⟩:=mM q;have I1:=(I.frz f).same s;obtain⟨a,vs,h1,h2,h3,h4⟩:=I1.ow i l hl;refine⟨.ref a,h1,C,ρ1,_,I1,q,λj ρ2 w H2 q2 f2 s2 r2=> ?_⟩
  obtain⟨l',hl',q2⟩:=mM q2;have e:=f2.ow hl';rw[hl]at e;cases e;have I2:=(I1.frz f2).same s2;obtain⟨a',vs',g1,g2,g3,g4⟩:=I2.ow i l hl';rw[h1]at g1;cases g1;have rj:=r2.rep λa z=>I1.avF f2 z
  generalize j.d=dj at q2 rj;split at q2
  .rename_i kk
   have:=bQ rj;subst this;split at q2
   .rename_i n hn
    refine⟨a,vs',kk,n,rfl,rfl,g2,by rw[<-g4.length];exact hn,k.nx _ _ _ q2 ?_⟩
    exact I2.write hl' h1 (g4.set n<|(r.rep λa z=>I.avF f z).mono<|.sub s2 λa=>f2.av)
   .exact q2.elim
  .exact q2.elim⟩
def gIx (d i:D)(Q:D->Prop):Prop:=match qD d,i with
 | some l,.int k=>(match atI l k with
  | some x=>Q x
  | none=>False)
 | _,_=>False
def uIx (t:UV)(ti:UE):UE:=λρ Q=>t ρ λd ρ1=>ti ρ1 λi ρ2=>gIx d i.d λx=>Q (.pu x) ρ2
theorem bP.atI {l:List D}{vs:List V}{k:Int}{x:D}(r:bP K A H l vs)(h:atI l k=some x): ∃v,L2.atI vs k=some v/\Rep K A H x v:=by
 unfold L2.atI at h⊢;cases e:ixN l.length k with
 | none=>rw[e]at h;cases h
 | some j=>
  rw[e]at h;rw[<-r.length,e];exact r.get h
theorem cF0.mono {A':AS}(s:iC H H')(h: ∀a,A' a->A a): ∀{d:D} {v:V},cF0 K A H d v->cF0 K A' H' d v
 | .non,_,r=>Rep.mono (.sub s h) r
 | .bl _,_,r=>Rep.mono (.sub s h) r
 | .int _,_,r=>Rep.mono (.sub s h) r
 | .str _,_,r=>Rep.mono (.sub s h) r
 | .ty _,_,r=>Rep.mono (.sub s h) r
 | .tup _,_,⟨a,vs,e,c,r⟩=>⟨a,vs,e,c.imp (λc=>c.imp (s _ _) λ⟨o,z⟩=>⟨o,s _ _ z⟩) id,r.mono<|.sub s h⟩
 | .lst _,_,⟨a,vs,e,c,r⟩=>⟨a,vs,e,s _ _ c,r.mono<|.sub s h⟩
 | .rol _,_,⟨a,vs,e,c,r⟩=>⟨a,vs,e,s.seq c,r.mono<|.sub s h⟩
 | .obj _ _ _,_,r=>Rep.mono (.sub s h) r
 | .adr _,_,r=>Rep.mono (.sub s h) r
 | .xob _ _ _ _,_,r=>Rep.mono (.sub s h) r
theorem cF0.seq {d:D}{v:V}{l:List D}(r:cF0 K A H d v)(h:qD d=some l): ∃a vs,v= .ref a/\(SqL K H a vs\/SqT K H a vs)/\bP K A H l vs:=by
 cases d with
 | tup l'=>cases h;obtain⟨a,vs,e,c,r⟩:=r;exact⟨a,vs,e,.inr c,r⟩
 | lst l'=>cases h;obtain⟨a,vs,e,c,r⟩:=r;exact⟨a,vs,e,.inl<|SqL.of c,r⟩
 | rol l'=>cases h;obtain⟨a,vs,e,c,r⟩:=r;exact⟨a,vs,e,.inl c,r⟩
 | _=>cases h
theorem dK4 {d i:D}{Q:D->Prop}(h:gIx d i Q): ∃l k x,qD d=some l/\i= .int k/\atI l k=some x/\Q x:=by
 unfold gIx at h;split at h
 .rename_i l k e
  split at h
  .rename_i x ex
   exact⟨l,k,x,e,rfl,ex,h⟩
  .exact h.elim
 .exact h.elim
theorem bA9 {t:UV}(ha:PUV X a t)(hb:PU X b ti)(hs:bU0 b):PU X (.Subscript a b pos) (uIx t ti):=
 jP (pe_ix ix_seq ha hb hs) λσ H Q ⟨C,ρ,Q0,I,h,k⟩=>⟨C,ρ,_,I,h,λd ρ1 v H1 q f s r=>by
  have I1:=(I.frz f).same s;refine⟨C,ρ1,_,I1,q,λi ρ2 w H2 q2 f2 s2 r2=> ?_⟩
  obtain⟨l,kk,x,e1,e2,e3,q2⟩:=dK4 q2;have ri:=r2.rep λa z=>I1.avF f2 z
  rw[e2]at ri;have:=bQ ri;subst this;obtain⟨a,vs,rfl,c,rs⟩:=(r.mono (A':=Av C ρ2 σ) s2 λa=>f2.av).seq e1
  obtain⟨u,e4,r4⟩:=rs.atI e3;have fin:=k (.pu x) ρ2 u H2 q2 (f.trans f2) (s.trans s2) r4;rcases c with c|c
  .exact .inl ⟨a,vs,kk,u,rfl,rfl,c,e4,fin⟩
  .exact .inr (.inl ⟨a,vs,kk,u,rfl,rfl,c,e4,fin⟩)⟩
abbrev UO:=Ev->(Option Int->Ev->Prop)->Prop
def lO (K:Frag)(t:UO):TO:=λσ H Q=> ∃C ρ Q0,EOk K C ρ σ H/\t ρ Q0/\ ∀i ρ' H',Q0 i ρ'->Frz ρ ρ'->iC H H'->Q i H'
def PUO (X:Cx)(e:Option Expr)(t:UO):Prop:=PO X e (lO X.K t)
theorem dU4 {e:Option Expr}{t t':TO}(h:PO X e t)(i: ∀σ H Q,t' σ H Q->t σ H Q):PO X e t':=λpins s σ H Q I q=>h pins s σ H Q I (i σ H Q q)
def mQ:UO:=λρ Q=>Q none ρ
def pH (t:UE):UO:=λρ Q=>t ρ λb ρ1=>match b.d with
 | .int i=>Q (some i) ρ1
 | _=>False
theorem nK:PUO X none mQ:=dU4 dJ6 λσ H Q ⟨C,ρ,Q0,I,h,k⟩=>k _ _ _ h (.refl _) (.refl _)
theorem j5 (h:PU X e te):PUO X (some e) (pH te):=dU4 (dJ7 h) λσ H Q ⟨C,ρ,Q0,I,h,k⟩=>⟨C,ρ,_,I,h,λb ρ1 v H1 q f s r=>by
 have r':=r.rep λa z=>I.avF f z
 generalize b.d=d at q r';split at q
 .exact⟨_,bQ r',k _ _ _ q f s⟩
 .exact q.elim⟩
noncomputable def cutD (l:List D)(lo hi:Option Int):List D:=(l.drop<|HT.sIx l.length 0 lo).take (HT.sIx l.length l.length hi-HT.sIx l.length 0 lo)
theorem bP.cut {l:List D}{vs:List V}(r:bP K A H l vs)(lo hi:Option Int):bP K A H (cutD l lo hi) (c28 vs lo hi):=by
 unfold cutD c28;rw[r.length];exact(r.drop _).take _
def gSl (d:D)(lo hi:Option Int)(Q:B->Prop):Prop:=match d with
 | .tup l=> ¬(HT.sIx l.length 0 lo=0/\HT.sIx l.length l.length hi=l.length)/\Q (.pu<|.tup<|cutD l lo hi)
 | .lst l=>Q (.ow<|cutD l lo hi)
 | .rol l=>Q (.ow<|cutD l lo hi)
 | _=>False
def uSl (t:UV)(tl th:UO):UE:=λρ Q=>t ρ λd ρ1=>tl ρ1 λlo ρ2=>th ρ2 λhi ρ3=>gSl d lo hi λb=>Q b ρ3
theorem yO {t:UV}{tl th:UO}{lo hi:Option Expr}(he:PUV X e t)(hl:PUO X lo tl)(hu:PUO X hi th):PU X (.Subscript e (.Slice lo hi none p2) pos) (uSl t tl th):=
 jP (c27 (cM7.or d24) he hl hu) λσ H Q ⟨C,ρ,Q0,I,h,k⟩=>⟨C,ρ,_,I,h,λd ρ1 v H1 q f s r=>by
  have I1:=(I.frz f).same s;refine⟨C,ρ1,_,I1,q,λl2 ρ2 H2 q2 f2 s2=> ?_⟩
  have I2:=(I1.frz f2).same s2;refine⟨C,ρ2,_,I2,q2,λh3 ρ3 H3 q3 f3 s3=> ?_⟩
  have I3:=(I2.frz f3).same s3;have s13:=s2.trans s3;have sAll:=s.trans s13;have fAll:=f.trans (f2.trans f3);have r':=r.mono (A':=Av C ρ3 σ) s13 λa z=>f2.av (f3.av z)
  cases d with
  | tup l=>
   obtain⟨hw,q3⟩:=q3;obtain⟨a,vs,rfl,c,rs⟩:=r';exact .inr ⟨a,vs,rfl,c,by rw[<-rs.length];exact hw,λp n=>k _ ρ3 _ _ q3 fAll (sAll.trans<|fJ n _) (j4 (λa z=>I3.avSome z) n<|rs.cut l2 h3)⟩
  | lst l=>
   obtain⟨a,vs,rfl,c,rs⟩:=r';exact .inl ⟨a,vs,rfl,SqL.of c,λp n=>k _ ρ3 _ _ q3 fAll (sAll.trans<|fJ n _) (i9 sAll n<|rs.cut l2 h3)⟩
  | rol l=>
   obtain⟨a,vs,rfl,c,rs⟩:=r';exact .inl ⟨a,vs,rfl,c,λp n=>k _ ρ3 _ _ q3 fAll (sAll.trans<|fJ n _) (i9 sAll n<|rs.cut l2 h3)⟩
  | _=>exact(show False from q3).elim⟩
def Sm (i:Int):Prop:=i.natAbs<2^9000
theorem Sm.log {i:Int}(h:Sm i):i.natAbs.log2<9000:=by
 by_cases z:i.natAbs=0
 .rw[z];decide
 .exact(Nat.log2_lt z).mpr h
def iV (d e:D)(Q:B->Prop):Prop:=match d,e with
 | .int i,.int j=>Q (.pu<|.int<|i+j)
 | .lst l,.lst m=>l.length+m.length<=sizeLine/\Q (.ow<|l++m)
 | .tup l,.tup m=>l.length+m.length<=sizeLine/\Q (.pu<|.tup<|l++m)
 | _,_=>False
theorem d39:OpR X (binaryOp .Add) (λx y H Q=> ∃a b ys,x= .ref a/\y= .ref b/\SqT X.K H a []/\SqT X.K H b ys/\Q (.ref b) H):=by
 intro pins s σ H x y v u Q I rx ry h;obtain⟨a,b,ys,rfl,rfl,ha,hb,q⟩:=h;cases rx;cases ry;obtain⟨its,r1,p1,_⟩:=I.tuple ha;obtain⟨its2,r2,p2,_⟩:=I.tuple hb;have e:its=[]:=by
  have:=r1.length;exact uI.mp this.symm
 subst e;obtain⟨⟨cls,dd,data,sl⟩,ho,hc,n,hd⟩:=id p1;obtain⟨⟨cls2,dd2,data2,sl2⟩,ho2,hc2,n2,hd2⟩:=id p2;simp only at hc hd hc2 hd2;subst hc hd hc2 hd2;exact concat_meets ⟨_,ho,rfl⟩ ⟨_,ho2,rfl⟩ aO7 seq_tuple_add aM4 aL9 (aL5 _ _) (tuple_addW0 a b _ its2.toArray n n2 dd dd2 sl sl2 rfl) ⟨ho,ho2,⟨.ref b,H,I,rfl,q⟩⟩
theorem aS9 {i:Int}:vA K A H H' (.pu<|.int i) (.int i):=by
 show Rep K A H' (.int i) (.int i)
 simp only[Rep]
theorem dI:OpU X (binaryOp .Add) iV:=by
 intro A H d e v w Q0 Q hA r1 r2 g k;unfold iV at g;split at g
 .rename_i i j
  exact⟨_,op_add,i,j,bQ r1,bQ r2,k _ _ H g (.refl _) aS9⟩
 .rename_i l m
  simp only[Rep]at r1 r2;obtain⟨a,vs,rfl,n1,c1,rs1⟩:=r1;obtain⟨b,ws,rfl,n2,c2,rs2⟩:=r2;exact⟨_,op_cat,a,b,vs,ws,rfl,rfl,c1,c2,by rw[<-rs1.length,<-rs2.length];exact g.1,λp n=>k _ _ _ g.2 (fJ n _) (i9 (.refl _) n<|rs1.append rs2)⟩
 .rename_i l m
  simp only[Rep]at r1 r2;obtain⟨a,vs,rfl,c1,rs1⟩:=r1;obtain⟨b,ws,rfl,c2,rs2⟩:=r2;obtain⟨hz,g⟩:=g
  by_cases hn:l=[]
  .subst hn;have e1:vs=[]:=rs1.unnil;subst e1;refine⟨_,d39,a,b,ws,rfl,rfl,c1.imp cS id,c2.imp cS id,k _ _ H g (.refl _) ?_⟩;show Rep X.K A H (.tup m) (.ref b);simp only[Rep];exact⟨b,ws,rfl,c2,rs2⟩
  refine⟨_,dJ8,a,b,vs,ws,rfl,rfl,c1.imp cS id,c2.imp cS id,λz=>hn ?_,by rw[<-rs1.length,<-rs2.length];exact hz,λz=> ?_,λz p n=> ?_⟩
  .have:=rs1.length;rw[z]at this;exact uI.mp this
  .have e2:=rs2.length;rw[z]at e2;have e3:m=[]:=uI.mp e2;subst e3;rw[kG]at g;refine k _ _ H g (.refl _) ?_;show Rep X.K A H (.tup l) (.ref a);simp only[Rep];exact⟨a,vs,rfl,c1,rs1⟩
  .exact k _ _ _ g (fJ n _) (j4 hA n<|rs1.append rs2)
 .exact g.elim
def gI2 (f:Int->Int->(B->Prop)->Prop)(d e:D)(Q:B->Prop):Prop:=match d,e with
 | .int i,.int j=>f i j Q
 | _,_=>False
theorem tY {f:Int->Int->(B->Prop)->Prop}{d e:D}{Q:B->Prop}(h:gI2 f d e Q): ∃i j,d= .int i/\e= .int j/\f i j Q:=by
 unfold gI2 at h;split at h
 .exact⟨_,_,rfl,rfl,h⟩
 .exact h.elim
def gSub:D->D->(B->Prop)->Prop:=gI2 λi j Q=>Q (.pu<|.int<|i-j)
theorem cC:OpU X (binaryOp .Sub) gSub:=by
 intro A H d e v w Q0 Q hA r1 r2 g k;obtain⟨i,j,rfl,rfl,g⟩:=tY g;exact⟨_,op_sub,i,j,bQ r1,bQ r2,k _ _ H g (.refl _) aS9⟩
theorem cN3 {i:Int}(h:Sm i):Builtin.Int.intBits i<=2^20:=aM (PyProof.Rows.intBits_le h) ac
def fS (d e:D)(Q:B->Prop):Prop:=match d,e with
 | .int i,.int j=>(cD9 i j\/(Sm i/\Sm j))/\Q (.pu<|.int<|i*j)
 | .lst l,.int k=>(-(2^63)<=k/\k<2^63/\l.length*k.toNat<=sizeLine)/\Q (.ow (replicate k.toNat l).flatten)
 | _,_=>False
theorem dK5:OpR X (binaryOp .Mult) (rI (λi j=>cD9 i j\/(Sm i/\Sm j)) λi j=> .int (i*j)):=opI λ_ _ _ _ _ _ _ hc q=>mul_int q (hc.elim cD9.ok λh=> .of_bits (cN3 h.1) (cN3 h.2))
theorem bT:OpU X (binaryOp .Mult) fS:=by
 intro A H d e v w Q0 Q hA r1 r2 g k;unfold fS at g;split at g
 .rename_i i j
  exact⟨_,dK5,i,j,bQ r1,bQ r2,g.1,k _ _ H g.2 (.refl _) aS9⟩
 .rename_i l kk
  have:=bQ r2;subst this;simp only[Rep]at r1;obtain⟨a,vs,rfl,n1,c1,rs1⟩:=r1;obtain⟨⟨h1,h2,h3⟩,g⟩:=g;exact⟨_,op_rep,a,kk,vs,rfl,rfl,c1,h1,h2,by rw[<-rs1.length];exact h3,λp n=>k _ _ _ g (fJ n _) (i9 (.refl _) n<|rs1.rep _)⟩
 .exact g.elim
def aI5:D->D->(B->Prop)->Prop:=gI2 λi j Q=>(j≠0/\Sm j)/\Q (.pu<|.int<|i.fdiv j)
def pX:D->D->(B->Prop)->Prop:=gI2 λi j Q=>j≠0/\Q (.pu<|.int<|i.fmod j)
theorem dK6:OpR X (binaryOp .FloorDiv) (rI (λ_ j=>j≠0/\Sm j) λi j=> .int (i.fdiv j)):=opI λ_ _ _ _ _ _ _ hc q=>floordiv_int hc.1 q (.inl<|PyProof.noPylong_of_log2 hc.2.log)
theorem rK:OpU X (binaryOp .FloorDiv) aI5:=by
 intro A H d e v w Q0 Q hA r1 r2 g k;obtain⟨i,j,rfl,rfl,g⟩:=tY g;exact⟨_,dK6,i,j,bQ r1,bQ r2,g.1,k _ _ H g.2 (.refl _) aS9⟩
theorem iO:OpU X (binaryOp .Mod) pX:=by
 intro A H d e v w Q0 Q hA r1 r2 g k;obtain⟨i,j,rfl,rfl,g⟩:=tY g;exact⟨_,dI8,i,j,bQ r1,bQ r2,g.1,k _ _ H g.2 (.refl _) aS9⟩
def b63:D->D->(B->Prop)->Prop:=gI2 λi j Q=>dI7 i j/\Q (.pu<|.int<|i^j.toNat)
theorem xB:OpU X (binaryOp .Pow) b63:=by
 intro A H d e v w Q0 Q hA r1 r2 g k;obtain⟨i,j,rfl,rfl,g⟩:=tY g;exact⟨_,op_pow,i,j,bQ r1,bQ r2,g.1,k _ _ H g.2 (.refl _) aS9⟩
def yP (p:Int->Int->Bool):D->D->(B->Prop)->Prop:=gI2 λi j Q=>Q (.pu<|.bl<|p i j)
theorem bU9 {p:Int->Int->Bool}(ho:OpR X (compareOp op) (rI0 λi j=> .bl (p i j))):OpU X (compareOp op) (yP p):=by
 intro A H d e v w Q0 Q hA r1 r2 g k;obtain⟨i,j,rfl,rfl,g⟩:=tY g;exact⟨_,ho,i,j,bQ r1,bQ r2,k _ _ H g (.refl _) oK⟩
theorem cN4:OpU X (compareOp .Lt) (yP λi j=>decide (i<j)):=bU9 op_lt
theorem dU5:OpU X (compareOp .LtE) (yP λi j=>decide (i<=j)):=bU9 op_le
theorem c36:OpU X (compareOp .Gt) (yP λi j=>decide (j<i)):=bU9 op_gt
theorem dU6:OpU X (compareOp .GtE) (yP λi j=>decide (j<=i)):=bU9 op_ge
def lQ (neg:Bool)(d e:D)(Q:B->Prop):Prop:=match d,e with
 | .int i,.int j=>Q (.pu<|.bl<|neg ^^ decide (i=j))
 | .bl i,.bl j=>Q (.pu<|.bl<|neg ^^ decide (i=j))
 | .str i,.str j=>Q (.pu<|.bl<|neg ^^ decide (i=j))
 | _,_=>False
theorem a27 {b:Bool}{v:V}(h:Rep K A H (.bl b) v):v= .bl b:=by simpa only[Rep]using h
theorem aT0 {b:Str}{v:V}(h:Rep K A H (.str b) v):v= .str b:=by simpa only[Rep]using h
theorem lU:OpU X (compareOp .Eq) (lQ false):=by
 intro A H d e v w Q0 Q hA r1 r2 g k;unfold lQ at g;split at g
 .rw[bQ r1,bQ r2];exact⟨_,d14,rfl,k _ _ H g (.refl _) (by rw[b81,o9,qM];exact oK)⟩
 .rw[a27 r1,a27 r2];exact⟨_,d14,rfl,k _ _ H g (.refl _) (by rw[bT7,o9,qM];exact oK)⟩
 .rw[aT0 r1,aT0 r2];exact⟨_,d14,rfl,k _ _ H g (.refl _) (by rw[b82,o9,qM];exact oK)⟩
 .exact g.elim
theorem bP1:OpU X (compareOp .NotEq) (lQ true):=by
 intro A H d e v w Q0 Q hA r1 r2 g k;unfold lQ at g;split at g
 .rw[bQ r1,bQ r2];exact⟨_,d15,rfl,k _ _ H g (.refl _) (by rw[b81,oB,qM];exact oK)⟩
 .rw[a27 r1,a27 r2];exact⟨_,d15,rfl,k _ _ H g (.refl _) (by rw[bT7,oB,qM];exact oK)⟩
 .rw[aT0 r1,aT0 r2];exact⟨_,d15,rfl,k _ _ H g (.refl _) (by rw[b82,oB,qM];exact oK)⟩
 .exact g.elim
end
section
variable {X:Cx}{a b e o:Expr}{es:List Expr}{pos:Pos}{ta tb te ti:UE}{K:Frag}{C:C0}{ρ ρ':Ev}{σ σ':L2.St}{H H':Hp}{A:AS}
def sK (t:UE):UE:=λρ Q=>t ρ λb ρ1=>match b.d with
 | .int i=>Q (.pu<|.int<|-i) ρ1
 | _=>False
theorem kU (h:PU X a ta):PU X (.UnaryOp .USub a pos) (sK ta):=
 jP (pe_un un_neg h) λσ H Q ⟨C,ρ,Q0,I,h,k⟩=>⟨C,ρ,_,I,h,λb ρ1 v H1 q f s r=>by
  have r':=r.rep λa z=>I.avF f z
  generalize b.d=d at q r';split at q
  .exact⟨_,bQ r',k _ _ _ _ q f s aS9⟩
  .exact q.elim⟩
theorem cF3:IpU X .Add (gI2 λi j Q=>Q (.pu<|.int<|i+j)):=by
 intro A H d e v w Q0 Q hA r1 r2 g k;obtain⟨i,j,rfl,rfl,g⟩:=tY g;exact⟨_,ip_add,i,j,bQ r1,bQ r2,k _ _ H g (.refl _) aS9⟩
theorem iu_sub:IpU X .Sub (gI2 λi j Q=>Q (.pu<|.int<|i-j)):=by
 intro A H d e v w Q0 Q hA r1 r2 g k;obtain⟨i,j,rfl,rfl,g⟩:=tY g;exact⟨_,d12,i,j,bQ r1,bQ r2,k _ _ H g (.refl _) aS9⟩
def g1 (f:D->(B->Prop)->Prop)(ds:List D)(Q:B->Prop):Prop:=match ds with
 | [d]=>f d Q
 | _=>False
def g2 (f:D->D->(B->Prop)->Prop)(ds:List D)(Q:B->Prop):Prop:=match ds with
 | [d,e]=>f d e Q
 | _=>False
theorem aZ8 {f:D->(B->Prop)->Prop}{ds:List D}{Q:B->Prop}{vs:List V}(h:g1 f ds Q)(r:bP K A H ds vs): ∃d v,ds=[d]/\vs=[v]/\Rep K A H d v/\f d Q:=by
 unfold g1 at h;split at h
 .obtain⟨v,vr,rfl,rv,rr⟩:=r.uncons;have:=rr.unnil;subst this;exact⟨_,v,rfl,rfl,rv,h⟩
 .exact h.elim
theorem cF4 {f:D->D->(B->Prop)->Prop}{ds:List D}{Q:B->Prop}{vs:List V}(h:g2 f ds Q)(r:bP K A H ds vs): ∃d e v w,ds=[d,e]/\vs=[v,w]/\Rep K A H d v/\Rep K A H e w/\f d e Q:=by
 unfold g2 at h;split at h
 .obtain⟨v,vr,rfl,rv,rr⟩:=r.uncons;obtain⟨w,wr,rfl,rw',rr'⟩:=rr.uncons;have:=rr'.unnil;subst this;exact⟨_,_,v,w,rfl,rfl,rv,rw',h⟩
 .exact h.elim
def dK7 (f:Int->(B->Prop)->Prop)(d:D)(Q:B->Prop):Prop:=match d with
 | .int i=>f i Q
 | _=>False
theorem d40 {f:Int->(B->Prop)->Prop}{d:D}{Q:B->Prop}(h:dK7 f d Q): ∃i,d= .int i/\f i Q:=by
 unfold dK7 at h;split at h
 .exact⟨_,rfl,h⟩
 .exact h.elim
def cF5:List D->(B->Prop)->Prop:=g1 (dK7 λi Q=>Q (.pu<|.int<|if i<0 then -i else i))
theorem bB0:a69 X (.builtin "abs") cF5:=by
 intro A H ds vs Q0 Q hA r g k;obtain⟨d,v,rfl,rfl,rv,g⟩:=aZ8 g r;obtain⟨i,rfl,g⟩:=d40 g;exact⟨_,d16,i,by rw[bQ rv],k _ _ H g (.refl _) aS9⟩
def gMax:List D->(B->Prop)->Prop:=g2 (gI2 λi j Q=>Q (.pu<|.int<|if j>i then j else i))
theorem cu_max (hc:X.calm=true):a69 X (.builtin "max") gMax:=by
 intro A H ds vs Q0 Q hA r g k;obtain⟨d,e,v,w,rfl,rfl,rv,rw',g⟩:=cF4 g r;obtain⟨i,j,rfl,rfl,g⟩:=tY g;exact⟨_,cT6 hc,i,j,by rw[bQ rv,bQ rw'],k _ _ H g (.refl _) aS9⟩
def gMin:List D->(B->Prop)->Prop:=g2 (gI2 λi j Q=>Q (.pu<|.int<|if j<i then j else i))
theorem cu_min (hc:X.calm=true):a69 X (.builtin "min") gMin:=by
 intro A H ds vs Q0 Q hA r g k;obtain⟨d,e,v,w,rfl,rfl,rv,rw',g⟩:=cF4 g r;obtain⟨i,j,rfl,rfl,g⟩:=tY g;exact⟨_,cT7 hc,i,j,by rw[bQ rv,bQ rw'],k _ _ H g (.refl _) aS9⟩
noncomputable def dL:List D->(B->Prop)->Prop:=g1 λd Q=>match qD d with
 | some l=>Q (.pu<|.tup l)
 | none=>False
theorem fP:a69 X (.type "tuple") dL:=by
 intro A H ds vs Q0 Q hA r g k;obtain⟨d,v,rfl,rfl,rv,g⟩:=aZ8 g r;cases d with
 | tup l=>
  have rv':=rv;simp only[Rep]at rv;obtain⟨a,vs,rfl,c,rs⟩:=rv;exact⟨_,xA,a,vs,rfl,.inr ⟨c.imp cS id,k _ _ H g (.refl _) rv'⟩⟩
 | lst l=>
  simp only[Rep]at rv;obtain⟨a,vs,rfl,n,c,rs⟩:=rv;exact⟨_,xA,a,vs,rfl,.inl ⟨SqL.of c,λp n=>k _ _ _ g (fJ n _) (j4 hA n rs)⟩⟩
 | rol l=>
  simp only[Rep]at rv;obtain⟨a,vs,rfl,c,rs⟩:=rv;exact⟨_,xA,a,vs,rfl,.inl ⟨c.imp cS id,λp n=>k _ _ _ g (fJ n _) (j4 hA n rs)⟩⟩
 | _=>exact(show False from g).elim
noncomputable def aG0:List D->(B->Prop)->Prop:=g1 λd Q=>match qD d with
 | some l=>Q (.ow l)
 | none=>False
theorem b88:a69 X (.type "list") aG0:=by
 intro A H ds vs Q0 Q hA r g k;obtain⟨d,v,rfl,rfl,rv,g⟩:=aZ8 g r;cases e:qD d with
 | none=>simp only[e]at g
 | some l=>
  simp only[e]at g;obtain⟨a,vs,rfl,c,rs⟩:=rv.one.seq e;exact⟨_,bU5,a,vs,rfl,c,λp n=>k _ _ _ g (fJ n _) (i9 (.refl _) n rs)⟩
def nL (t:UV):UE:=λρ Q=>t ρ λd ρ1=>match qD d with
 | some l=>Q (.pu<|.int l.length) ρ1
 | none=>False
theorem gR {t:UV}(ha:PUV X e t)(hg:Gl X "len")(hm:X.mg "len"=none)(hs:↥(starEach [e] X.env=(false,eval e X.env)::starEach [] X.env))
  (hpl:↥((backTo pos<|starEach [] X.env).any (·.1)=false)):PU X (.Call (.Name "len" p) [e] [] pos) (nL t):=
 jP (c26 bU4 hg hm PySem.boot_len (bT9 ha cE5 hs) ac ac hs hpl) λσ H Q ⟨C,ρ,Q0,I,h,k⟩=>⟨C,ρ,_,I,h,λd ρ1 v H1 q f s r=>by
  cases e:qD d with
  | none=>simp only[e]at q
  | some l=>
   simp only[e]at q;obtain⟨a,vs,rfl,c,rs⟩:=r.seq e;exact⟨a,vs,rfl,c,k _ _ _ _ q f s (by rw[rs.length];exact aS9)⟩⟩
def isI:D->String->Option Bool
 | .int _,"int"=>some true
 | .int _,"bool"=>some false
 | .int _,"tuple"=>some false
 | .int _,"list"=>some false
 | .bl _,"bool"=>some true
 | .bl _,"int"=>some true
 | .tup _,"tuple"=>some true
 | .tup _,"int"=>some false
 | .tup _,"list"=>some false
 | .lst _,"list"=>some true
 | .lst _,"tuple"=>some false
 | .lst _,"int"=>some false
 | _,_=>none
theorem aP7 {x:Value}{T:String}{A:Around}
  {P:(Result->Shared->Prop)->Shared->Prop} (hm:Meets (Builtin.«isinstance» ⟨[x,.type T],[]⟩) (λ_ R s=>P R s)) (h:P (λr s'=>match r with| .ok (.ret v)=>Q v s'| .ok _=>False| .error e=>E e s') s) :
  wpAny (model prog w) A (call (.builtin "isinstance") [x,.type T]) Q E s:=
 call_function_any kind_isinstance plain_isinstance entry_isinstance (args_isinstance _ _) (hm _ _ _ _ _ h)
theorem rep_ty {T:String}{v:V}(h:Rep K A H (.ty T) v):v= .ty T:=by simpa only[Rep]using h
def rIsi (K:Frag):List V->Hp->VK->Prop:=λxs H Q=> ∃x T k,xs=[x,.ty T]/\Q (.bl k) H/\
 ((∃i,x= .int i/\((T="int"/\k=true)\/((T="bool"\/T="tuple"\/T="list")/\k=false)))\/(∃c,x= .bl c/\(T="int"\/T="bool")/\k=true)\/
  (∃a ys,x= .ref a/\SqT K H a ys/\((T="tuple"/\k=true)\/((T="int"\/T="list")/\k=false)))\/(∃a ys,x= .ref a/\SqL K H a ys/\((T="list"/\k=true)\/((T="int"\/T="tuple")/\k=false))))
theorem tyT (T:String)(h:T="int"\/T="bool"\/T="tuple"\/T="list"):typeOf (.type T)=pure (.type "type"):=by
 rcases h with rfl|rfl|rfl|rfl<;>first|rfl|decide
theorem vB:tN X (.builtin "isinstance") (rIsi X.K):=by
 intro pins s σ H xs us Q I r h;obtain⟨x,T,k,rfl,q,h⟩:=h;obtain⟨u,w',rfl,rx,ry⟩:=vals2 r;have e:w'=Value.type T:=ry;subst e;rcases h with⟨i,rfl,h⟩| ⟨c,rfl,h,rfl⟩| ⟨a,ys,rfl,hs,h⟩| ⟨a,ys,rfl,hs,h⟩
 .obtain⟨t,rfl⟩:=rx;rcases h with⟨rfl,rfl⟩| ⟨h,rfl⟩
  .exact uM (rF s i t) (tyT _ ae) PyProof.Rows.sub_int_int ⟨.bl true,H,I,rfl,q⟩
  .rcases h with rfl|rfl|rfl
   .exact aP7 (aN2 ac (tyT _ ae) PyProof.Rows.sub_int_bool) ⟨.bl false,H,I.tok _,rfl,q⟩
   .exact aP7 (aN2 ac (tyT _ ae) PyProof.Rows.sub_int_tuple) ⟨.bl false,H,I.tok _,rfl,q⟩
   .exact aP7 (aN2 ac (tyT _ ae) PyProof.Rows.sub_int_list) ⟨.bl false,H,I.tok _,rfl,q⟩
 .cases rx;rcases h with rfl|rfl
  .exact uM (PySem.typeIs_bool s c) (tyT _ ae) PyProof.Rows.sub_bool_int ⟨.bl true,H,I,rfl,q⟩
  .exact uM (PySem.typeIs_bool s c) (tyT _ ae) PyProof.Rows.sub_bool_bool ⟨.bl true,H,I,rfl,q⟩
 .cases rx;obtain⟨its,rv,p,hz⟩:=I.tuple hs;obtain⟨o,ho,hc,_⟩:=id p;rcases h with⟨rfl,rfl⟩| ⟨h,rfl⟩
  .exact uM p.typeIs (tyT _ ae) PyProof.Rows.sub_tuple_tuple ⟨.bl true,H,I,rfl,q⟩
  .rcases h with rfl|rfl
   .exact aP7 (isinstance_false_tuple ac (tyT _ ae) PyProof.Rows.sub_tuple_int) ⟨⟨o,ho,hc⟩,.bl false,H,I.tok _,rfl,q⟩
   .exact aP7 (isinstance_false_tuple ac (tyT _ ae) PyProof.Rows.sub_tuple_list) ⟨⟨o,ho,hc⟩,.bl false,H,I.tok _,rfl,q⟩
 .cases rx;obtain⟨its,rv,p,hz⟩:=I.list hs;obtain⟨o,n,ho,hc,_⟩:=id p;rcases h with⟨rfl,rfl⟩| ⟨h,rfl⟩
  .exact uM p.isList.typeIs (tyT _ ae) PyProof.Rows.sub_list_list ⟨.bl true,H,I,rfl,q⟩
  .rcases h with rfl|rfl
   .exact aP7 (isinstance_false_list ac (tyT _ ae) PyProof.Rows.sub_list_int) ⟨⟨o,ho,hc⟩,.bl false,H,I.tok _,rfl,q⟩
   .exact aP7 (isinstance_false_list ac (tyT _ ae) PyProof.Rows.sub_list_tuple) ⟨⟨o,ho,hc⟩,.bl false,H,I.tok _,rfl,q⟩
def cU7:List D->(B->Prop)->Prop:=g2 λd e Q=>match e with
 | .ty T=>(match d with
  | .int _=>if T="int" then Q (.pu<|.bl true)else if T="bool"\/T="tuple"\/T="list" then Q (.pu<|.bl false)else False
  | .bl _=>if T="int"\/T="bool" then Q (.pu<|.bl true)else False
  | .tup _=>if T="tuple" then Q (.pu<|.bl true)else if T="int"\/T="list" then Q (.pu<|.bl false)else False
  | .lst _=>if T="list" then Q (.pu<|.bl true)else if T="int"\/T="tuple" then Q (.pu<|.bl false)else False
  | _=>False)
 | _=>False
theorem bV0:a69 X (.builtin "isinstance") cU7:=by
 intro A H ds vs Q0 Q hA r g k;obtain⟨d,e,v,w,rfl,rfl,rv,rw',g⟩:=cF4 g r;have no: ∀{c:Bool},Q0 (.pu<|.bl c)->Q (.bl c) H:=λz=>k _ _ H z (.refl _) oK
 cases e with
 | ty T=>
  rw[rep_ty rw'];cases d with
  | int i=>
   rw[bQ rv]
   by_cases h1:T="int"
   .simp only[h1,cU]at g;exact⟨_,vB,_,T,true,rfl,no g,.inl ⟨i,rfl,.inl ⟨h1,rfl⟩⟩⟩
   .by_cases h2:T="bool"\/T="tuple"\/T="list"
    .simp only[h1,h2,cU,fM]at g;exact⟨_,vB,_,T,false,rfl,no g,.inl ⟨i,rfl,.inr ⟨h2,rfl⟩⟩⟩
    .simp only[h1,h2,fM]at g
  | bl c=>
   rw[a27 rv]
   by_cases h1:T="int"\/T="bool"
   .simp only[h1,cU]at g;exact⟨_,vB,_,T,true,rfl,no g,.inr<|.inl ⟨c,rfl,h1,rfl⟩⟩
   .simp only[h1,fM]at g
  | tup l=>
   obtain⟨a,vs,rfl,c,rs⟩:=rv.one
   by_cases h1:T="tuple"
   .simp only[h1,cU]at g;exact⟨_,vB,_,T,true,rfl,no g,.inr<|.inr<|.inl ⟨a,vs,rfl,c,.inl ⟨h1,rfl⟩⟩⟩
   .by_cases h2:T="int"\/T="list"
    .simp only[h1,h2,cU,fM]at g;exact⟨_,vB,_,T,false,rfl,no g,.inr<|.inr<|.inl ⟨a,vs,rfl,c,.inr ⟨h2,rfl⟩⟩⟩
    .simp only[h1,h2,fM]at g
  | lst l=>
   obtain⟨a,vs,rfl,c,rs⟩:=rv.one
   by_cases h1:T="list"
   .simp only[h1,cU]at g;exact⟨_,vB,_,T,true,rfl,no g,.inr<|.inr<|.inr ⟨a,vs,rfl,SqL.of c,.inl ⟨h1,rfl⟩⟩⟩
   .by_cases h2:T="int"\/T="tuple"
    .simp only[h1,h2,cU,fM]at g;exact⟨_,vB,_,T,false,rfl,no g,.inr<|.inr<|.inr ⟨a,vs,rfl,SqL.of c,.inr ⟨h2,rfl⟩⟩⟩
    .simp only[h1,h2,fM]at g
  | _=>exact(show False from g).elim
 | _=>exact(show False from g).elim
theorem cN5 {T:String}(hg:Gl X x)(hm:X.mg x=none)(hv:bootBuiltins x=some (.type T))(hn:⇑(x≠"__name__"))(hd:⇑((x==("__debug__":Str))=false)):PU X (.Name x p) (uC<|.ty T):=
 bU7 (dH9 (v:= .ty T) hg hm hv rfl hn hd) λA H=>by simp only[Rep]
noncomputable def init (N:List Str)(ds:List D):Ev:=ds.map (λd=>some (.pu d))++replicate (N.length-ds.length) none
theorem a92 {ds:List D}{z:B}(h:(init N ds)[i]? =some (some z)): ∃d,z= .pu d/\ds[i]? =some d:=by
 unfold init at h
 by_cases hi:i<ds.length
 .rw[iF<|by simpa using hi,bS]at h
  cases e:ds[i]? with
  | none=>rw[e]at h;cases h
  | some d=>rw[e]at h;cases h;exact⟨d,rfl,rfl⟩
 .rw[jC<|by simpa using hi,zP]at h
  split at h<;>cases h
theorem bV1 {ds:List D}{vs:List V}(hA: ∀a,A a->H a≠none)(r:bP K A H ds vs):EOk K ⟨H,A⟩ (init N ds) (L2.start N vs) H:=by
 have own: ∀a,¬Own (init N ds) (L2.start N vs) a:=λa ⟨i,l,h1,_⟩=>by
  obtain⟨d,e,_⟩:=a92 h1;cases e
 refine⟨?_,λi d h=> ?_,λi l h=> ?_,λi j l l' a h=> ?_,λi l h=> ?_,.refl _,hA⟩
 .unfold init L2.start;simp[r.length]
 .obtain⟨d',e,e2⟩:=a92 h;cases e;obtain⟨v,h1,h2⟩:=r.get e2;refine⟨v,?_,h2.mono<|.sub (.refl _) λa z=>z.elim id λz=>absurd z (own a)⟩
  unfold L2.start;have hv:i<vs.length:=(l8.mp h1).1;rw[iF<|by simpa using hv,bS,h1]
  rfl
 .obtain⟨d',e,_⟩:=a92 h;cases e
 .obtain⟨d',e,_⟩:=a92 h;cases e
 .obtain⟨d',e,_⟩:=a92 h;cases e
theorem bV2 {K:Frag}{ps:List Str}(F:Fun K x qual st f fd)(S:b9 N ps (aJ st))
  (len: ∀ds Q,φ ds Q->ds.length=ps.length)
  (body: ∀(cdv:Value) (A:Around) (outer:List Env) (s:Shared) (H:Hp) (E:XK),i8 k (A.deeper<|envOfC qual (aJ st) s.heap.objs.size f cdv)->
   ∃t,sW (v9 CX0 P w K mg base N qual (aJ st) f cdv A outer s H E).nox (eG st) t/\ ∀ds Q,φ ds Q->t {nx:=λ_=>Q (.pu .non),rt:=Q} (init N ds)) :
  tX P w K mg base CX0 (k+1) f fd ps (spP K φ):=by
 refine F.ok S (λvs H Q E h=> ?_) (λcdv A outer s H vs Q E hr h=> ?_)
 .obtain⟨A,ds,Q0,_,r,h,_⟩:=h;rw[<-r.length];exact len ds Q0 h
 .obtain⟨A',ds,Q0,hA,r,h,q⟩:=h;obtain⟨t,ht,hq⟩:=body cdv A outer s H E hr;refine⟨_,ht,⟨H,A'⟩,init N ds,_,bV1 hA r,hq ds Q0 h,⟨λρ σ H' z I=> ?_,λb v H' z s r=>q b v H' z s r,λ_ _ _ z=>z.elim,λ_ _ _ z=>z.elim⟩⟩
  exact q _ _ H' z I.ext (show Rep _ _ _ _ _ by simp only[Rep])
end
structure Fn (P:Program)(w:World)(K:Frag)(mg:Str->Option Value)(base:Heap)(x:Str)(ps:List Str)(k:Nat)(φ:Φ):Prop where
 ex: ∃f fd,tX P w K mg base CX0 k f fd ps (spP K φ)/\Binds K fd ps []/\keepIn K (.ref f)=true/\mg x=some (.ref f)
section
variable {X:Cx}{e:Expr}{es:List Expr}{pos:Pos}
theorem aT1 {ps:List Str}{t:UA}(F:Fn X.prog X.w X.K X.mg X.base x ps k φ)(hr:i8 k' X.A)(hk:k<=k')(hg:Gl X x)(ha:PUA X (e::es) t)(hdb:⇑((x==("__debug__":Str))=false))
  (he:↥(starEach (e::es) X.env=(false,eval e X.env)::starEach es X.env)) (hpl:↥((backTo pos<|starEach es X.env).any (·.1)=false)):PU X (.Call (.Name x p) (e::es) [] pos) (aU φ t):=by
 obtain⟨f,fd,G,b,kp,m⟩:=F.ex;exact dK2 (E:=E0) G (hr.mono hk) hg m kp b (λ_ _ _ _ _ _ _ h=>h.elim) ha hdb he hpl
theorem d41 {ps:List Str}(F:Fn X.prog X.w X.K X.mg X.base x ps k φ)(hr:i8 k' X.A)(hk:k<=k')(hg:Gl X x)(hdb:⇑((x==("__debug__":Str))=false)):PU X (.Call (.Name x p) [] [] pos) (aU φ aR):=by
 obtain⟨f,fd,G,b,kp,m⟩:=F.ex;exact d34 (E:=E0) G (hr.mono hk) hg m kp b (λ_ _ _ _ _ _ _ h=>h.elim) hdb
theorem il (hn:X.N.length=n)(h:i<n): ∀pins σ H s,Inv X pins σ H s->i<σ.length:=λ_ _ _ _ I=>by rw[I.len,hn];exact h
theorem il2 (hn:X.N.length=n)(h:i<n)(h':j<n): ∀pins σ H s,Inv X pins σ H s->i<σ.length/\j<σ.length:=λ_ _ _ _ I=>by rw[I.len,hn];exact⟨h,h'⟩
end
theorem Fn.mk' {ps:List Str}(F:Fun K x qual st f fd)(m:mg x=some (.ref f))(b:Binds K fd ps [])(S:b9 N ps (aJ st))
  (len: ∀ds Q,φ ds Q->ds.length=ps.length) {t:US}
  (der: ∀(cdv:Value) (A:Around) (outer:List Env) (s:Shared) (H:Hp) (E:XK),i8 k (A.deeper<|envOfC qual (aJ st) s.heap.objs.size f cdv)->sW (v9 CX0 P w K mg base N qual (aJ st) f cdv A outer s H E).nox (eG st) t)
  (rd: ∀ds Q,φ ds Q->t {nx:=λ_=>Q (.pu .non),rt:=Q} (init N ds)):Fn P w K mg base x ps (k+1) φ:=
 ⟨f,fd,bV2 F S len λcdv A outer s H E hr=>⟨t,der cdv A outer s H E hr,rd⟩,b,F.kp,m⟩
def bP2:Φ:=λds Q=> ∃ns:List Int,ds=[.rol<|ns.map .int]/\ns.length<=63/\Q (.pu<|.bl true)
theorem bP3 {K:Frag}{A:AS}{H:Hp}: ∀ns:List Int,bP K A H (ns.map .int) (ns.map V.int)
 | []=> .nil
 | n::ns=> .cons (by simp only[Rep]) (bP3 ns)
theorem law_sp {H:Hp}{ns:List Int}(hl:ns.length<=63)(hS:SqL K H a (ns.map V.int)):spP K bP2 [.ref a] H (λv _=>v= .bl true) (λ_ _ _=>False):=by
 refine⟨λ_=>False,[.rol<|ns.map .int],λb=>b= .pu (.bl true),λ_ z=>z.elim,.cons ?_ .nil,⟨ns,rfl,hl,rfl⟩,λb v H' q s r=> ?_⟩
 .simp only[Rep];exact⟨a,_,rfl,hS.imp (λz=>⟨λz=>z,z⟩) id,bP3 ns⟩
 .subst q;have r':Rep K (λ_=>False) H' (.bl true) v:=r
  exact a27 r'
theorem walkM {l:PySem.W.OpenLaw}{XP:(Str->Option Value)->Heap->Prop}{d:DefRec}{K:Params->Frag}(hn:l.most=some 63)(hdf:d.params.defaults=[])(hr:i8 k callerA)
  (hY: ∀(w:World) (h:Heap),YP w h->(K w.params).In h)
  (F: ∀(w:World) (mg:Str->Option Value) (fa:Addr) (h:Heap),(K w.params).In h->h.Ns mainGlobals mg->mg d.name=some (.ref fa)->
   ∃fd:FuncData,(∀(s:Shared) (u:Value),BindsTo s fd ⟨[u],[]⟩ [(x,u)])/\ ∀base:Heap,(K w.params).In base->base.Ns mainGlobals mg->tX l.prog w (K w.params) mg base CX0 k fa fd [x] (spP (K w.params) bP2)) :
  PySem.W.WalkO q loose XP YP l.row.toRowW d [] (λf vs=>PySem.call f vs):=
 L2.walk_of (n:=63) (k:=k) (x:=x) (CX:=λ_=>CX0) (sp:=λw=>spP (K w.params) bP2) hn ac hdf hr hY F (λ_ _ a ns hl _ hS=>law_sp hl hS) λ_ _ _ _ _ z=>z
end M
section
namespace L2
noncomputable def bM (X:Cx)(N:List Str)(scope:Scope)(cl:List (Str×Addr))(C:Addr)(s:Shared)(H:Hp)(fp:List Addr)(pins:List (Addr×Obj)):Cx where
 prog:=X.prog
 w:=X.w
 K:=X.K
 mg:=X.mg
 base:=X.base
 A:=X.A
 N:=N
 s₀:=s
 H₀:=H
 env:=compEnvC scope cl C X.env
 outer:=X.stack
 stack:=X.stack
 ex:=fp
 fn:=λx=>scope.names.lookup x==some .cell
 calm:=X.calm
 pn:=X.pn++pins
 xe:=λ_ _=>False
theorem a28 {env:Env}: ∀(names:List (Str×NameKind)),(∀y∈names,y.2= .free-> ∃c,env.cells.lookup y.1=some c)-> ∀cs:List (Str×Addr),(∀x c,cs.lookup x=some c->env.cells.lookup x=some c)->
  ∃cl,(forIn names cs fun(x:Str×NameKind) r=>(do if(x.2==NameKind.free)=true then do let c<-cellOf env x.1;pure (ForInStep.yield ((x.1,c)::r))else pure (ForInStep.yield r)):Sem (List<|Str×Addr))=pure cl/\
   (∀x c,cl.lookup x=some c->env.cells.lookup x=some c)/\(∀x c,cs.lookup x=some c-> ∃c',cl.lookup x=some c')/\ ∀y∈names,y.2= .free-> ∃c,cl.lookup y.1=some c
 | [],_,cs,hcs=>⟨cs,rfl,hcs,λx c h=>⟨c,h⟩,λy hy=>by simp at hy⟩
 | (n,k)::r,h,cs,hcs=>by
  have hr: ∀y∈r,y.2= .free-> ∃c,env.cells.lookup y.1=some c:=λy hy=>h y (dS _ hy)
  by_cases hk:k= .free
  .subst hk;obtain⟨c,hc⟩:=h (n,.free) jD rfl;have e1:cellOf env n=pure c:=by unfold cellOf;rw[hc]
   have hcs': ∀x c',List.lookup x ((n,c)::cs)=some c'->env.cells.lookup x=some c':=λx c' q=>by
    rw[cX]at q;split at q
    .rename_i e
     have:x=n:=by simpa using e
     subst this;cases q;exact hc
    .exact hcs x c' q
   obtain⟨cl,h1,h2,h3,h4⟩:=a28 r hr ((n,c)::cs) hcs';have hn: ∃c',cl.lookup n=some c':=h3 n c (by rw[cX];simp)
   refine⟨cl,?_,h2,λx c' q=> ?_,λy hy hf=> ?_⟩
   .rw[a09];show(do let c<-cellOf env n;pure (ForInStep.yield ((n,c)::cs))) >>= _=_;rw[e1];exact h1
   .by_cases z:x=n
    .subst z;exact hn
    .refine h3 x c' ?_
     rw[cX];have:(x==n)=false:=by simpa using z
     rw[this];exact q
   .rcases bE.mp hy with rfl|hy
    .exact hn
    .exact h4 y hy hf
  .obtain⟨cl,h1,h2,h3,h4⟩:=a28 r hr cs hcs;refine⟨cl,?_,h2,h3,λy hy hf=> ?_⟩
   .rw[a09];have:(k==NameKind.free)=false:=by simpa using hk
    show(if(k==NameKind.free)=true then _ else _) >>= _=_
    rw[this];exact h1
   .rcases bE.mp hy with rfl|hy
    .exact absurd hf hk
    .exact h4 y hy hf
structure eM (env:Env)(XN N:List Str)(cap:List (Option Nat))(scope:Scope):Prop where
 kind:scope.kind= .function
 owns: ∀y∈scope.names,y.2= .cell->scope.names.lookup y.1=some .cell
 freeK: ∀y∈scope.names,y.2= .free->scope.names.lookup y.1=some .free
 names: ∀y∈scope.names,y.2= .local->scope.names.lookup y.1=some .local
 frees: ∀y∈scope.names,y.2= .free->env.kindOf y.1=some .cell\/env.kindOf y.1=some .free
 caps: ∀(i j:Nat) (x:Str),N[i]? =some x->cap[i]? =some (some j)->XN[j]? =some x/\(x,NameKind.free)∈scope.names/\scope.names.lookup x=some .free
 len:cap.length=N.length
noncomputable def wK (σ:L2.St)(cap:List (Option Nat))(last:Nat)(D:Addr):L2.St:=(cap.map λc=>c.bind λj=>(σ[j]?).join).set last (some<|.ref D)
theorem a93 {env:Env}{x:Str}{k:NameKind}: ∀{names:List (Str×NameKind)},names.lookup x=some k->
  (names.map fun(n,k)=>if(k==NameKind.free&&env.scope.kind== .function&&env.kindOf n==some .cell)then(n,NameKind.cell)else(n,k)).lookup x=
   some (if(k==NameKind.free&&env.scope.kind== .function&&env.kindOf x==some .cell)then NameKind.cell else k)
 | [],h=>by simp at h
 | (n,k')::r,h=>by
  rw[cR];rw[cX]at h;dsimp only
  by_cases e:(x==n)=true
  .have e':x=n:=by simpa using e
   subst e';rw[e]at h;cases h;split<;>simp
  .have e2:(x==n)=false:=by simpa using e
   rw[e2]at h;have ih:=a93 (env:=env) h;split
   .rw[cX,e2];exact ih
   .rw[cX,e2];exact ih
theorem pI {env:Env}{x:Str}{k:NameKind}: ∀{names:List (Str×NameKind)},(names.map fun(n,k)=>if(k==NameKind.free&&env.scope.kind== .function&&env.kindOf n==some .cell)then(n,NameKind.cell)else(n,k)).lookup x=some k->
  ∃k',names.lookup x=some k'/\(x,k')∈names/\(k=k'\/k'= .free)
 | [],h=>by simp at h
 | (n,k')::r,h=>by
  rw[cR]at h;dsimp only at h
  by_cases e:(x==n)=true
  .have e':x=n:=by simpa using e
   subst e';refine⟨k',by rw[cX,e],jD,?_⟩
   split at h
   .rename_i c
    right
    simp only[dU,gP]at c;exact c.1.1
   .rw[cX,e]at h;cases h;exact .inl rfl
  .have e2:(x==n)=false:=by simpa using e
   have h':(r.map fun(n,k)=>if(k==NameKind.free&&env.scope.kind== .function&&env.kindOf n==some .cell)then(n,NameKind.cell)else(n,k)).lookup x=some k:=by
    split at h
    .rw[cX,e2]at h;exact h
    .rw[cX,e2]at h;exact h
   obtain⟨k2,h1,h2,h3⟩:=pI h';exact⟨k2,by rw[cX,e2];exact h1,dS _ h2,h3⟩
theorem aZ9 {x:Str}{c:Addr}: ∀(names:List (Str×NameKind)) (h:Heap) (acc:List (Str×Addr)),(cellsFrom h.objs.size names acc).lookup x=some c->
  acc.lookup x=some c\/(h.objs.size<=c/\(x,NameKind.cell)∈names/\(pushCells h names).IsCell c none)
 | [],_,_,e=> .inl e
 | (y,k)::r,h,acc,e=>by
  unfold cellsFrom at e;unfold pushCells
  by_cases hk:(k==NameKind.cell)=true
  .rw[aA hk]at e⊢;have hk':k= .cell:=by simpa using hk
   have sz:(h.push {cls:= .type "cell",data:= .cell none}).objs.size=h.objs.size+1:=jG ..;rw[<-sz]at e;rcases aZ9 r _ _ e with q| ⟨q1,q2,q3⟩
   .rw[cX]at q;split at q
    .rename_i e1
     have:x=y:=by simpa using e1
     subst this;cases q;exact .inr ⟨aG _,by rw[hk'];exact jD,⟨_,aP2 _ _ _ _<|bX _ rfl,rfl⟩⟩
    .exact .inl q
   .exact .inr ⟨ad,dS _ q2,q3⟩
  .rw[a9 hk]at e⊢;rcases aZ9 r h acc e with q| ⟨q1,q2,q3⟩
   .exact .inl q
   .exact .inr ⟨q1,dS _ q2,q3⟩
theorem b00: ∀(names:List (Str×NameKind)) (n:Nat) (acc:List (Str×Addr)),(∀x c,acc.lookup x=some c->c<n)->(∀x y c,acc.lookup x=some c->acc.lookup y=some c->x=y)->
  ∀x y c,(cellsFrom n names acc).lookup x=some c->(cellsFrom n names acc).lookup y=some c->x=y
 | [],_,_,_,hi=>hi
 | (z,k)::r,n,acc,hl,hi=>by
  unfold cellsFrom
  by_cases hk:(k==NameKind.cell)=true
  .rw[aA hk];refine b00 r (n+1) _ (λx c e=> ?_) (λx y c e1 e2=> ?_)
   .rw[cX]at e;split at e
    .cases e;exact qZ n
    .exact lJ (hl x c e)
   .rw[cX]at e1 e2;split at e1
    .rename_i q1
     cases e1;split at e2
     .rename_i q2
      exact(by simpa using q1:x=z).trans (by simpa using q2:y=z).symm
     .exact absurd (hl y _ e2) (cQ _)
    .split at e2
     .cases e2;exact absurd (hl x _ e1) (cQ _)
     .exact hi x y c e1 e2
  .rw[a9 hk];exact b00 r n acc hl hi
theorem u8 {x:Str}{c:Addr}: ∀(names:List (Str×NameKind)) (n:Nat) (acc:List (Str×Addr)),((x,NameKind.cell)∈names\/ ∀c,acc.lookup x=some c->n<=c)->(cellsFrom n names acc).lookup x=some c->n<=c
 | [],_,_,h,e=>by
  rcases h with h|h
  .simp at h
  .exact h c e
 | (z,k)::r,n,acc,h,e=>by
  unfold cellsFrom at e
  by_cases hk:(k==NameKind.cell)=true
  .rw[aA hk]at e;have hk':k= .cell:=by simpa using hk
   rcases h with h|h
   .rcases bE.mp h with h|h
    .cases h;have:n<=c:=by
      by_cases q: ∃c',(cellsFrom (n+1) r ((x,n)::acc)).lookup x=some c'/\(x,NameKind.cell)∈r
      .obtain⟨c',e',m⟩:=q;have:=u8 (c:=c) r (n+1) _ (.inl m) e
       lia
      .have nm:(x,NameKind.cell) ∉ r:=λm=>q ⟨c,e,m⟩
       have:=cells_keep r (n+1) ((x,n)::acc) nm;rw[this,cX]at e;simp at e;exact le_of_eq e
     exact this
    .have:=u8 (c:=c) r (n+1) _ (.inl h) e
     lia
   .by_cases q:(x,NameKind.cell)∈r
    .have:=u8 (c:=c) r (n+1) _ (.inl q) e
     lia
    .have:=cells_keep r (n+1) ((z,n)::acc) q;rw[this,cX]at e;split at e
     .cases e;exact aG _
     .exact h c e
  .rw[a9 hk]at e;refine u8 (c:=c) r n acc (h.imp (λm=> ?_) id) e
   rcases bE.mp m with m|m
   .cases m;exact absurd ac hk
   .exact m
where
 cells_keep {x:Str}: ∀(names:List (Str×NameKind)) (n:Nat) (acc:List (Str×Addr)),(x,NameKind.cell) ∉ names->(cellsFrom n names acc).lookup x=acc.lookup x
 | [],_,_,_=>rfl
 | (z,k)::r,n,acc,h=>by
  unfold cellsFrom
  by_cases hk:(k==NameKind.cell)=true
  .rw[aA hk];have hk':k= .cell:=by simpa using hk
   rw[cells_keep r (n+1) _ λm=>h (dS _ m),cX]
   split
   .rename_i e
    have:x=z:=by simpa using e
    subst this;exact absurd (by rw[hk'];exact jD) h
   .rfl
  .rw[a9 hk];exact cells_keep r n acc λm=>h (dS _ m)
theorem cells_keep (names:List (Str×NameKind))(n:Nat)(acc:List (Str×Addr))(h:(x,NameKind.cell) ∉ names):(cellsFrom n names acc).lookup x=acc.lookup x:=u8.cells_keep names n acc h
theorem bV3 {M:Model}{globals:Addr}{env0:Env}{Q:Env->Shared->Prop}
  (hQ:Q {scope:=scope,locals:=s.heap.objs.size,globals:=globals,cells:=cellsFrom (s.heap.objs.size+1) scope.names cl,qual:=qual,func:=none,code:=env0.code,frame:=env0.frame,builtins:=env0.builtins} {s with heap:=pushCells (s.heap.push {cls:= .type "dict",data:= .dict #[]}) scope.names}) :
  wpAny M A (newFunctionEnv scope globals cl [] qual none .none<|some env0) Q E s:=by
 simp only[newFunctionEnv,Option.isSome_some,cU];refine aB (wpAny_alloc ?_);refine aB (wpAny_layCells _ (λname kind cells=>by cases hkc:kind==NameKind.cell<;>simp[hkc]) _ _ _ _ ?_)
 rw[show({s with heap:=s.heap.push {cls:= .type "dict",data:= .dict #[]}}:Shared).heap.objs.size=s.heap.objs.size+1 from jG ..]
 rw[forIn_nil];exact aB (aL<|aL hQ)
section
variable {X:Cx}{pins:List (Addr×Obj)}{σ:L2.St}{H:Hp}{s:Shared}{N:List Str}{cap:List (Option Nat)}{scope:Scope}
theorem c37 {D:Addr}{cl0:List (Str×Addr)}{h1:Heap}{m0:Str->Option Value}(S:eM X.env X.N N cap scope)(I:Inv X pins σ H s)(hf: ∀b∈fp,aS5 X pins H b)(hfs: ∀b∈fp,b<s.heap.objs.size)
  (hcl: ∀x c,cl0.lookup x=some c->X.env.cells.lookup x=some c) (hcl2: ∀y∈scope.names,y.2= .free-> ∃c,cl0.lookup y.1=some c) (hN: ∀x,N[last]? =some x->scope.names.lookup x=none)
  (hns:h1.Ns s.heap.objs.size m0) (hk: ∀b o,s.heap.get? b=some o->h1.get? b=some o)
  (c1: ∀x c,cl.lookup x=some c->cl0.lookup x=some c\/(s.heap.objs.size<c/\h1.IsCell c none)) (c2: ∀x y c,cl.lookup x=some c->cl.lookup y=some c->x=y)
  (c3: ∀x,(x,NameKind.free)∈scope.names->cl.lookup x=cl0.lookup x) (c4: ∀x,scope.names.lookup x=some .cell-> ∃c,cl.lookup x=some c) (c5: ∀x c,scope.names.lookup x=some .cell->cl.lookup x=some c->s.heap.objs.size<=c) :
  Inv (bM X N scope cl s.heap.objs.size s H fp pins) [] (wK σ cap last D) H {s with heap:=h1,toks:=tk}:=by
 have sz:X.base.objs.size<=s.heap.objs.size:=aM I.ok.bsz I.sz;have kindF: ∀x,(bM X N scope cl s.heap.objs.size s H fp pins).env.kindOf x=some .cell\/(bM X N scope cl s.heap.objs.size s H fp pins).env.kindOf x=some .free->(x,NameKind.free)∈scope.names\/scope.names.lookup x=some .cell:=λx h=>by
  have: ∃k,(k= .cell\/k= .free)/\(relabel scope X.env).names.lookup x=some k:=by
   rcases h with h|h
   .exact⟨_,.inl rfl,h⟩
   .exact⟨_,.inr rfl,h⟩
  obtain⟨k,hk,h⟩:=this;obtain⟨k',h1,h2,h3⟩:=pI h;rcases h3 with rfl|rfl
  .rcases hk with rfl|rfl
   .exact .inr (S.owns _ h2 rfl)
   .exact .inl h2
  .exact .inl h2
 have cne: ∀x c,cl.lookup x=some c-> ∀b∈fp,c≠b:=λx c h b hb=>by
  rcases c1 x c h with q| ⟨q,_⟩
  .exact(hf b hb).2.2.2.2.1 x c (hcl x c q)
  .exact λz=>by subst z;exact absurd (Nat.lt_trans q<|hfs c hb) (cQ _)
 refine⟨⟨I.ok.mod,S.kind,I.ok.glob,I.ok.blt,aG _,c2,λx h=> ?_,λx c h e=> ?_,I.ok.hd,I.ok.frames,.inl rfl,λb hb=> ?_,I.bs,sz,λb o e hb=> ?_,λb hb=> ?_,I.stack,I.stkFree⟩,
  rfl,I.bare,Un.kept hk,⟨m0,hns,λi x v e1 e2 e3=> ?_⟩,λx c h=> ?_,I.hok.fresh<|aG _,λx c h=> ?_,λp hp=> ?_,I.hok.kept hk,?_⟩
 .rcases kindF x h with q|q
  .obtain⟨c,e⟩:=hcl2 _ q rfl;exact⟨c,(c3 x q).trans e⟩
  .exact c4 x q
 .exact c5 x c (by simpa using(show(scope.names.lookup x==some NameKind.cell)=true from h)) e
 .exact⟨bL<|hfs b hb,λx c h=>cne x c h b hb⟩
 .rcases(hf b hb).2.2.2.1 with z|z
  .exact I.ok.noex b o e z
  .have:=aY e;exact absurd (bG this<|aM I.ok.bsz z) (cQ _)
 .intro z;rcases bE.mp (I.stkSub b z)with z|z
  .exact(hf b hb).2.1 z
  .exact(hf b hb).2.2.1 z
 .have e1':N[i]? =some x:=e1;unfold wK at e2
  by_cases hl:last=i
  .subst hl;have z:=hN x e1';rcases e3 with e3|e3|e3
   .obtain⟨k',h1,_⟩:=pI (show(relabel scope X.env).names.lookup x=_ from e3)
    rw[z]at h1;cases h1
   .obtain⟨k',h1,_⟩:=pI (show(relabel scope X.env).names.lookup x=_ from e3)
    rw[z]at h1;cases h1
   .obtain⟨k',h1,_⟩:=pI (show(relabel scope X.env).names.lookup x=_ from e3)
    rw[z]at h1;cases h1
  .rw[M.get_set_ne hl,bS]at e2;cases e4:cap[i]? with
   | none=>rw[e4]at e2;cases e2
   | some c=>
    rw[e4]at e2;cases c with
    | none=>cases e2
    | some j=>
     have e2':(σ[j]?).join=some v:=by simpa using e2
     have e5:σ[j]? =some (some v):=by
      cases q:σ[j]? with
      | none=>rw[q]at e2';cases e2'
      | some w=>rw[q]at e2';cases w with
       | none=>cases e2'
       | some w'=>cases e2';rfl
     obtain⟨a1,a2,a3⟩:=S.caps i j x e1' e4;have kx:=S.frees _ a2 rfl;obtain⟨m,hn,hl'⟩:=I.loc;have vis:Vis X.env.scope x:=by
      rcases kx with kx|kx
      .exact .inr (.inl kx)
      .exact .inr (.inr kx)
     obtain⟨u,r,l⟩:=hl' j x v a1 e5 vis;refine⟨u,r,.inr ⟨?_,?_⟩⟩
     .have q:=a93 (env:=X.env) a3;show(relabel scope X.env).names.lookup x=_\/(relabel scope X.env).names.lookup x=_;unfold relabel;dsimp only;rw[q];split
      .exact .inl rfl
      .exact .inr rfl
     .rcases l with⟨l,_⟩| ⟨_,c,hc,hcell⟩
      .rcases kx with kx|kx<;>·rw[kx]at l;cases l
      .obtain⟨c',hc'⟩:=hcl2 _ a2 rfl;have:=hcl x c' hc';rw[hc]at this;cases this;obtain⟨o,ho,hd⟩:=hcell;exact⟨c,(c3 x a2).trans hc',o,hk _ _ ho,hd⟩
 .rcases c1 x c h with q| ⟨_,q⟩
  .obtain⟨v,o,ho,hd⟩:=I.cell x c (hcl x c q);exact⟨v,o,hk _ _ ho,hd⟩
  .exact⟨_,q⟩
 .rcases c1 x c h with q| ⟨q,_⟩
  .exact I.freeC x c (hcl x c q)
  .exact I.hok.fresh (oG q)
 .have hp':p∈X.pn++pins:=by
   have:p∈(X.pn++pins)++[]:=hp
   simpa using this
  obtain⟨a1,a2,a3,a4,a5⟩:=I.pin p hp';refine⟨hk _ _ a1,a2,bL<|aY a1,λz=> ?_,a5⟩
  rcases bE.mp (I.stkSub p.1 z)with z|z
  .exact a3 z
  .exact a4 z
 .unfold wK;rw[eZ,aO];exact S.len
theorem bP4 {σ':L2.St}{H':Hp}{h2:Heap}{pins':List (Addr×Obj)}(I:Inv X pins σ H s)(hf: ∀b∈fp,aS5 X pins H b)(hC:s.heap.objs.size<=C)
  (I':Inv (bM X N scope cl C s H fp pins) pins' σ' H' s') (hs:SameBut C s'.heap h2):Inv X pins σ H' {s' with heap:=h2}:=by
 have nC: ∀b o,s.heap.get? b=some o->b≠C:=λb o e z=>by
  subst z;exact absurd (bG (aY e) hC) (cQ _)
 have get: ∀b,b≠C->h2.get? b=s'.heap.get? b:=λb hb=>hs.2 b hb
 have U:=I'.base;have u:Un (frs X.stack) fp H H' s.heap h2:=by
  refine⟨λb o e n h1 hx=> ?_,λb o e n h1 hx=> ?_,U.free,λb o e hx=> ?_,U.tups,U.frzs,U.tbls⟩
  .rw[get b<|nC b o e];exact U.keep b o e n h1 hx
  .rw[get b<|nC b o e];exact U.slot b o e n h1 hx
  .rw[get b<|nC b o e];exact U.there b o e hx
 have fC:H' C=none:=I'.free;have hok:HOk X.prog X.w H' h2:=λa o e=>by
  have na:a≠C:=λz=>by subst z;rw[fC]at e;cases e
  refine(I'.hok a o e).stay (λb u hb q=> ?_) (λ_ q=>q) λ_ _ q=>q
  have nb:b≠C:=by
   rcases hb with rfl|hb
   .exact na
   .exact λz=>by subst z;rw[fC]at hb;cases hb
  rw[get b nb];exact q
 obtain⟨hh,gg,dd,tt,oo⟩:=s';have eo:oo=s.os:=I'.os;subst eo;have fin:=I.call (h':=h2) (g':=gg) (d':=dd) (t':=tt) (ch:=fp) u hok I'.bare λb hb=>⟨(hf b hb).2.2.2.1,(hf b hb).2.1,(hf b hb).2.2.2.2.1,(hf b hb).2.2.2.2.2⟩
 exact fin
end
def a29 (e:Expr)(d:Nat)(target:Expr)(p0:Pos)(ifs:List Expr)(em:Sem Unit)(it acc:Value)(env:Env):Sem Fin:=do
 standAt p0
 match<-pyNext it with
 | none=>pure (.done .next)
 | some v=>
  letOwnedTupleGo target it v
  assign target env v
  let mut ok:=true
  for c in ifs do
   if ok then ok<-isTrue c env (eval c env)
  if ok then em
  again (.compLoop e d it acc env)
theorem sL {prog:Program}{w:World}{A:Around}{R:Result->Shared->Prop}{s:Shared}{elt target:Expr}{gens:List Comprehension}{ifs:List Expr}{scope:Scope}{pos p0:Pos}{d:Nat}{it acc:Value}{env:Env}{em:Sem Unit}(I:Nat->Shared->Prop)
  (hturn:compTurn (.ListComp elt gens scope pos) d it acc env=a29 (.ListComp elt gens scope pos) d target p0 ifs em it acc env)
  (turn: ∀n s,I n s->wpAny (model prog w) A (pyNext it) (λr s₁=>match r with
   | none=>R (.ok .next) s₁
   | some v=>wpAny (model prog w) A (letOwnedTupleGo target it v) (λ_ s₂=>wpAny (model prog w) A (assign target env v) (λ_ s₂=>
     wpAny (model prog w) A (forIn ifs true λc r=>if r=true then do let ok<-isTrue c env (eval c env);pure (ForInStep.yield ok)else pure (ForInStep.yield r)) (λok s₃=>
      if ok=true then wpAny (model prog w) A em (λ_ s₅=> ∃m,m<n/\I m s₅) (notedBy (model prog w) A env λe s'=>R (.error e) s') s₃
      else ∃m,m<n/\I m s₃) (notedBy (model prog w) A env λe s'=>R (.error e) s') s₂) (notedBy (model prog w) A env λe s'=>R (.error e) s') s₂) (notedBy (model prog w) A env λe s'=>R (.error e) s') s₁) (notedBy (model prog w) A env λe s'=>R (.error e) s') s)
  (n:Nat) (h:I n s):codeAny (model prog w) A (.compLoop (.ListComp elt gens scope pos) d it acc env) R s:=by
 refine codeAny_loop rfl I (λn s hI=> ?_) n h
 show wpAny _ A ((compTurn (.ListComp elt gens scope pos) d it acc env).onRaise (λx=>do noteFrame x env;theTreesLotGoes x)) _ _ s
 refine wpAny_noted ?_
 rw[hturn];unfold a29;refine aB (kI<|aB<|bF (turn n s hI) (λr s₁ h₁=> ?_) λ_ _ h'=>h')
 cases r with
 | none=>exact aL h₁
 | some v=>
  refine aB (bF h₁ (λ_ s₂ h₂=>aB (bF h₂ (λ_ s₂ h₂=>aB (bF h₂ (λok s₃ h₃=> ?_) λ_ _ h'=>h')) λ_ _ h'=>h')) λ_ _ h'=>h')
  cases ok with
  | false=>exact aL ⟨rfl,h₃⟩
  | true=>exact aB (bF h₃ (λ_ s₅ h₅=>aL ⟨rfl,h₅⟩) λ_ _ h'=>h')
def PTs (X:Cx)(ifs:List Expr)(t:TT):Prop:=
 ∀(pins:List (Addr×Obj)) (s:Shared) (σ:L2.St) (H:Hp) (Q:Bool->Hp->Prop),Inv X pins σ H s->t σ H Q->
  wpAny (model X.prog X.w) X.A (forIn ifs true λc r=>if r=true then do let ok<-isTrue c X.env (eval c X.env);pure (ForInStep.yield ok)else pure (ForInStep.yield r)) (TP X pins σ Q) X.xe s
theorem dK8 {X:Cx}:PTs X [] (λ_ H Q=>Q true H):=λpins s σ H Q I h=>wpAny_tests_nil ⟨H,I,h⟩
theorem dK9 {X:Cx}{t:TT}(h:PT X c t):PTs X [c] t:=λpins s σ H Q I q=>wpAny_tests_one (h pins s σ H Q I q)
def bB1 (cap:List (Option Nat))(last:Nat)(wi:TI)(g:TG)(tt:TT)(tem:Addr->L2.St->Hp->(L2.St->Hp->Prop)->Prop):TE:=λσ H Q=>wi σ H λJ H1=> ∀D,H1 D=none-> ∃W:Nat->Nat->L2.St->Hp->Prop,(∃m,W 0 m (wK σ cap last D)<|upd H1 D<|.lst [])/\ ∀i m σ' H',W i m σ' H'->
 (J.stop i H'/\Q (.ref D) H')\/(J.go i H'/\ ∃Nx:L2.St->Hp->Prop,(∀σ2 H2,Nx σ2 H2-> ∃m',m'<m/\W (i+1) m' σ2 H2)/\ ∀x H2,J.yld i H' x H2->g x σ' H2 λσ3 H3=>tt σ3 H3 λc H4=>
  if c=true then tem D σ3 H4 Nx else Nx σ3 H4)
def tPut (te:TE)(D:Addr)(σ:L2.St)(H:Hp)(Nx:L2.St->Hp->Prop):Prop:=te σ H λy H5=> ∃ys,H5 D=some (.lst ys)/\ys.length<sizeLine/\Nx σ (upd H5 D<|.lst<|ys++[y])
def dU7 (elt:Expr)(acc:Value)(env:Env):Sem Unit:=do let _<-call (.builtin "list.append") [acc,<-eval elt env]
def PEm (X:Cx)(em:Value->Env->Sem Unit)(tem:Addr->L2.St->Hp->(L2.St->Hp->Prop)->Prop):Prop:= ∀(D:Addr) (pins:List (Addr×Obj)) (s:Shared) (σ:L2.St) (H:Hp) (Nx:L2.St->Hp->Prop),Inv X pins σ H s->tem D σ H Nx->wpAny (model X.prog X.w) X.A (em (.ref D) X.env) (λ_ s'=> ∃σ' H',Inv X pins σ' H' s'/\Nx σ' H') X.xe s
theorem bV4 {X:Cx}{te:TE}(he:PE X elt te):PEm X (dU7 elt) (tPut te):=by
 intro D pins s σ H Nx I h;refine aB (bF (he pins s σ H _ I h) (λv s1 h1=> ?_) λ_ _ z=>z)
 obtain⟨y,H1,I1,r1,ys,e1,z1,q1⟩:=h1;refine aB (bF (bO8 (X:=X) _ s1 σ H1 (.ref D) [y] (.ref D) [v] (λv H=>v= .non/\Nx σ H) I1 rfl (.cons r1 .nil) ⟨_,ys,y,rfl,rfl,e1,z1,rfl,q1⟩) (λ_ s2 h2=> ?_) λ_ _ z=>z)
 obtain⟨_,H2,I2,_,_,q2⟩:=h2;exact aL ⟨σ,H2,I2,q2⟩
theorem bP5 {X:Cx}{RR:Value->Addr->Result->Shared->Prop}{iW:List Comprehension}{wi:TI}{g:TG}{tt:TT}{tem:Addr->L2.St->Hp->(L2.St->Hp->Prop)->Prop}(hem: ∀it acc env,compTurn (.ListComp elt (⟨tg,iter,ifs,0⟩::iW) scope pos) 0 it acc env=a29 (.ListComp elt (⟨tg,iter,ifs,0⟩::iW) scope pos) 0 tg iter.pos ifs (em acc env) it acc env)(hc:X.calm=true)(hi:PI X tg iter wi)(S:eM X.env X.N N cap scope)
  (hN: ∀x,N[last]? =some x->scope.names.lookup x=none)
  (hg: ∀cl C s H fp pins,PG (bM X N scope cl C s H fp pins) tg g) (ht: ∀cl C s H fp pins,PTs (bM X N scope cl C s H fp pins) ifs tt) (he: ∀cl C s H fp pins,PEm (bM X N scope cl C s H fp pins) em tem)
  {pins:List (Addr×Obj)} {s:Shared} {σ:L2.St} {H:Hp} {Q:VK} {cl:List (Str×Addr)} (I:Inv X pins σ H s) (h:bB1 cap last wi g tt tem σ H Q) (hcl: ∀x c,cl.lookup x=some c->X.env.cells.lookup x=some c) (hcl2: ∀y∈scope.names,y.2= .free-> ∃c,cl.lookup y.1=some c)
  (fin: ∀(D:Addr) (fp:List Addr) (H3:Hp) (s3:Shared) (σ':L2.St) (H':Hp) (s':Shared),Inv X pins σ H3 s3->(∀b∈fp,aS5 X pins H3 b)->Inv (bM X N scope (cellsFrom (s3.heap.objs.size+1) scope.names cl) s3.heap.objs.size s3 H3 fp pins) [] σ' H' s'->Q (.ref D) H'->RR (.ref D) s3.heap.objs.size (.ok .next) s') :
  wpAny (model X.prog X.w) X.A (eval iter X.env) (λx s₁=>wpAny (model X.prog X.w) X.A (pyIter x) (λit s₂=>wpAny (model X.prog X.w) X.A (newList []) (λacc s₃=>
   wpAny (model X.prog X.w) X.A (newFunctionEnv scope X.env.globals cl [] X.env.qual none .none<|some X.env) (λcenv s₄=>
    codeAny (model X.prog X.w) X.A (.compStart (.ListComp elt (⟨tg,iter,ifs,0⟩::iW) scope pos) 0 it acc {cenv with scope:=relabel scope X.env}) (RR acc cenv.locals) s₄) X.xe s₃) X.xe s₂) X.xe s₁) X.xe s:=by
 refine thn (hi pins s σ H _ I h) λxv s1 h1=>thn h1 λit s2 h2=> ?_
 obtain⟨ita,fp,tn,J,H2,rfl,I2,T,st2,f2,q⟩:=h2;refine jE ?_ (by show 0<=sizeLine;decide)
 have fD:H2 s2.heap.objs.size=none:=I2.hok.fresh (aG _);obtain⟨W,⟨m0,w0⟩,turn⟩:=q s2.heap.objs.size fD;have I3:Inv X pins σ (upd H2 s2.heap.objs.size<|.lst []) {s2 with heap:=s2.heap.push {cls:= .type "list",data:= .seq ([]:List Value).toArray}}:=I2.lnew (t':=s2.toks) .nil (cK _);have fpne: ∀b∈fp,b≠s2.heap.objs.size:=λb hb=>by
  obtain⟨o,ho,_⟩:=T.obj 0 _ st2 b hb;exact bL (aY ho)
 have f3: ∀b∈fp,aS5 X pins (upd H2 s2.heap.objs.size<|.lst []) b:=λb hb=>⟨by rw[cE<|fpne b hb];exact(f2 b hb).1,(f2 b hb).2⟩
 have k23: ∀b o,s2.heap.get? b=some o->(s2.heap.push {cls:= .type "list",data:= .seq ([]:List Value).toArray}).get? b=some o:=λb o e=>aW _ e
 have st3:tn 0 (s2.heap.push {cls:= .type "list",data:= .seq ([]:List Value).toArray}):=T.keep 0 _ _ st2 λb hb o e=>k23 b o e
 have fps: ∀b∈fp,b< (s2.heap.push {cls:= .type "list",data:= .seq ([]:List Value).toArray}).objs.size:=λb hb=>by
  obtain⟨o,ho,_⟩:=T.obj 0 _ st3 b hb;exact aY ho
 generalize hS3:({s2 with heap:=s2.heap.push {cls:= .type "list",data:= .seq ([]:List Value).toArray}}:Shared)=s3 at I3;have hh3:s3.heap=s2.heap.push {cls:= .type "list",data:= .seq ([]:List Value).toArray}:=by rw[<-hS3]
 rw[<-hh3]at st3 fps;refine bV3 ?_;have sz3:(s3.heap.push {cls:= .type "dict",data:= .dict #[]}).objs.size=s3.heap.objs.size+1:=jG ..;have hns₁:(pushCells (s3.heap.push {cls:= .type "dict",data:= .dict #[]}) scope.names).Ns s3.heap.objs.size (λ_=>none):=(Heap.Ns.new s3.heap<|.type "dict").keeps (aP2 _ _)
 have k34: ∀b o,s3.heap.get? b=some o->(pushCells (s3.heap.push {cls:= .type "dict",data:= .dict #[]}) scope.names).get? b=some o:=λb o e=>aP2 _ _ _ _ (aW _ e)
 have I4:=c37 (tk:=s3.toks) (last:=last) (D:=s2.heap.objs.size) (cl:=cellsFrom (s3.heap.objs.size+1) scope.names cl) S I3 f3 fps hcl hcl2 hN hns₁ k34
  (λx c e=>by
   rw[<-sz3]at e;rcases aZ9 _ _ _ e with q| ⟨q1,_,q3⟩
   .exact .inl q
   .exact .inr ⟨ad,q3⟩)
  (b00 _ _ _ (λx c e=>by
   obtain⟨v,q⟩:=I3.cell x c (hcl x c e);exact lJ q.lt) λx y c e1 e2=>I3.ok.inj x y c (hcl x c e1) (hcl y c e2))
  (λx m=>cells_keep _ _ _ λm'=>by
   have h1:=S.owns _ m' rfl;have h2:=S.freeK _ m rfl;rw[h1]at h2;cases h2)
  (λx e=>Option.isSome_iff_exists.mp (aM3 _ _ _<|.inl e))
  (λx c e1 e2=>by
   have:=u8 scope.names (s3.heap.objs.size+1) cl (.inl<|qQ e1) e2
   lia)
 have st4:tn 0 (pushCells (s3.heap.push {cls:= .type "dict",data:= .dict #[]}) scope.names):=T.keep 0 _ _ st3 λb hb o e=>k34 b o e
 generalize hcl':cellsFrom (s3.heap.objs.size+1) scope.names cl=cl' at I4;have loop:codeAny (model X.prog X.w) X.A (.compLoop (.ListComp elt (⟨tg,iter,ifs,0⟩::iW) scope pos) 0 (.ref ita) (.ref s2.heap.objs.size)<|compEnvC scope cl' s3.heap.objs.size X.env)
   (RR (.ref s2.heap.objs.size) s3.heap.objs.size) {s3 with heap:=pushCells (s3.heap.push {cls:= .type "dict",data:= .dict #[]}) scope.names,toks:=s3.toks}:=by
  have stat: ∀{H':Hp},(∀b∈fp,H' b=none)-> ∀b∈fp,aS5 (bM X N scope cl' s3.heap.objs.size s3 (upd H2 s2.heap.objs.size<|.lst []) fp pins) [] H' b:=λ{H'} hn b hb=>by
   refine⟨hn b hb,bL<|fps b hb,λz=> ?_,.inl hb,λx c e=>(I4.ok.exf b hb).2 x c e,λp hp=> ?_⟩
   .rcases bE.mp (I3.stkSub b z)with z|z
    .exact(f3 b hb).2.1 z
    .exact(f3 b hb).2.2.1 z
   .have:p∈(X.pn++pins)++[]:=hp;exact(f3 b hb).2.2.2.2.2 p (by simpa using this)
  have hcb:(bM X N scope cl' s3.heap.objs.size s3 (upd H2 s2.heap.objs.size<|.lst []) fp pins).calm=true:=hc;refine sL (λn s'=> ∃i σ' H',Inv (bM X N scope cl' s3.heap.objs.size s3 (upd H2 s2.heap.objs.size<|.lst []) fp pins) [] σ' H' s'/\tn i s'.heap/\(∀b∈fp,H' b=none)/\W i n σ' H') (hem _ _ _) ?_ m0 ⟨0,_,_,I4,st4,λb hb=>(f3 b hb).1,w0⟩
  rintro n s5 ⟨i,σ5,H5,I5,st5,fr5,w5⟩;rcases turn i n σ5 H5 w5 with⟨stop,qn⟩| ⟨go,Nx,hNx,step⟩
  .refine bF (T.done (bM X N scope cl' s3.heap.objs.size s3 (upd H2 s2.heap.objs.size<|.lst []) fp pins) rfl rfl rfl hcb i [] s5 σ5 H5 (λ_ _=>False) I5 (stat fr5) st5 stop) (λr s6 hr=> ?_) (λ_ _ z=>z.elim)
   obtain⟨rfl,I6⟩:=hr;exact fin _ fp _ s3 σ5 H5 s6 I3 f3 (hcl'▸I6) qn
  .refine bF (T.item (bM X N scope cl' s3.heap.objs.size s3 (upd H2 s2.heap.objs.size<|.lst []) fp pins) rfl rfl rfl hcb i [] s5 σ5 H5 (λ_ _=>False) I5 (stat fr5) st5 go) (λr s6 hr=> ?_) (λ_ _ z=>z.elim)
   obtain⟨u,rfl,h6⟩:=hr;refine bF h6 (λ_ s7 h7=> ?_) (λ_ _ z=>z.elim)
   obtain⟨x,H7,I7,r7,y7,st7,fr7⟩:=h7;have I7':=I7.pinned (stat fr7) (T.obj _ _ st7);refine bF (hg _ _ _ _ _ _ _ s7 σ5 H7 x u _ I7' r7<|step x H7 y7) (λ_ s8 h8=> ?_) (λ_ _ z=>False.elim z)
   obtain⟨σ8,H8,I8,q8⟩:=h8;have again: ∀{σ9:L2.St} {H9:Hp} {s9:Shared},Inv (bM X N scope cl' s3.heap.objs.size s3 (upd H2 s2.heap.objs.size<|.lst []) fp pins) ([]++aZ1 fp s7.heap) σ9 H9 s9->Nx σ9 H9-> ∃m,m<n/\ ∃i σ' H',Inv (bM X N scope cl' s3.heap.objs.size s3 (upd H2 s2.heap.objs.size<|.lst []) fp pins) [] σ' H' s9/\tn i s9.heap/\(∀b∈fp,H' b=none)/\W i m σ' H':=λ{σ9 H9 s9} I9 n9=>by
    obtain⟨m',hm,w9⟩:=hNx σ9 H9 n9;refine⟨m',hm,i+1,σ9,H9,I9.unpinned,T.keep _ _ _ st7 λb hb o e=>(I9.pin (b,o)<|dM _<|dM _<|rH hb e).1,λb hb=> ?_,w9⟩
    obtain⟨o,e,d⟩:=T.obj _ _ st7 b hb;exact(I9.pin (b,o)<|dM _<|dM _<|rH hb e).2.1
   refine bF (ht _ _ _ _ _ _ _ s8 σ8 H8 _ I8 q8) (λc s9 h9=> ?_) (λ_ _ z=>False.elim z)
   obtain⟨H9,I9,q9⟩:=h9;cases c with
   | false=>exact again I9 q9
   | true=>
    rw[aA rfl]at q9⊢;refine bF (he _ _ _ _ _ _ _ _ s9 σ8 H9 _ I9 q9) (λ_ s10 h10=> ?_) (λ_ _ z=>False.elim z)
    obtain⟨σ10,H10,I10,q10⟩:=h10;exact again I10 q10
 exact codeAny_compStart_list loop (T.self _ 0 _ _ _ st4 loop)
theorem aJ2 {X:Cx}{σ:L2.St}{H:Hp}(S:eM X.env X.N N cap scope)(I:Inv X pins σ H s) :
  ∃cl,closureFor scope X.env=pure cl/\(∀x c,cl.lookup x=some c->X.env.cells.lookup x=some c)/\ ∀y∈scope.names,y.2= .free-> ∃c,cl.lookup y.1=some c:=by
 obtain⟨cl,h1,h2,_,h4⟩:=a28 (env:=X.env) scope.names (λy hy hf=>I.ok.has y.1 (S.frees y hy hf)) [] (λx c q=>by simp at q)
 refine⟨cl,?_,h2,h4⟩
 have e:closureFor scope X.env=(forIn scope.names [] fun(x:Str×NameKind) r=>(do if(x.2==NameKind.free)=true then do let c<-cellOf X.env x.1;pure (ForInStep.yield ((x.1,c)::r))else pure (ForInStep.yield r)):Sem (List<|Str×Addr)) >>= λr=>pure r:=by
  rfl
 rw[e,h1];rfl
theorem dL0 {X:Cx}{iW:List Comprehension}{wi:TI}{g:TG}{tt:TT}{tem:Addr->L2.St->Hp->(L2.St->Hp->Prop)->Prop}(hem: ∀it acc env,compTurn (.ListComp elt (⟨tg,iter,ifs,0⟩::iW) scope pos) 0 it acc env=a29 (.ListComp elt (⟨tg,iter,ifs,0⟩::iW) scope pos) 0 tg iter.pos ifs (em acc env) it acc env)(hc:X.calm=true)(hi:PI X tg iter wi)(S:eM X.env X.N N cap scope)
  (hN: ∀x,N[last]? =some x->scope.names.lookup x=none)
  (hg: ∀cl C s H fp pins,PG (bM X N scope cl C s H fp pins) tg g) (ht: ∀cl C s H fp pins,PTs (bM X N scope cl C s H fp pins) ifs tt) (he: ∀cl C s H fp pins,PEm (bM X N scope cl C s H fp pins) em tem)
  (hs: ∀x,foldedSetIterable iter X.env x=pure x:=by intro _;rfl):PE X (.ListComp elt (⟨tg,iter,ifs,0⟩::iW) scope pos) (bB1 cap last wi g tt tem):=by
 intro pins s σ H Q I h;rw[eval_ListComp];obtain⟨cl,hcl0,hcl,hcl2⟩:=aJ2 S I;refine wpAny_comprehension_free (use:=none) rfl hs hcl0 S.kind S.names ?_;refine bP5 (RR:=λacc C=>compPost (model X.prog X.w) X.A X.xe none (EP X pins σ Q) acc C) hem hc hi S hN hg ht he I h hcl hcl2 λD fp H3 s3 σ' H' s' I3 f3 I' q=> ?_
 obtain⟨m6,hn6,_⟩:=I'.loc;exact⟨m6,hn6,λh' hs'=>⟨.ref D,H',bP4 I3 f3 (aG _) I' hs',rfl,q⟩⟩
theorem cF6 {X:Cx}{iW:List Comprehension}{wi:TI}{g:TG}{tt:TT}{tem:Addr->L2.St->Hp->(L2.St->Hp->Prop)->Prop}(hem: ∀it acc env,compTurn (.ListComp elt (⟨tg,iter,ifs,0⟩::iW) scope pos) 0 it acc env=a29 (.ListComp elt (⟨tg,iter,ifs,0⟩::iW) scope pos) 0 tg iter.pos ifs (em acc env) it acc env)(hc:X.calm=true)(hi:PI X tg iter wi)(S:eM X.env X.N N cap scope)
  (hN: ∀x,N[last]? =some x->scope.names.lookup x=none)
  (hg: ∀cl C s H fp pins,PG (bM X N scope cl C s H fp pins) tg g) (ht: ∀cl C s H fp pins,PTs (bM X N scope cl C s H fp pins) ifs tt) (he: ∀cl C s H fp pins,PEm (bM X N scope cl C s H fp pins) em tem)
  (hy:PG X (.Name y py) (a67 i)) (hsw:↥(swapsWith (.ListComp elt (⟨tg,iter,ifs,0⟩::iW) scope pos) (some<|.Name y py) spos.line X.env=pure true))
  (hs: ∀x,foldedSetIterable iter X.env x=pure x:=by intro _;rfl):PS X (.Assign [.Name y py] (.ListComp elt (⟨tg,iter,ifs,0⟩::iW) scope pos) spos) (dI4 (bB1 cap last wi g tt tem)<|a67 i):=by
 intro pins s σ H D I h;rw[exec_Assign_Name_used _ _ _ _ hsw];refine aB (kI<|aB ?_);obtain⟨cl,hcl0,hcl,hcl2⟩:=aJ2 S I;show wpAny _ X.A (do let _<-comprehension (.ListComp elt (⟨tg,iter,ifs,0⟩::iW) scope pos) scope X.env _ (newList []) false (eval iter X.env) (some<|assign (.Name y py) X.env)) _ _ s
 refine aB (bF (wpAny_comprehension_free (use:=some (assign (.Name y py) X.env)) (Q:=λ_ s'=>SP X pins D .next s') rfl hs hcl0 S.kind S.names ?_) (λ_ s' hq=>aL (aL hq)) λ_ _ e=>e)
 refine bP5 (RR:=λacc C=>compPost (model X.prog X.w) X.A X.xe (some<|assign (.Name y py) X.env) (λ_ s'=>SP X pins D .next s') acc C) hem hc hi S hN hg ht he I (show bB1 cap last wi g tt tem σ H (λx H1=>a67 i x σ H1 D.nx)from h) hcl hcl2 λD' fp H3 s3 σ' H' s' I3 f3 I' q=> ?_
 obtain⟨m6,hn6,_⟩:=I'.loc;obtain⟨o6,es6,ep6,ho6,rest6⟩:=id hn6;have J:Inv X pins σ H' s':=bP4 (h2:=s'.heap) I3 f3 (aG _) I' (.refl ..);have fC:H' s3.heap.objs.size=none:=I'.free;have neL:s3.heap.objs.size≠X.env.locals:=rB I3.lt;have neF:s3.heap.objs.size ∉ X.fs:=I3.nofs (aG _);have neC: ∀x c,X.env.cells.lookup x=some c->c≠s3.heap.objs.size:=λx c e z=>by
  obtain⟨v,qq⟩:=I3.cell x c e;exact absurd (bG qq.lt (by rw[z];exact aG _)) (cQ _)
 have neP: ∀p∈X.pn++pins,p.1≠s3.heap.objs.size:=λp hp z=>by
  have:=aY (I3.pin p hp).1;rw[z]at this;exact cQ _ this
 have nd: ∀v,o6.data≠ .cell v:=λv z=>by
  have:o6.data= .dict es6 ep6:=rest6.1;rw[this]at z;cases z
 have J':Inv X (pins++[(s3.heap.objs.size,o6)]) σ H' s':=J.pins_of λp hp=>(cP.mp hp).elim (λz=>J.pin p (dM _ z)) λz=>by
  have e:p=(s3.heap.objs.size,o6):=by simpa using z
  subst e;exact⟨ho6,fC,neL,neF,nd⟩
 show wpAny _ X.A (assign (.Name y py) X.env<|.ref D') _ _ _
 refine thn (hy _ s' σ H' (.ref D') (.ref D') D.nx J' rfl q) λ_ s7 ⟨σ7,H7,I7,q7⟩=> ?_
 obtain⟨e7,n7,_⟩:=I7.pin (s3.heap.objs.size,o6) (dM _<|dM _ ae)
 refine⟨m6,⟨o6,es6,ep6,e7,rest6⟩,λh' hs'=> ?_⟩
 have I8:=I7.unpinned;exact⟨σ7,H7,I8.turned (t':=s7.toks) (λb o hb e=>(hs'.2 b hb).trans e) n7 neL (.inr<|aM I3.sz<|aG _) neC neP,q7⟩
end L2
namespace M
noncomputable def dL1:B->B
 | .pu d=> .pu d
 | .ow l=> .bo l
 | .bo l=> .bo l
noncomputable def tP (ρ:Ev)(cap:List (Option Nat))(last:Nat):Ev:=(cap.map λc=>c.bind λj=>((ρ[j]?).join).map dL1).set last (some<|.ow [])
noncomputable def dL2 (ρ:Ev)(j:Nat):Ev:=match ρ[j]? with
 | some (some<|.ow l)=>ρ.set j (some<|.pu<|.lst l)
 | _=>ρ
noncomputable def a94:Ev->List Nat->Ev
 | ρ,[]=>ρ
 | ρ,j::js=>a94 (dL2 ρ j) js
theorem d42 (ρ:Ev)(j:Nat):Frz ρ (dL2 ρ j):=by
 unfold dL2;split
 .rename_i l e
  exact .set e
 .exact .refl _
theorem c38: ∀(js:List Nat) (ρ:Ev),Frz ρ (a94 ρ js)
 | [],ρ=> .refl _
 | j::js,ρ=>(d42 ρ j).trans (c38 js _)
def gG (js:List Nat)(cap:List (Option Nat))(last:Nat)(ui:UI)(g:UG)(tt:UT)(te:UE):UE:=λρ Q=>ui ρ λn it ρ1=> ∃Pv:Nat->Ev->Prop,Pv 0 (tP (a94 ρ1 js) cap last)/\
 (∀i ρ',i<n->Pv i ρ'->g (.pu<|it i) ρ' λρ2=>tt ρ2 λc ρ3=>if c=true then te ρ3 λb ρ4=>qE ρ4 last λl=>l.length<sizeLine/\Pv (i+1) (ρ4.set last<|some<|.ow<|l++[b.d])else Pv (i+1) ρ3)/\
 ∀ρ',Pv n ρ'->qE ρ' last λl=>Q (.ow l) (a94 ρ1 js)
def b01 (js:List Nat)(cap:List (Option Nat))(last:Nat)(ui:UI)(g:UG)(tt:UT)(uem:(Ev->Prop)->Ev->Prop):UE:=λρ Q=>ui ρ λn it ρ1=> ∃Pv:Nat->Ev->Prop,Pv 0 (tP (a94 ρ1 js) cap last)/\
 (∀i ρ',i<n->Pv i ρ'->g (.pu<|it i) ρ' λρ2=>tt ρ2 λc ρ3=>if c=true then uem (Pv<|i+1) ρ3 else Pv (i+1) ρ3)/\
 ∀ρ',Pv n ρ'->qE ρ' last λl=>Q (.ow l) (a94 ρ1 js)
def uPut (last:Nat)(te:UE)(Nx:Ev->Prop)(ρ:Ev):Prop:=te ρ λb ρ4=>qE ρ4 last λl=>l.length<sizeLine/\Nx (ρ4.set last<|some<|.ow<|l++[b.d])
def d43 (K:Frag)(last:Nat)(uem:(Ev->Prop)->Ev->Prop)(tem:Addr->L2.St->Hp->(L2.St->Hp->Prop)->Prop):Prop:= ∀(C:C0) (ρ:Ev) (σ:L2.St) (H:Hp) (Dn:Addr) (Nx:Ev->Prop) (NX:L2.St->Hp->Prop),EOk K C ρ σ H->σ[last]? =some (some<|.ref Dn)->uem Nx ρ->(∀ρ2 σ2 H2,EOk K C ρ2 σ2 H2->σ2[last]? =some (some<|.ref Dn)->Nx ρ2->NX σ2 H2)->tem Dn σ H NX
section
variable {X:Cx}{K:Frag}{C:C0}{ρ ρ':Ev}{σ σ':L2.St}{H H':Hp}
theorem cap_ok {Dn:Addr}(I:EOk K C ρ σ H)(hl:last<cap.length)(n:H Dn=none) :
  EOk K ⟨H,Av C ρ σ⟩ (tP ρ cap last) (wK σ cap last Dn) (upd H Dn<|.lst []):=by
 have pu: ∀(i:Nat) (z:B),last≠i->(tP ρ cap last)[i]? =some (some z)-> ∃(j:Nat) (z':B),cap[i]? =some (some j)/\z=dL1 z'/\ρ[j]? =some (some z'):=λi z ne h=>by
  unfold tP at h;rw[get_set_ne ne,bS]at h;cases e4:cap[i]? with
  | none=>rw[e4]at h;cases h
  | some c=>
   rw[e4]at h;cases c with
   | none=>cases h
   | some j=>
    have h':((ρ[j]?).join).map dL1=some z:=by simpa using h
    cases q:ρ[j]? with
    | none=>rw[q]at h';cases h'
    | some w=>
     rw[q]at h';cases w with
     | none=>cases h'
     | some w'=>cases h';exact⟨j,w',rfl,rfl,q⟩
 have sgm: ∀(i j:Nat) (v:V),last≠i->cap[i]? =some (some j)->σ[j]? =some (some v)->(wK σ cap last Dn)[i]? =some (some v):=λi j v e e1 h1=>by
  unfold wK;rw[get_set_ne e,bS,e1];show some ((σ[j]?).join)=_;rw[h1];rfl
 have atl:(tP ρ cap last)[last]? =some (some<|.ow []):=by
  unfold tP;exact iM (by rw[aO];exact hl)
 have sal:(wK σ cap last Dn)[last]? =some (some<|.ref Dn):=by
  unfold wK;exact iM (by rw[aO];exact hl)
 have noOw: ∀(i:Nat) (l:List D),last≠i->(tP ρ cap last)[i]? ≠some (some<|.ow l):=λi l e h=>by
  obtain⟨j,z',_,z,_⟩:=pu i _ e h;cases z'<;>cases z
 have own: ∀a,Own (tP ρ cap last) (wK σ cap last Dn) a->a=Dn:=λa ⟨i,l,h1,h2⟩=>by
  by_cases e:last=i
  .subst e;rw[sal]at h2;cases h2;rfl
  .exact absurd h1 (noOw i l e)
 have P:nJ (Av C ρ σ) H (Av ⟨H,Av C ρ σ⟩ (tP ρ cap last)<|wK σ cap last Dn) (upd H Dn<|.lst []):=λb o nb e=>by
  have ne:b≠Dn:=λz=>by subst z;rw[n]at e;cases e
  refine⟨?_,by rw[cE ne];exact e⟩
  rintro(z|z)
  .exact nb z
  .exact ne (own b z)
 refine⟨by unfold tP wK;rw[eZ,eZ,aO,aO],λi d h=> ?_,λi l h=> ?_,λi j l l' a h1 h2 h3 h4=> ?_,λi l h=> ?_,fJ n _,λa z=>I.avSome z⟩
 .by_cases e:last=i
  .subst e;rw[atl]at h;cases h
  .obtain⟨j,z',e1,z,e2⟩:=pu i _ e h;cases z' with
   | pu d'=>
    cases z;obtain⟨v,h1,h2⟩:=I.pu j d e2;exact⟨v,sgm i j v e e1 h1,h2.mono P⟩
   | ow l=>cases z
   | bo l=>cases z
 .by_cases e:last=i
  .subst e;rw[atl]at h;cases h;exact⟨Dn,[],sal,j0,n,.nil⟩
  .exact absurd h (noOw i l e)
 .have e1:last=i:=zN λe=>absurd h1 (noOw i l e)
  have e2:last=j:=zN λe=>absurd h2 (noOw j l' e)
  exact e1.symm.trans e2
 .by_cases e:last=i
  .subst e;rw[atl]at h;cases h
  .obtain⟨j,z',e1,z,e2⟩:=pu i _ e h;cases z' with
   | pu d'=>cases z
   | ow l'=>
    cases z;obtain⟨a,vs,h1,h2,h3,h4⟩:=I.ow j l e2;exact⟨a,vs,sgm i j _ e e1 h1,.inr ⟨j,l,e2,h1⟩,h2,h4.mono P⟩
   | bo l'=>
    cases z;obtain⟨a,vs,h1,h2,h3,h4⟩:=I.bo j l e2;exact⟨a,vs,sgm i j _ e e1 h1,.inl h2,I.ext _ _ h3,h4.mono P⟩
theorem cF7 {te:UE}:d43 K last (uPut last te) (tPut<|lE K te):=λC ρ σ H Dn Nx NX J l3 q nx=>⟨C,ρ,_,J,q,λb ρ5 v H5 q5 f5 s5 r5=>by
 have J5:=(J.frz f5).same s5;obtain⟨l,hl5,hz,q5⟩:=mM q5;obtain⟨a,vs,g1,g2,g3,g4⟩:=J5.ow last l hl5;rw[l3]at g1;cases g1;exact⟨vs,g2,by rw[<-g4.length];exact hz,nx _ _ _ (J5.write hl5 l3<|g4.append<|.cons (r5.rep λa z=>J.avF f5 z) .nil) l3 q5⟩⟩
theorem dU8 {ui:UI}{g:UG}{T:List Nat}{tt:UT}{uem:(Ev->Prop)->Ev->Prop}{tem:Addr->L2.St->Hp->(L2.St->Hp->Prop)->Prop}(em:d43 K last uem tem)(hl:last<cap.length)(hT:last ∉ T)(σ:L2.St)(H:Hp)(Q:VK)(h:lE K (b01 js cap last ui g tt uem) σ H Q) :
  bB1 cap last (lI K ui) (lG K T g) (lT K tt) tem σ H Q:=by
 obtain⟨C,ρ,Q0,I,h,k⟩:=h;refine⟨C,ρ,_,I,h,λn it ρ1 J H1 q f s ok Dn nD=> ?_⟩
 obtain⟨Pv,p0,turn,fin⟩:=q;have fz:=c38 js ρ1;have I1:EOk K C (a94 ρ1 js) σ H1:=((I.frz f).same s).frz fz;generalize a94 ρ1 js=ρ2 at fz I1 p0 fin;have P12: ∀{A':AS} {H':Hp},nJ (Av C ρ2 σ) H1 A' H'->nJ (Av C ρ1 σ) H1 A' H':=λp b o nb e=>p b o (λz=>nb (fz.av z)) e
 have I2:=cap_ok I1 hl nD;have own0: ∀{ρ':Ev} {σ':L2.St} {H':Hp},EOk K ⟨H1,Av C ρ2 σ⟩ ρ' σ' H'->nJ (Av C ρ2 σ) H1 (Av ⟨H1,Av C ρ2 σ⟩ ρ' σ') H':=λ{ρ' σ' H'} J' b o nb e=>by
  refine⟨?_,J'.ext b o e⟩
  rintro(z| ⟨i,l,h1,h2⟩)
  .exact nb z
  .obtain⟨a,vs,h3,h4,h5,_⟩:=J'.ow i l h1;rw[h2]at h3;cases h3;have e':(⟨H1,Av C ρ2 σ⟩:C0).H0 b=some o:=e;rw[h5]at e';cases e'
 have sal:(wK σ cap last Dn)[last]? =some (some<|.ref Dn):=by
  unfold wK;exact iM (by rw[aO];exact hl)
 refine⟨λi m σ' H'=>m=n-i/\i<=n/\σ'[last]? =some (some<|.ref Dn)/\ ∃ρ',EOk K ⟨H1,Av C ρ2 σ⟩ ρ' σ' H'/\Pv i ρ',⟨n,rfl,cK _,sal,_,I2,p0⟩,?_⟩
 rintro i m σ' H' ⟨rfl,hi,hlast,ρ',J',p'⟩;have P:=P12 (own0 J')
 by_cases hlt:i<n
 .refine .inr ⟨ok.go _ _ i P hlt,λσ2 H2=>σ2[last]? =some (some<|.ref Dn)/\ ∃ρ3,EOk K ⟨H1,Av C ρ2 σ⟩ ρ3 σ2 H2/\Pv (i+1) ρ3,λσ2 H2 z=>⟨n-(i+1),aa,rfl,hlt,z⟩,λx H2 y=> ?_⟩
  obtain⟨s2,r2⟩:=ok.yld _ _ i x H2 P (λa z=>J'.avSome z) hlt y
  refine⟨_,ρ',.pu<|it i,H',_,J',s2,r2,turn i ρ' hlt p',λρ3 σ3 H3 q3 J3 same3=> ?_⟩
  have l3:σ3[last]? =some (some<|.ref Dn):=(same3 last hT).trans hlast;refine⟨_,ρ3,_,J3,q3,λc ρ4 H4 q4 f4 s4=> ?_⟩
  have J4:=(J3.frz f4).same s4;cases c with
  | false=>
   dsimp only at q4⊢;rw[a9 bJ]at q4⊢;exact⟨l3,ρ4,J4,q4⟩
  | true=>
   dsimp only at q4⊢;rw[aA rfl]at q4⊢;exact em _ ρ4 _ _ Dn _ _ J4 l3 q4 λρ5 σ5 H5 J5 l5 q5=>⟨l5,ρ5,J5,q5⟩
 .have e:i=n:=aa
  subst e;obtain⟨l,hl5,q5⟩:=mM (fin ρ' p');obtain⟨a,vs,g1,g2,g3,g4⟩:=J'.ow last l hl5;rw[hlast]at g1;cases g1;refine .inl ⟨ok.stop _ _ P,k _ _ _ _ q5 (f.trans fz) (s.trans J'.ext) ⟨Dn,vs,rfl,s.free nD,g2,?_⟩⟩;refine g4.mono λb o nb e=>⟨?_,e⟩
  rintro(z|z)
  .exact nb (.inl z)
  .subst z;exact nb (.inr ⟨last,l,hl5,hlast⟩)
theorem fY: ∀{X:Cx},PTs X [] (lT X.K λρ Q=>Q true ρ):=λ{X} pins s σ H Q I ⟨C,ρ,Q0,J,h,k⟩=>dK8 pins s σ H Q I (k _ ρ H h (.refl _)<|.refl _)
theorem dL3 {t:UT}(h:PUT X c t):PTs X [c] (lT X.K t):=dK9 h
theorem d44 {iW:List Comprehension}{ui:UI}{g:UG}{T:List Nat}{tt:UT}{uem:(Ev->Prop)->Ev->Prop}{tem:Addr->L2.St->Hp->(L2.St->Hp->Prop)->Prop}(ek:d43 X.K last uem tem)(hem: ∀it acc env,compTurn (.ListComp elt (⟨tg,iter,ifs,0⟩::iW) scope pos) 0 it acc env=a29 (.ListComp elt (⟨tg,iter,ifs,0⟩::iW) scope pos) 0 tg iter.pos ifs (em acc env) it acc env)(hc:X.calm=true)(hi:PUI X tg iter ui)(S:eM X.env X.N N cap scope)
  (hN: ∀x,N[last]? =some x->scope.names.lookup x=none) (hl:last<cap.length) (hT:last ∉ T)
  (hg: ∀cl C s H fp pins,PUG (bM X N scope cl C s H fp pins) tg T g) (ht: ∀cl C s H fp pins,PTs (bM X N scope cl C s H fp pins) ifs<|lT X.K tt) (he: ∀cl C s H fp pins,PEm (bM X N scope cl C s H fp pins) em tem)
  (hs: ∀x,foldedSetIterable iter X.env x=pure x:=by intro _;rfl):PU X (.ListComp elt (⟨tg,iter,ifs,0⟩::iW) scope pos) (b01 js cap last ui g tt uem):=
 jP (dL0 (g:=lG X.K T g) (tt:=lT X.K tt) hem hc hi S hN hg ht he hs) (dU8 ek hl hT)
theorem dL4 {ui:UI}{g:UG}{T:List Nat}{tt:UT}{te:UE}(hc:X.calm=true)(hi:PUI X tg iter ui)(S:eM X.env X.N N cap scope)
  (hN: ∀x,N[last]? =some x->scope.names.lookup x=none) (hl:last<cap.length) (hT:last ∉ T)
  (hg: ∀cl C s H fp pins,PUG (bM X N scope cl C s H fp pins) tg T g) (ht: ∀cl C s H fp pins,PTs (bM X N scope cl C s H fp pins) ifs<|lT X.K tt) (he: ∀cl C s H fp pins,PU (bM X N scope cl C s H fp pins) elt te)
  (hs: ∀x,foldedSetIterable iter X.env x=pure x:=by intro _;rfl):PU X (.ListComp elt [⟨tg,iter,ifs,0⟩] scope pos) (gG js cap last ui g tt te):=
 d44 (js:=js) (cF7 (te:=te)) (λ_ _ _=>rfl) hc hi S hN hl hT hg ht (λcl C s H fp pins=>bV4 (he cl C s H fp pins)) hs
theorem b43 {iW:List Comprehension}{ui:UI}{g:UG}{T:List Nat}{tt:UT}{uem:(Ev->Prop)->Ev->Prop}{tem:Addr->L2.St->Hp->(L2.St->Hp->Prop)->Prop}(i:Nat)(ek:d43 X.K last uem tem)(hem: ∀it acc env,compTurn (.ListComp elt (⟨tg,iter,ifs,0⟩::iW) scope pos) 0 it acc env=a29 (.ListComp elt (⟨tg,iter,ifs,0⟩::iW) scope pos) 0 tg iter.pos ifs (em acc env) it acc env)(hc:X.calm=true)(hi:PUI X tg iter ui)(S:eM X.env X.N N cap scope)
  (hN: ∀x,N[last]? =some x->scope.names.lookup x=none) (hl:last<cap.length) (hT:last ∉ T)
  (hg: ∀cl C s H fp pins,PUG (bM X N scope cl C s H fp pins) tg T g) (ht: ∀cl C s H fp pins,PTs (bM X N scope cl C s H fp pins) ifs<|lT X.K tt) (he: ∀cl C s H fp pins,PEm (bM X N scope cl C s H fp pins) em tem)
  (hy:PG X (.Name y py) (a67 i)) (hi': ∀pins σ H s,Inv X pins σ H s->i<σ.length) (hsw:↥(swapsWith (.ListComp elt (⟨tg,iter,ifs,0⟩::iW) scope pos) (some<|.Name y py) spos.line X.env=pure true))
  (hs: ∀x,foldedSetIterable iter X.env x=pure x:=by intro _;rfl):PUS X (.Assign [.Name y py] (.ListComp elt (⟨tg,iter,ifs,0⟩::iW) scope pos) spos) (bV i<|b01 js cap last ui g tt uem):=by
 intro pins s σ H D I q;refine cF6 (g:=lG X.K T g) (tt:=lT X.K tt) hem hc hi S hN hg ht he hy hsw hs pins s σ H D I ?_;obtain⟨C,ρ,D0,J,h,k⟩:=q;exact dU8 ek hl hT σ H _ ⟨C,ρ,_,J,h,λb ρ1 v H1 q f s1 r=>k.nx _ _ _ q ((J.frz f).store s1 r<|hi' pins σ H s I)⟩
theorem cF8 {ui:UI}{g:UG}{T:List Nat}{tt:UT}{te:UE}(i:Nat)(hc:X.calm=true)(hi:PUI X tg iter ui)(S:eM X.env X.N N cap scope)
  (hN: ∀x,N[last]? =some x->scope.names.lookup x=none) (hl:last<cap.length) (hT:last ∉ T)
  (hg: ∀cl C s H fp pins,PUG (bM X N scope cl C s H fp pins) tg T g) (ht: ∀cl C s H fp pins,PTs (bM X N scope cl C s H fp pins) ifs<|lT X.K tt) (he: ∀cl C s H fp pins,PU (bM X N scope cl C s H fp pins) elt te)
  (hy:PG X (.Name y py) (a67 i)) (hi': ∀pins σ H s,Inv X pins σ H s->i<σ.length) (hsw:↥(swapsWith (.ListComp elt [⟨tg,iter,ifs,0⟩] scope pos) (some<|.Name y py) spos.line X.env=pure true))
  (hs: ∀x,foldedSetIterable iter X.env x=pure x:=by intro _;rfl):PUS X (.Assign [.Name y py] (.ListComp elt [⟨tg,iter,ifs,0⟩] scope pos) spos) (bV i<|gG js cap last ui g tt te):=
 b43 (js:=js) i (cF7 (te:=te)) (λ_ _ _=>rfl) hc hi S hN hl hT hg ht (λcl C s H fp pins=>bV4 (he cl C s H fp pins)) hy hi' hsw hs
end
end M
end
section
namespace L2
section
variable {X:Cx}
theorem dL5 {bs:List Bool}: ∀{its:List Value},Vals (bs.map V.bl) its->LSm.BoolsAre its bs:=by
 induction bs with
 | nil=>intro its r;cases r;exact .nil
 | cons b bs ih=>
  intro its r;cases r with
  | cons r1 r2=>
   cases r1;exact .cons b (ih r2)
theorem cF9 (hc:X.calm=true):tN X (.builtin "all") (λxs H Q=> ∃(p:Addr) (bs:List Bool),xs=[.ref p]/\SqL X.K H p (bs.map V.bl)/\Q (.bl<|bs.all id) H):=by
 intro pins s σ H xs us Q I r h;obtain⟨p,bs,rfl,hq,q⟩:=h;obtain⟨u,rfl,rx⟩:=vals1 r;cases rx;obtain⟨its,rv,pl,hz⟩:=I.list hq;have ba:=dL5 rv;refine call_all_walk (aO4 pl.isList ?_);have hne:p≠s.heap.objs.size:=by
  obtain⟨o,n,e,_⟩:=pl;exact bL (aY e)
 refine⟨s.heap.objs.size,_,_,_,_,_,λi=>(bs[i]?).getD true,rfl,Walks.list (A:=X.A.in1) (I.ok.hd hc) s.heap.objs.size p (λz=>hne z) its.toArray,⟨⟨_,bX _ rfl,rfl,rfl⟩,pl.isList.push _⟩,?_,λh' tk hk=> ?_⟩
 .intro i v s' Q' E' hP hQ;obtain⟨b,hb,rfl⟩:=ba.get i v (by simpa using hP)
  refine qW ?_
  have e:(λi=>(bs[i]?).getD true) i=b:=by simp[hb]
  dsimp only at hQ;rw[hb]at hQ;exact hQ
 .have e:=LSm.range_all bs;have hl:=ba.length;have e2:its.toArray.size=bs.length:=by rw[bI,hl]
  rw[e2,e];exact⟨.bl<|bs.all id,H,I.kept λb o e=>hk b o (by simpa using bL (aY e)) (aW _ e),rfl,q⟩
theorem cG0 (hc:X.calm=true):tN X (.builtin "sum") (λxs H Q=> ∃(p:Addr) (ns:List Int),xs=[.ref p]/\SqL X.K H p (ns.map V.int)/\Q (.int ns.sum) H):=by
 intro pins s σ H xs us Q I r h;obtain⟨p,ns,rfl,hq,q⟩:=h;obtain⟨u,rfl,rx⟩:=vals1 r;cases rx;obtain⟨its,rv,pl,hz⟩:=I.list hq;have hi:IntsAre its ns:=by simpa using intsAre_of rv
 obtain⟨xs,hx⟩:=hi.allInts.items;have hl':s.heap.IsList p (intItems xs):=hx▸pl.isList;refine sum_intListG (I.ok.hd hc) hl' λh' tk t' hk=> ?_
 have e1:ns=xs.toList.map (·.1):=by
  rw[<-nums_intItems,<-hx];exact(show numsOf its.toArray.toList=ns from hi.numsOf).symm
 have e2:preSum (numAt xs) xs.size=ns.sum:=by
  rw[preSum_eq,zR ae,e1]
 rw[e2];exact⟨.int ns.sum,H,I.kept hk,⟨_,rfl⟩,q⟩
noncomputable def u9 (esc:List (Str×NameKind))(XN N:List Str)(cap:List (Option Nat))(scope:Scope)(last:Nat):Bool:=
 (scope.kind== .function)&&scope.names.all (λy=>y.2 != .cell||scope.names.lookup y.1==some .cell)&&scope.names.all (λy=>y.2 != .free||scope.names.lookup y.1==some .free)&&scope.names.all (λy=>y.2 != .local||scope.names.lookup y.1==some .local)&&
 scope.names.all (λy=>y.2 != .free||esc.lookup y.1==some .cell||esc.lookup y.1==some .free)&&
 (N.zip cap).all (λz=>match z.2 with|none=>true|some j=>XN[j]? ==some z.1&&scope.names.contains (z.1,.free)&&scope.names.lookup z.1==some .free)&&
 (cap.length==N.length)&&(match N[last]? with|some x=>(scope.names.lookup x).isNone|none=>true)
theorem eM.of (he:env.scope.names=esc)(h:u9 esc XN N cap scope last=true) :
  eM env XN N cap scope/\ ∀x,N[last]? =some x->scope.names.lookup x=none:=by
 unfold u9 at h;simp only[dU,eI,gP]at h;obtain⟨⟨⟨⟨⟨⟨⟨h1,h2⟩,h2'⟩,h3⟩,h4⟩,h5⟩,h6⟩,h7⟩:=h;have hk: ∀x,env.kindOf x=esc.lookup x:=λx=>by unfold Env.kindOf;rw[he]
 refine⟨⟨h1,λy hy hl=>by have:=h2 y hy;rw[hl]at this;simpa using this,λy hy hl=>by have:=h2' y hy;rw[hl]at this;simpa using this,λy hy hl=> ?_,λy hy hf=> ?_,λi j x e1 e2=> ?_,h6⟩,λx e=> ?_⟩
 .have:=h3 y hy;rw[hl]at this
  simpa using this
 .have:=h4 y hy;rw[hf]at this;rw[hk]
  simpa using this
 .have hm:(x,some j)∈N.zip cap:=by
   refine zV (i:=i) ?_
   rw[List.getElem?_zip_eq_some];exact⟨e1,e2⟩
  have:=h5 _ hm;simp only[dU,gP]at this;obtain⟨⟨a,b⟩,c⟩:=this;exact⟨a,by simpa using b,c⟩
 .rw[e]at h7
  simpa using h7
end
end L2
namespace M
section
variable {X:Cx}{K:Frag}{A:AS}{H:Hp}
noncomputable def a95:List D->Option (List Bool)
 | []=>some []
 | .bl b::r=>(a95 r).map (b::·)
 | _=>none
noncomputable def b44:List D->Option (List Int)
 | []=>some []
 | .int b::r=>(b44 r).map (b::·)
 | _=>none
theorem a30 (bs:List Bool):a95 (bs.map .bl)=some bs:=by
 induction bs with
 | nil=>rfl
 | cons b bs ih=>rw[cR];show(a95<|bs.map .bl).map _=_;rw[ih];rfl
theorem bP6 (bs:List Int):b44 (bs.map .int)=some bs:=by
 induction bs with
 | nil=>rfl
 | cons b bs ih=>rw[cR];show(b44<|bs.map .int).map _=_;rw[ih];rfl
theorem bB2: ∀{l:List D} {bs:List Bool} {vs:List V},a95 l=some bs->bP K A H l vs->vs=bs.map V.bl
 | [],bs,vs,h,r=>by cases h;exact r.unnil
 | d::r,bs,vs,h,q=>by
  obtain⟨v,vr,rfl,rv,rr⟩:=q.uncons;cases d with
  | bl b=>
   have h':(a95 r).map (b::·)=some bs:=h;cases e:a95 r with
   | none=>rw[e]at h';cases h'
   | some bs'=>
    rw[e]at h';cases h';rw[a27 rv,bB2 e rr];rfl
  | _=>cases h
theorem bP7: ∀{l:List D} {bs:List Int} {vs:List V},b44 l=some bs->bP K A H l vs->vs=bs.map V.int
 | [],bs,vs,h,r=>by cases h;exact r.unnil
 | d::r,bs,vs,h,q=>by
  obtain⟨v,vr,rfl,rv,rr⟩:=q.uncons;cases d with
  | int b=>
   have h':(b44 r).map (b::·)=some bs:=h;cases e:b44 r with
   | none=>rw[e]at h';cases h'
   | some bs'=>
    rw[e]at h';cases h';rw[bQ rv,bP7 e rr];rfl
  | _=>cases h
noncomputable def cG1:List D->(B->Prop)->Prop:=g1 λd Q=>match d with
 | .lst l=>(match a95 l with
  | some bs=>Q (.pu<|.bl<|bs.all id)
  | none=>False)
 | _=>False
theorem bV5 (hc:X.calm=true):a69 X (.builtin "all") cG1:=by
 intro A H ds vs Q0 Q hA r g k;obtain⟨d,v,rfl,rfl,rv,g⟩:=aZ8 g r;cases d with
 | lst l=>
  dsimp only at g;cases e:a95 l with
  | none=>rw[e]at g;exact g.elim
  | some bs=>
   rw[e]at g;simp only[Rep]at rv;obtain⟨a,vs,rfl,n,c,rs⟩:=rv;rw[bB2 e rs]at c;exact⟨_,cF9 hc,a,bs,rfl,SqL.of c,k _ _ H g (.refl _) oK⟩
 | _=>exact(show False from g).elim
noncomputable def dL6:List D->(B->Prop)->Prop:=g1 λd Q=>match d with
 | .lst l=>(match b44 l with
  | some ns=>Q (.pu<|.int ns.sum)
  | none=>False)
 | _=>False
theorem d45 (hc:X.calm=true):a69 X (.builtin "sum") dL6:=by
 intro A H ds vs Q0 Q hA r g k;obtain⟨d,v,rfl,rfl,rv,g⟩:=aZ8 g r;cases d with
 | lst l=>
  dsimp only at g;cases e:b44 l with
  | none=>rw[e]at g;exact g.elim
  | some bs=>
   rw[e]at g;simp only[Rep]at rv;obtain⟨a,vs,rfl,n,c,rs⟩:=rv;rw[bP7 e rs]at c;exact⟨_,cG0 hc,a,bs,rfl,SqL.of c,k _ _ H g (.refl _) aS9⟩
 | _=>exact(show False from g).elim
theorem cN6 {i:Int}{t:Tok}(hg:Gl X x)(hm:X.mg x=some (.int i t))(hd:⇑((x==("__debug__":Str))=false)):PU X (.Name x p) (uC<|.int i):=
 bU7 (cM0 (v:= .int i) hg hm ⟨t,rfl⟩ hd) λA H=>by simp only[Rep]
theorem bV6:bootBuiltins "all"=some (.builtin "all"):=af
theorem d46:bootBuiltins "sum"=some (.builtin "sum"):=af
theorem a96 {ui:UI}{g:UG}{T:List Nat}{tt:UT}{te:UE}(he0:X.env.scope.names=esc)(hx0:X.N=XN)(lk:u9 esc XN N cap scope last=true)(hl:last<cap.length)(hT:last ∉ T)(hc:X.calm=true)(hi:PUI X tg iter ui)
  (hg: ∀cl C s H fp pins,PUG (bM X N scope cl C s H fp pins) tg T g) (ht: ∀cl C s H fp pins,PTs (bM X N scope cl C s H fp pins) ifs<|lT X.K tt) (he: ∀cl C s H fp pins,PU (bM X N scope cl C s H fp pins) elt te)
  (hs: ∀x,foldedSetIterable iter X.env x=pure x:=by intro _;rfl):PU X (.ListComp elt [⟨tg,iter,ifs,0⟩] scope pos) (gG js cap last ui g tt te):=
 dL4 hc hi (eM.of he0<|hx0▸lk).1 (eM.of he0<|hx0▸lk).2 hl hT hg ht he hs
theorem c39 {ui:UI}{g:UG}{T:List Nat}{tt:UT}{te:UE}(i:Nat)(he0:X.env.scope.names=esc)(hx0:X.N=XN)(lk:u9 esc XN N cap scope last=true)(hl:last<cap.length)(hT:last ∉ T)(hc:X.calm=true)(hi:PUI X tg iter ui)
  (hg: ∀cl C s H fp pins,PUG (bM X N scope cl C s H fp pins) tg T g) (ht: ∀cl C s H fp pins,PTs (bM X N scope cl C s H fp pins) ifs<|lT X.K tt) (he: ∀cl C s H fp pins,PU (bM X N scope cl C s H fp pins) elt te)
  (hy:PG X (.Name y py) (a67 i)) (hi': ∀pins σ H s,Inv X pins σ H s->i<σ.length) (hsw:↥(swapsWith (.ListComp elt [⟨tg,iter,ifs,0⟩] scope pos) (some<|.Name y py) spos.line X.env=pure true))
  (hs: ∀x,foldedSetIterable iter X.env x=pure x:=by intro _;rfl):PUS X (.Assign [.Name y py] (.ListComp elt [⟨tg,iter,ifs,0⟩] scope pos) spos) (bV i<|gG js cap last ui g tt te):=
 cF8 i hc hi (eM.of he0<|hx0▸lk).1 (eM.of he0<|hx0▸lk).2 hl hT hg ht he hy hi' hsw hs
def aT2 (te:UE):US:=λD ρ=>te ρ λ_ ρ1=>D.nx ρ1
theorem bV7 {te:UE}(he:PU X e te)(hs:↥(swapsWith e none pos.line X.env=pure false)):PUS X (.Expr e pos) (aT2 te):=
 tO (bT6 he hs) λD σ H ⟨C,ρ,D0,I,h,k⟩=>⟨C,ρ,_,I,h,λb ρ1 v H1 q f s r=>k.nx _ _ _ q ((I.frz f).same s)⟩
theorem kN: ∀ds ρ Q,qB ds ρ Q->ds.length=0:=λds ρ Q h=>by rw[h.1];rfl
theorem cH {u:UGs}(h: ∀ds ρ Q,u ds ρ Q->ds.length=n): ∀ds ρ Q,eK i u ds ρ Q->ds.length=n+1:=λds ρ Q q=>by
 cases ds with
 | nil=>exact(show False from q).elim
 | cons d r=>rw[fL,h r _ Q q.2]
end
theorem Fn.void {ps:List Str}(F:Fun K x qual st f fd)(m:mg x=some (.ref f))(b:Binds K fd ps [])(h: ∀ds Q,¬φ ds Q):Fn P w K mg base x ps 1 φ:=
 ⟨f,fd,⟨λvs H Q E ⟨_,ds,Q0,_,_,z,_⟩=>absurd z (h ds Q0),λA outer s H args us vs Q E _ _ _ _ ⟨_,ds,Q0,_,_,z,_⟩=>absurd z (h ds Q0)⟩,b,F.kp,m⟩
end M
end
section
namespace HT
open PySem PyProof.Rows
end HT
namespace L2
end L2
namespace M
section
variable {X:Cx}{K:Frag}{A:AS}{H:Hp}{e e3:Expr}{t3:UE}{pos p2:Pos}
def gIn (neg:Bool)(d e:D)(Q:B->Prop):Prop:= ∃(i:Int) (js:List Int),d= .int i/\(e= .tup (js.map D.int)\/e= .lst (js.map D.int)\/e= .rol (js.map D.int))/\Q (.pu<|.bl<|neg ^^ decide (i∈js))
theorem bP.unints: ∀{js:List Int} {vs:List V},bP K A H (js.map D.int) vs->vs=js.map V.int
 | [],_,h=>by simp only[jI,bP]at h;exact h
 | j::js,vs,h=>by
  simp only[cR,bP]at h;obtain⟨v,vr,rfl,r,rs⟩:=h;rw[bQ r,bP.unints rs];rfl
theorem d47 (i:Int)(js:List Int):inV (.int i) (js.map V.int)=decide (i∈js):=by
 unfold inV
 induction js with
 | nil=>rfl
 | cons j js ih=>
  rw[cR,any_cons,ih];show((j==i)||decide (i∈js))=decide (i∈j::js)
  by_cases h:j=i
  .subst h;simp
  .have h': ¬i=j:=λz=>h z.symm
   simp[h,h']
theorem b02 (js:List Int):(js.map V.int).all aS6=true:=by
 induction js with
 | nil=>rfl
 | cons j js ih=>rw[cR,all_cons,ih];rfl
theorem ou_inG {neg:Bool}{op:Value->Value->Sem Value}(ho:OpR X op (rIn X.K neg)):OpU X op (gIn neg):=by
 intro A H d e v w Q0 Q hA r1 r2 g k;obtain⟨i,js,rfl,he,g⟩:=g;have e1:=bQ r1;subst e1;have fin:Q (.bl<|if neg=true then !inV (.int i) (js.map V.int)else inV (.int i) (js.map V.int)) H:=by
  rw[d47];refine k _ _ H g (.refl _) ?_;cases neg
  .rw[a9 ac,o9];exact oK
  .rw[aA rfl,oB];exact oK
 rcases he with rfl|rfl|rfl
 .simp only[Rep]at r2;obtain⟨a,vs,rfl,c,rs⟩:=r2;have:=rs.unints;subst this;exact⟨_,ho,a,_,rfl,.inr<|c.imp cS id,rfl,b02 js,fin⟩
 .simp only[Rep]at r2;obtain⟨a,vs,rfl,n,c,rs⟩:=r2;have:=rs.unints;subst this;exact⟨_,ho,a,_,rfl,.inl<|SqL.of c,rfl,b02 js,fin⟩
 .simp only[Rep]at r2;obtain⟨a,vs,rfl,c,rs⟩:=r2;have:=rs.unints;subst this;exact⟨_,ho,a,_,rfl,.inl<|c.imp cS id,rfl,b02 js,fin⟩
theorem d48:OpU X (compareOp .NotIn) (gIn true):=ou_inG bU3
end
end M
end
section
namespace L2
noncomputable def Itd (lo:Int)(n:Nat):It:={go:=λi _=>i<n,yld:=λi H x H'=>H'=H/\x=V.int (lo-(i:Int)),stop:=λi _=>n<=i}
theorem bP8 (it:Addr)(lo:Int)(n:Nat):c21 P w K tg (Itd lo n) [it] it (λi h=>IsRangeIter h it (lo+(i:Nat)*(-1)) ((n:Int)-(i:Nat)) (-1)) where
 mem:=ae
 obj:=λi h st b hb=>by
  have e:b=it:=by simpa using hb
  subst e;exact⟨_,st,λv z=>by
   have z':Data.fields _=Data.cell v:=z;cases z'⟩
 keep:=λi h h' st k=>k it ae _ st
 item:=by
  intro X hP hw hK hc i pins s σ H E I hf st hg;subst hP hw hK;obtain⟨f0,f1,f2,f3,f4,f5⟩:=hf it ae
  have W:=Walks.range (prog:=X.prog) (w:=X.w) (I.ok.hd hc) it lo (-1) n;refine W.item i s _ _ hg st λv h' tk hv st' kk=> ?_
  obtain⟨t,rfl⟩:=hv;have I1:Inv X pins σ H {s with heap:=h',toks:=tk}:=I.turned (λb o hb e=>kk b o (by simpa using hb) e) f0 f1 f3 f4 f5
  refine⟨_,rfl,c22 (s:={s with heap:=h',toks:=tk}) (n:="range_iterator") st' rfl rfl ac ⟨.int<|lo-i,H,I1,⟨t,?_⟩,⟨rfl,rfl⟩,st',λb hb=>(hf b hb).1⟩⟩
  rw[show lo+((i:Nat):Int)*(-1)=lo-(i:Int)by lia]
 done:=by
  intro X hP hw hK hc i pins s σ H E I hf st hg;subst hP hw hK;obtain⟨f0,f1,f2,f3,f4,f5⟩:=hf it ae
  exact wpAny_pyNext_range_end (I.ok.hd hc) st (by have:n<=i:=hg;lia) λh' eb=>⟨rfl,I.turned (t':=s.toks) (λb o hb e=>eb b o hb e) f0 f1 f3 f4 f5⟩
 self:=λ_ _ _ _ _ st h=>aM2 st h
section
variable {X:Cx}{tg:Expr}
theorem bP9 (a b:Int):Builtin.Range.rangeSize a b (-1)=(((a-b).toNat:Nat):Int):=by
 unfold Builtin.Range.rangeSize;rw[a9 ac]
 split<;>simp<;>lia
theorem small_down {a b:Int}(h1: -(2^31)<=a)(h2:a<2^31)(h3: -(2^31)<=b)(h4:b<2^31):Builtin.Range.small a b (-1)=true:=by
 unfold Builtin.Range.small;rw[bP9];simp[Builtin.Range.rangeFitsLong];omega
theorem cG2 {σ:St}{H:Hp}{R:It->Hp->Prop}{hi:Int}{t u v:Tok}(I:Inv X pins σ H s)(h1: -(2^31)<=lo)(h2:lo<2^31)(h3: -(2^31)<=hi)(h4:hi<2^31)
  (q:R (Itd lo (lo-hi).toNat) H):wpAny (model X.prog X.w) X.A (pyIter<|.ref s.heap.objs.size) (PIE X pins σ tg R) E {s with heap:=s.heap.push {cls:= .type "range",data:= .fields #[.int lo t,.int hi u,.int (-1) v]},toks:=tk}:=by
 refine wpAny_pyIter_range (IsRange.new ..) (small_down h1 h2 h3 h4) ?_
 have I1:Inv X pins σ H {s with heap:=s.heap.push {cls:= .type "range",data:= .fields #[.int lo t,.int hi u,.int (-1) v]},toks:=tk}:=I.kept λb o e=>aW _ e
 refine⟨(s.heap.push {cls:= .type "range",data:= .fields #[.int lo t,.int hi u,.int (-1) v]}).objs.size,[(s.heap.push {cls:= .type "range",data:= .fields #[.int lo t,.int hi u,.int (-1) v]}).objs.size],_,_,H,rfl,
  I1.kept (t':=tk) λb o e=>aW _ e,bP8 _ lo (lo-hi).toNat,?_,λb hb=> ?_,q⟩
 .have e1:lo+((0:Nat):Int)*(-1)=lo:=ae
  have e2:(((lo-hi).toNat:Nat):Int)-((0:Nat):Int)=Builtin.Range.rangeSize lo hi (-1):=by rw[bP9];simp
  show IsRangeIter _ _ (lo+((0:Nat):Int)*(-1)) ((((lo-hi).toNat:Nat):Int)-((0:Nat):Int)) (-1)
  rw[e1,e2];exact bX _ rfl
 .have e:b=(s.heap.push {cls:= .type "range",data:= .fields #[.int lo t,.int hi u,.int (-1) v]}).objs.size:=by simpa using hb
  subst e;exact I1.fpOk (aG _) (I1.hok.fresh<|aG _)
def iRngD (ta:TA):TI:=λσ H R=>ta σ H λvs H1=> ∃i j:Int,vs=[.int i,.int j,.int<|-1]/\(-(2^31)<=i/\i<2^31/\ -(2^31)<=j/\j<2^31)/\R (Itd i (i-j).toNat) H1
theorem cU8 {a b:Expr}{ta:TA}(hg:Gl X "range")(hm:X.mg "range"=none)(ha:PA X [a,b,c] ta)(hs:↥(starEach [a,b,c] X.env=[(false,eval a X.env),(false,eval b X.env),(false,eval c X.env)]))(hs2:↥(starEach [b,c] X.env=[(false,eval b X.env),(false,eval c X.env)])) :
  PI X tg (.Call (.Name "range" p) [a,b,c] [] pos) (iRngD ta):=by
 intro pins s σ H R I h;refine Call_ (v8 I hg hm boot_range<|kA (thn (ha pos pins s σ H _ I h) λus s1 ⟨vs,H1,I1,r1,q1⟩=> ?_) (by rw[hs,hs2]) (by rw[hs2];rfl))
 obtain⟨i,j,e,⟨q1,q2,q3,q4⟩,q⟩:=q1;subst e;cases r1 with
 | cons r rr=>
  cases rr with
  | cons r' rr=>
   cases rr with
   | cons r'' rr=>
    cases rr;obtain⟨t,rfl⟩:=r;obtain⟨t',rfl⟩:=r';obtain⟨t'',rfl⟩:=r'';exact call_range_3 ac (cG2 I1 q1 q2 q3 q4 q) (.inl (by
     unfold Builtin.divisionGoesByPylong;simp;intro hz;have:Nat.log2 1=0:=ac
     lia))
end
end L2
namespace M
section
variable {X:Cx}{K:Frag}{H:Hp}{pos:Pos}
theorem bQ0 {A:AS}:c35 K A H (Itd lo n) n (λi=> .int (lo-i)):=
 ⟨λ_ _ _ _ h=>h,λ_ _ i x H'' _ _ _ ⟨e,y⟩=>by subst e;subst y;exact⟨.refl _,by simp only[Rep]⟩,λ_ _ _=>aG n⟩
def cN7 (ta:UA):UI:=λρ Q=>ta ρ λds ρ1=>match ds with
 | [.int i,.int j,.int m]=>m= -1/\(-(2^31)<=i/\i<2^31/\ -(2^31)<=j/\j<2^31)/\Q (i-j).toNat (λk=> .int (i-k)) ρ1
 | _=>False
theorem cU9 {a b:Expr}{ta:UA}(hg:Gl X "range")(hm:X.mg "range"=none)(ha:PUA X [a,b,c] ta)(hs:↥(starEach [a,b,c] X.env=[(false,eval a X.env),(false,eval b X.env),(false,eval c X.env)]))(hs2:↥(starEach [b,c] X.env=[(false,eval b X.env),(false,eval c X.env)])) :
  PUI X tg (.Call (.Name "range" p) [a,b,c] [] pos) (cN7 ta):=
 b41 (cU8 hg hm ha hs hs2) λσ H R ⟨C,ρ,Q0,I,h,k⟩=>⟨C,ρ,_,I,h,λds ρ1 vs H1 q f s r=>by
  split at q
  .rename_i i j m
   obtain⟨v,vr,rfl,rv,rr⟩:=r.uncons;obtain⟨w,wr,rfl,rw',rr'⟩:=rr.uncons;obtain⟨z,zr,rfl,rz,rr''⟩:=rr'.uncons;have:=rr''.unnil;subst this;have:=bQ rv;subst this;have:=bQ rw';subst this;have:=bQ rz;subst this;obtain⟨hm,hb,q⟩:=q;subst hm;exact⟨i,j,rfl,hb,k _ _ ρ1 _ H1 q f s bQ0⟩
  .exact q.elim⟩
end
end M
end
section
namespace L2
section
variable {X:Cx}{pins:List (Addr×Obj)}{σ:St}{H:Hp}{s:Shared}{h':Heap}
theorem Inv.turnedNew {o:HO}(I:Inv X pins σ H s)(k: ∀b u,b ∉ ch->s.heap.get? b=some u->h'.get? b=some u)(hf: ∀b∈ch,aS5 X pins H b)
  (hp:s.heap.objs.size<=a) (new:sI X.prog X.w (upd H a o) h' a o):Inv X pins σ (upd H a o) {s with heap:=h',toks:=t'}:=by
 have hn:H a=none:=I.hok.fresh hp;have nch: ∀b u,H b=some u->b ∉ ch:=λb u e z=>by have:=(hf b z).1;rw[e]at this;cases this
 refine I.step (g':=s.gens) (d':=s.drawn) (ch:=ch) (λb hb=>⟨(hf b hb).2.2.2.1,(hf b hb).2.1,(hf b hb).2.2.2.2.1,(hf b hb).2.2.2.2.2⟩) (λb u _ _ hc e _=>k b u hc e) (λb u _ _ hc e _=>⟨u.slots,k b u hc e⟩)
  (λb u _ e n=>by rw[cE<|bL<|bG (aY e) hp];exact n) (λb u hc e=>⟨u,k b u hc e⟩)
  (λb xs e=>by rw[cE<|dF e hn];exact e) (λb ob u e=>by rw[cE<|dF e hn];exact e) (λb ps e=>⟨#[],by rw[cE<|dF e hn,e];simp⟩) (λm hm=> ?_) (λb u e=> ?_) I.bare
 .obtain⟨ob,es,ep,ho,r⟩:=hm;exact⟨ob,es,ep,k _ ob (λz=>(hf _ z).2.1 rfl) ho,r⟩
 .by_cases hb:b=a
  .subst hb;rw[j0]at e;cases e;exact new
  .rw[cE hb]at e;refine(I.hok b u e).stay (λc v hc q=>k c v ?_ q) (λc q=>by rw[cE<|dF q hn];exact q) λc xs q=>by rw[cE<|dF q hn];exact q
   rcases hc with z|z
   .rw[z];exact nch b u e
   .exact nch c _ z
theorem Inv.turnedL (I:Inv X pins σ H s)(k: ∀b u,b ∉ ch->s.heap.get? b=some u->h'.get? b=some u)(hf: ∀b∈ch,aS5 X pins H b):Inv X pins σ H {s with heap:=h',toks:=t'}:=by
 have nch: ∀b u,H b=some u->b ∉ ch:=λb u e z=>by have:=(hf b z).1;rw[e]at this;cases this
 refine I.step (g':=s.gens) (d':=s.drawn) (ch:=ch) (λb hb=>⟨(hf b hb).2.2.2.1,(hf b hb).2.1,(hf b hb).2.2.2.2.1,(hf b hb).2.2.2.2.2⟩) (λb u _ _ hc e _=>k b u hc e) (λb u _ _ hc e _=>⟨u.slots,k b u hc e⟩)
  (λb u _ e n=>n) (λb u hc e=>⟨u,k b u hc e⟩) (λb xs e=>e) (λb ob u e=>e) (λb ps e=>⟨#[],by rw[e];simp⟩) (λm hm=> ?_) (λb u e=> ?_) I.bare
 .obtain⟨ob,es,ep,ho,r⟩:=hm;exact⟨ob,es,ep,k _ ob (λz=>(hf _ z).2.1 rfl) ho,r⟩
 .refine(I.hok b u e).stay (λc v hc q=>k c v ?_ q) (λc q=>q) λc xs q=>q
  rcases hc with z|z
  .rw[z];exact nch b u e
  .exact nch c _ z
end
def wG (T:Bool)(h:Heap)(a:Addr)(xs:Array Value):Prop:=match T with
 | false=>h.IsList a xs
 | true=>h.IsTuple a xs
def wH (T:Bool)(h:Heap)(it a:Addr)(i:Nat):Prop:=match T with
 | false=>h.IsListIter it a i
 | true=>h.IsTupleIter it a i
noncomputable def a97 (T:Bool)(a:Addr):Obj:=match T with
 | false=>{cls:= .type "list_iterator",data:= .fields #[.ref a,.int 0 0]}
 | true=>{cls:= .type "tuple_iterator",data:= .fields #[.ref a,.int 0 0]}
def SqV (K:Frag)(T:Bool)(H:Hp)(a:Addr)(xs:List V):Prop:=match T with
 | false=>SqL K H a xs
 | true=>SqT K H a xs
theorem wG.at (x:wG T h a xs)(e: ∀o,h.get? a=some o->h'.get? a=some o):wG T h' a xs:=by
 cases T<;>(obtain⟨o,ho,r⟩:=x;exact⟨o,e o ho,r⟩)
theorem wH.at (x:wH T h it a i)(e: ∀o,h.get? it=some o->h'.get? it=some o):wH T h' it a i:=by
 cases T<;>(obtain⟨o,ho,r⟩:=x;exact⟨o,e o ho,r⟩)
theorem wG.lt (x:wG T h a xs):a<h.objs.size:=by
 cases T<;>(obtain⟨o,ho,r⟩:=x;exact aY ho)
theorem wH.rec' (x:wH T h it a i): ∃o,h.get? it=some o/\ ∀v,o.data≠ .cell v:=by
 cases T<;>(obtain⟨o,ho,hc,hd⟩:=x;exact⟨o,ho,λv z=>by rw[hd]at z;cases z⟩)
theorem wH.new (h:Heap)(a:Addr):wH T (h.push<|a97 T a) h.objs.size a 0:=by
 cases T<;>exact⟨_,bX _ rfl,rfl,rfl⟩
section
variable {X:Cx}{pins:List (Addr×Obj)}{σ:St}{H:Hp}{s:Shared}
theorem Inv.sq {xs:List V}(I:Inv X pins σ H s)(h:SqV X.K T H a xs): ∃its:List Value,Vals xs its/\wG T s.heap a its.toArray/\xs.length<=sizeLine:=by
 cases T with
 | false=>obtain⟨its,rv,p,hz⟩:=I.list h;exact⟨its,rv,p.isList,hz⟩
 | true=>obtain⟨its,rv,p,hz⟩:=I.tuple h;exact⟨its,rv,p,hz⟩
theorem Inv.sq_inj {xs ys:List V}(I:Inv X pins σ H s)(h:SqV X.K T H a xs)(h':SqV X.K T H a ys):xs=ys:=by
 cases T with
 | false=>exact I.list_inj h h'
 | true=>exact I.tuple_inj h h'
end
section
variable {prog:Program}{w:World}{A:Around}{E:Value->Shared->Prop}{s:Shared}
theorem aG1 (hl:wG T s.heap a xs)(hQ:Q (.ref s.heap.objs.size) {s with heap:=s.heap.push (a97 T a)}) :
  wpAny (model prog w) A (pyIter<|.ref a) Q E s:=by
 cases T with
 | false=>exact aO4 hl hQ
 | true=>exact wpAny_pyIter_tuple hl hQ
theorem d49 {x:Value}(hit:s.heap.IsTupleIter it t i)(ht:s.heap.IsTuple t items)(hx:items[i]? =some x)
  (hQ: ∀h',h'.IsTupleIter it t (i+1)->SameBut it s.heap h'->Q x {s with heap:=h'}):wpAny (model prog w) A (Builtin.SmallTypes.nextOf<|.ref it) Q E s:=by
 obtain⟨oi,hoi,hci,hdi⟩:=id hit;obtain⟨ot,hot,_,nt,hdt⟩:=ht;unfold Builtin.SmallTypes.nextOf;refine aB (lB (name:=Str.ofString "__next__") hit.typeIs zK<|jF zK hit.typeIs PySem.F.entry_tuple_iterator_next ?_<|PySem.F.args_tuple_iterator_next_1 _);show wpAny _ _ (field (.ref it) 0 >>= _) _ _ s;refine aB (dE hoi hdi (x:= .ref t) rfl ?_)
 show wpAny _ _ (if(Value.ref t==Value.none)=true then _ else _) _ _ s;rw[a9<|show ¬((Value.ref t==Value.none)=true)from bJ]
 show wpAny _ _ (field (.ref it) 1 >>= _) _ _ s;refine aB (dE hoi hdi (x:= .int i 0) rfl ?_)
 show wpAny _ _ (seqItems? (.ref t) >>= _) _ _ s;refine aB (lL hot hdt ?_)
 simp only[eH,hx];refine aB (uX hoi hdi ae<|aL ⟨x,rfl,aL<|hQ _ ⟨_,qL _ hoi<|aM8<|qS hdi _,(Obj.cls_mapFields ..).trans hci,?_⟩<|uN ..⟩)
 rw[qS hdi];simp[rawInt]
theorem cV0 (hh:A.handled=none)(hit:s.heap.IsTupleIter it t i)(ht:s.heap.IsTuple t items)(hx:items[i]? =none)
  (hE: ∀h' e,ExtBut it s.heap h'->(∃o,h'.get? e=some o/\o.cls= .type "StopIteration")->E (.ref e) {s with heap:=h'}):wpAny (model prog w) A (Builtin.SmallTypes.nextOf<|.ref it) Q E s:=by
 obtain⟨oi,hoi,hci,hdi⟩:=id hit;obtain⟨ot,hot,_,nt,hdt⟩:=ht;unfold Builtin.SmallTypes.nextOf;refine aB (lB (name:=Str.ofString "__next__") hit.typeIs zK<|jF zK hit.typeIs PySem.F.entry_tuple_iterator_next ?_<|PySem.F.args_tuple_iterator_next_1 _);show wpAny _ _ (field (.ref it) 0 >>= _) _ _ s;refine aB (dE hoi hdi (x:= .ref t) rfl ?_)
 show wpAny _ _ (if(Value.ref t==Value.none)=true then _ else _) _ _ s;rw[a9<|show ¬((Value.ref t==Value.none)=true)from bJ]
 show wpAny _ _ (field (.ref it) 1 >>= _) _ _ s;refine aB (dE hoi hdi (x:= .int i 0) rfl ?_)
 show wpAny _ _ (seqItems? (.ref t) >>= _) _ _ s;refine aB (lL hot hdt ?_)
 simp only[eH,hx];refine aB (lN<|aB<|uX hoi hdi ae ?_)
 show wpAny _ _ (newExc (.type "StopIteration") [] >>= _) _ _ _;refine aB ?_;simp only[newExc,newTuple];refine aB (jE ?_<|by size_fits)
 refine aB (m:=firstArgMember _ _) (jL (a:=Value.none) (by first|rfl| (simp only[firstArgMember];rfl)) ?_);refine jE ?_ (by size_fits)
 simp only[raiseNew];refine aB (wpAny_handled ?_);first|rw[show A.in1.handled=none from hh]|rw[hh]
 exact aB (aL<|wpAny_throw<|hE _ _ (((uN ..).extBut.push _).push _) ⟨_,bX _ rfl,rfl⟩)
theorem b89 {T:Bool}{it a:Addr}{i:Nat}{xs:Array Value}{x:Value}{Q:Value->Shared->Prop}(hit:wH T s.heap it a i)(hl:wG T s.heap a xs)(hx:xs[i]? =some x)
  (hQ: ∀h',wH T h' it a (i+1)->SameBut it s.heap h'->Q x {s with heap:=h'}):wpAny (model prog w) A (Builtin.SmallTypes.nextOf<|.ref it) Q E s:=by
 cases T with
 | false=>exact wpAny_nextOf_list_item hit hl hx hQ
 | true=>exact d49 hit hl hx hQ
theorem bB3 {T:Bool}{it a:Addr}{i:Nat}{xs:Array Value}{Q:Value->Shared->Prop}(hh:A.handled=none)(hit:wH T s.heap it a i)(hl:wG T s.heap a xs)(hx:xs[i]? =none)
  (hE: ∀h' e,ExtBut it s.heap h'->(∃o,h'.get? e=some o/\o.cls= .type "StopIteration")->E (.ref e) {s with heap:=h'}):wpAny (model prog w) A (Builtin.SmallTypes.nextOf<|.ref it) Q E s:=by
 cases T with
 | false=>exact wpAny_nextOf_list_end hh hit hl hx hE
 | true=>exact cV0 hh hit hl hx hE
end
structure ZSt (T1 T2:Bool)(z TI TO i1 i2 l1 l2:Addr)(f0:Value)(i:Nat)(h:Heap):Prop where
 hz:IsZip h z TI TO f0
 hI:IsPair h TI (.ref i1) (.ref i2)
 hO: ∃a b,IsPair h TO a b
 h1:wH T1 h i1 l1 i
 h2:wH T2 h i2 l2 i
structure ZAp (z TI TO i1 i2:Addr):Prop where
 a:TI≠z
 b:TO≠z
 c:i1≠z
 d:i2≠z
 e:TI≠TO
 f:TI≠i1
 g:TI≠i2
 h:TO≠i1
 i:TO≠i2
 j:i1≠i2
section
variable {prog:Program}{w:World}{A:Around}{E:Value->Shared->Prop}{s:Shared}{T1 T2:Bool}{z TI TO i1 i2 l1 l2:Addr}{k:Nat}{xs ys:Array Value}
theorem d50 {x y:Value}(D:ZAp z TI TO i1 i2)(n1:l1 ∉ [z,TI,TO,i1,i2])(n2:l2 ∉ [z,TI,TO,i1,i2])(st:ZSt T1 T2 z TI TO i1 i2 l1 l2 .none k s.heap)
  (hl1:wG T1 s.heap l1 xs) (hl2:wG T2 s.heap l2 ys) (hx:xs[k]? =some x) (hy:ys[k]? =some y)
  (hQ: ∀h',ZSt T1 T2 z TI TO i1 i2 l1 l2 (rawInt s.heap.objs.size) (k+1) h'->IsPair h' s.heap.objs.size x y->(∀c o,c ∉ [z,TI,TO,i1,i2]->s.heap.get? c=some o->h'.get? c=some o)->Q (.ref s.heap.objs.size) {s with heap:=h'}) :
  wpAny (model prog w) A (Builtin.«zip.__next__» ⟨[.ref z],[]⟩) (λfin s'=> ∃v,fin= .done (.ret v)/\Q v s') E s:=by
 obtain⟨hz,hI,⟨a0,b0,hO⟩,h1,h2⟩:=st;simp only[bE,eY,fE,not_or]at n1 n2;show wpAny _ _ (field (.ref z) 2 >>= _) _ _ _;refine aB (dE hz rfl (x:= .bool false) rfl ?_);show wpAny _ _ (field (.ref z) 3 >>= _) _ _ _;refine aB (dE hz rfl (x:= .ref TI) rfl ?_);refine aB (lL hI rfl ?_);show wpAny _ _ (Builtin.SmallTypes.ownedTupleIsFree (.ref z) >>= _) _ _ _
 refine aB ?_;unfold Builtin.SmallTypes.ownedTupleIsFree;refine aB (dE hz rfl (x:= .none) rfl (aL ?_))
 simp only[cU];refine aB (lN ?_);refine aB (dE hz rfl (x:= .ref TO) rfl ?_);refine aB (qT hz ae λg1 z1 m1=> ?_);replace z1:IsZip g1 z TI TO .ellipsis:=z1
 refine aB ?_;simp only[List.zipIdx_cons,List.zipIdx_nil,a09,forIn_nil]
 refine aB (aB<|a13 ?_);show wpAny _ _ (Builtin.SmallTypes.nextOf (.ref i1) >>= _) _ _ _
 refine aB (b89 (s:={s with heap:=g1}) (h1.at λo e=>m1.extBut _ _ D.c e) (hl1.at λo e=>m1.extBut _ _ n1.1 e) hx λg2 p2 m2=>aL ?_)
 have o2:IsPair g2 TO a0 b0:=m2.extBut _ _ D.h (m1.extBut _ _ D.b hO);refine aB (lL o2 rfl ?_);refine aB (aN3 o2 λg3 o3 m3=> ?_);replace o3:IsPair g3 TO x b0:=o3
 refine aB (wpAny_letGo<|aL ?_)
 refine aB (aB<|a13 ?_);show wpAny _ _ (Builtin.SmallTypes.nextOf (.ref i2) >>= _) _ _ _
 refine aB (b89 (s:={s with heap:=g3}) (h2.at λo e=>m3.extBut _ _ D.i.symm (m2.extBut _ _ D.j.symm<|m1.extBut _ _ D.d e)) (hl2.at λo e=>m3.extBut _ _ n2.2.2.1 (m2.extBut _ _ n2.2.2.2.1<|m1.extBut _ _ n2.1 e)) hy λg4 p4 m4=>aL ?_)
 have o4:IsPair g4 TO x b0:=m4.extBut _ _ D.i o3;refine aB (lL o4 rfl ?_);refine aB (aN3 o4 λg5 o5 m5=> ?_);replace o5:IsPair g5 TO x y:=o5
 refine aB (wpAny_letGo<|aL<|aL ?_)
 refine aB (lL o5 rfl ?_);refine aB (wpAny_newTuple ?_)
 have sz:g5.objs.size=s.heap.objs.size:=by rw[m5.1,m4.1,m3.1,m2.1,m1.1]
 have z5:IsZip g5 z TI TO .ellipsis:=m5.extBut _ _ D.b.symm (m4.extBut _ _ D.d.symm<|m3.extBut _ _ D.b.symm<|m2.extBut _ _ D.c.symm z1);have keep5: ∀c o,c≠z->c≠TO->c≠i1->c≠i2->s.heap.get? c=some o->g5.get? c=some o:=λc o c1 c2 c3 c4 e=>m5.extBut _ _ c2 (m4.extBut _ _ c4<|m3.extBut _ _ c2<|m2.extBut _ _ c3<|m1.extBut _ _ c1 e)
 have q1:wH T1 g5 i1 l1 (k+1):=p2.at λo e=>m5.extBut _ _ D.h.symm (m4.extBut _ _ D.j<|m3.extBut _ _ D.h.symm e)
 have q2:wH T2 g5 i2 l2 (k+1):=p4.at λo e=>m5.extBut _ _ D.i.symm e
 have zl:z<g5.objs.size:=aY z5;show wpAny _ _ (Builtin.SmallTypes.ownedTupleHandOut (.ref z) (.ref g5.objs.size) >>= _) _ _ _;refine aB ?_;unfold Builtin.SmallTypes.ownedTupleHandOut;have z6:IsZip (g5.push {cls:= .type "tuple",data:= .seq #[x,y]}) z TI TO .ellipsis:=aW _ z5;refine aB (qT z6 ae λg7 z7 m7=> ?_);replace z7:IsZip g7 z TI TO (rawInt g5.objs.size):=z7
 refine qT z7 ae λg8 z8 m8=> ?_;replace z8:IsZip g8 z TI TO (rawInt g5.objs.size):=z8
 have up: ∀c o,c≠z->g5.get? c=some o->g8.get? c=some o:=λc o c1 e=>m8.extBut _ _ c1 (m7.extBut _ _ c1<|aW _ e)
 have t8:IsPair g8 g5.objs.size x y:=m8.extBut _ _ (rB zl) (m7.extBut _ _ (rB zl)<|bX _ rfl);rw[sz]at z8 t8;refine aL ⟨_,rfl,?_⟩;show Q (.ref g5.objs.size) _;rw[sz];refine hQ g8 ⟨z8,up _ _ D.a<|keep5 _ _ D.a D.e D.f D.g hI,⟨x,y,up _ _ D.b o5⟩,q1.at λo e=>up _ _ D.c e,q2.at λo e=>up _ _ D.d e⟩ t8 λc o nc e=> ?_
 simp only[bE,eY,fE,not_or]at nc;exact up c o nc.1 (keep5 c o nc.1 nc.2.2.1 nc.2.2.2.1 nc.2.2.2.2 e)
theorem cV1 {Q:Fin->Shared->Prop}(hh:A.handled=none)(D:ZAp z TI TO i1 i2)(n1:l1 ∉ [z,TI,TO,i1,i2])(n2:l2 ∉ [z,TI,TO,i1,i2])(st:ZSt T1 T2 z TI TO i1 i2 l1 l2 .none k s.heap)
  (hl1:wG T1 s.heap l1 xs) (hl2:wG T2 s.heap l2 ys) (hend:xs[k]? =none\/ys[k]? =none)
  (hE: ∀h' e,(∀c o,c ∉ [z,TI,TO,i1,i2]->s.heap.get? c=some o->h'.get? c=some o)->(∃o,h'.get? e=some o/\o.cls= .type "StopIteration")->E (.ref e) {s with heap:=h'}) :
  wpAny (model prog w) A (Builtin.«zip.__next__» ⟨[.ref z],[]⟩) Q E s:=by
 obtain⟨hz,hI,⟨a0,b0,hO⟩,h1,h2⟩:=st;simp only[bE,eY,fE,not_or]at n1 n2;have nin: ∀c,c ∉ [z,TI,TO,i1,i2]->c≠z/\c≠TI/\c≠TO/\c≠i1/\c≠i2:=λc h=>by simpa only[bE,eY,fE,not_or]using h
 show wpAny _ _ (field (.ref z) 2 >>= _) _ _ _;refine aB (dE hz rfl (x:= .bool false) rfl ?_)
 show wpAny _ _ (field (.ref z) 3 >>= _) _ _ _;refine aB (dE hz rfl (x:= .ref TI) rfl ?_)
 refine aB (lL hI rfl ?_);show wpAny _ _ (Builtin.SmallTypes.ownedTupleIsFree (.ref z) >>= _) _ _ _
 refine aB ?_;unfold Builtin.SmallTypes.ownedTupleIsFree;refine aB (dE hz rfl (x:= .none) rfl (aL ?_))
 simp only[cU];refine aB (lN ?_);refine aB (dE hz rfl (x:= .ref TO) rfl ?_);refine aB (qT hz ae λg1 z1 m1=> ?_);replace z1:IsZip g1 z TI TO .ellipsis:=z1
 refine aB ?_;simp only[List.zipIdx_cons,List.zipIdx_nil,a09,forIn_nil]
 refine aB (aB<|a13 ?_);show wpAny _ _ (Builtin.SmallTypes.nextOf (.ref i1) >>= _) _ _ _
 cases hx:xs[k]? with
 | none=>
  refine aB (bB3 (s:={s with heap:=g1}) hh (h1.at λo e=>m1.extBut _ _ D.c e) (hl1.at λo e=>m1.extBut _ _ n1.1 e) hx λg2 e m2 he=> ?_)
  obtain⟨oe,hoe,hce⟩:=he;have z2:IsZip g2 z TI TO .ellipsis:=m2 _ _ D.c.symm z1;have ez:e≠z:=λq=>by subst q;rw[z2]at hoe;cases hoe;simp at hce
  refine qT z2 ae λg3 _ m3=>hE g3 e (λc o nc q=> ?_) ⟨oe,m3.extBut _ _ ez hoe,hce⟩
  obtain⟨c1,c2,c3,c4,c5⟩:=nin c nc;exact m3.extBut _ _ c1 (m2 _ _ c4<|m1.extBut _ _ c1 q)
 | some x=>
  have hy:ys[k]? =none:=by rcases hend with q|q;(rw[hx]at q;cases q);exact q
  refine aB (b89 (s:={s with heap:=g1}) (h1.at λo e=>m1.extBut _ _ D.c e) (hl1.at λo e=>m1.extBut _ _ n1.1 e) hx λg2 p2 m2=>aL ?_)
  have o2:IsPair g2 TO a0 b0:=m2.extBut _ _ D.h (m1.extBut _ _ D.b hO);refine aB (lL o2 rfl ?_);refine aB (aN3 o2 λg3 o3 m3=> ?_)
  refine aB (wpAny_letGo<|aL ?_);refine aB (aB<|a13 ?_);show wpAny _ _ (Builtin.SmallTypes.nextOf (.ref i2) >>= _) _ _ _
  refine aB (bB3 (s:={s with heap:=g3}) hh (h2.at λo e=>m3.extBut _ _ D.i.symm (m2.extBut _ _ D.j.symm<|m1.extBut _ _ D.d e)) (hl2.at λo e=>m3.extBut _ _ n2.2.2.1 (m2.extBut _ _ n2.2.2.2.1<|m1.extBut _ _ n2.1 e)) hy λg4 e m4 he=> ?_)
  obtain⟨oe,hoe,hce⟩:=he;have z4:IsZip g4 z TI TO .ellipsis:=m4 _ _ D.d.symm (m3.extBut _ _ D.b.symm<|m2.extBut _ _ D.c.symm z1);have ez:e≠z:=λq=>by subst q;rw[z4]at hoe;cases hoe;simp at hce
  refine qT z4 ae λg5 _ m5=>hE g5 e (λc o nc q=> ?_) ⟨oe,m5.extBut _ _ ez hoe,hce⟩
  obtain⟨c1,c2,c3,c4,c5⟩:=nin c nc;exact m5.extBut _ _ c1 (m4 _ _ c5<|m3.extBut _ _ c3<|m2.extBut _ _ c4<|m1.extBut _ _ c1 q)
end
noncomputable def Itz (K:Frag)(T1 T2:Bool)(l1 l2:Addr):It where
 go:=λi H=> ∃xs ys x y,SqV K T1 H l1 xs/\SqV K T2 H l2 ys/\xs[i]? =some x/\ys[i]? =some y
 yld:=λi H v H'=> ∃T x y,v= .ref T/\H T=none/\H'=upd H T (.tup [x,y])/\(∀xs,SqV K T1 H l1 xs->xs[i]? =some x)/\ ∀ys,SqV K T2 H l2 ys->ys[i]? =some y
 stop:=λi H=> ∃xs ys,SqV K T1 H l1 xs/\SqV K T2 H l2 ys/\(xs.length<=i\/ys.length<=i)
theorem ZSt.objs {z TI TO i1 i2:Addr}{f0:Value}(st:ZSt T1 T2 z TI TO i1 i2 l1 l2 f0 i h): ∀b∈[z,TI,TO,i1,i2],∃o,h.get? b=some o/\ ∀v,o.data≠ .cell v:=λb hb=>by
 obtain⟨hz,hI,⟨a,c,hO⟩,h1,h2⟩:=st;simp only[bE,eY,fE]at hb;rcases hb with rfl|rfl|rfl|rfl|rfl
 .exact⟨_,hz,λv q=>by cases q⟩
 .exact⟨_,hI,λv q=>by cases q⟩
 .exact⟨_,hO,λv q=>by cases q⟩
 .exact h1.rec'
 .exact h2.rec'
theorem c40:2<=sizeLine:=ac
theorem d51 {z TI TO i1 i2:Addr}(D:ZAp z TI TO i1 i2)(n1:l1 ∉ [z,TI,TO,i1,i2])(n2:l2 ∉ [z,TI,TO,i1,i2]) :
  c21 P w K (.Tuple elts kt tp) (Itz K T1 T2 l1 l2) [z,TI,TO,i1,i2] z (ZSt T1 T2 z TI TO i1 i2 l1 l2 .none) where
 mem:=ae
 obj:=λi h st b hb=>st.objs b hb
 keep:=λi h h' st k=>by
  obtain⟨hz,hI,⟨a,c,hO⟩,h1,h2⟩:=st;exact⟨k z ae _ hz,k TI ae _ hI,⟨a,c,k TO ae _ hO⟩,h1.at λo e=>k i1 ae o e,h2.at λo e=>k i2 ae o e⟩
 item:=by
  intro X hP hw hK hc i pins s σ H E I hf st hg;subst hP hw hK;obtain⟨xs,ys,x,y,q1,q2,e1,e2⟩:=hg;obtain⟨is1,r1,p1,_⟩:=I.sq q1;obtain⟨is2,r2,p2,_⟩:=I.sq q2;obtain⟨u1,hu1,ru1⟩:=r1.get e1;obtain⟨u2,hu2,ru2⟩:=r2.get e2;have hT:s.TypeIs (.ref z) "zip":=⟨_,st.hz,rfl⟩;unfold pyNext
  refine aB (uY<|lB (name:=Str.ofString "__next__") hT zT<|jF zT hT PySem.F.entry_zip_next (d50 D n1 n2 st p1 p2 (by simpa using hu1) (by simpa using hu2) λh' st' ht k=>aL ?_)<|PySem.F.args_zip_next_1 _)
  refine⟨_,rfl,wpAny_letOwnedTupleGo_zip st'.hz λh2 hz2 m=> ?_⟩
  have kk: ∀b u,b ∉ [z,TI,TO,i1,i2]->s.heap.get? b=some u->h2.get? b=some u:=λb u nb e=>m.extBut _ _ (λq=>nb (by simp[q])) (k b u nb e)
  have hne:s.heap.objs.size≠z:=rB (aY st.hz);have ht2:IsPair h2 s.heap.objs.size u1 u2:=m.extBut _ _ hne ht;obtain⟨a',c',hO'⟩:=st'.hO;refine⟨.ref s.heap.objs.size,upd H s.heap.objs.size<|.tup [x,y],I.turnedNew (t':=s.toks) kk hf (aG _) ⟨c40,[u1,u2],.cons ru1<|.cons ru2 .nil,⟨_,ht2,rfl,_,rfl⟩⟩,rfl,
   ⟨_,x,y,rfl,I.hok.fresh<|aG _,rfl,λxs' q=>by rw[I.sq_inj q q1];exact e1,λys' q=>by rw[I.sq_inj q q2];exact e2⟩,⟨hz2,m.extBut _ _ D.a st'.hI,⟨a',c',m.extBut _ _ D.b hO'⟩,st'.h1.at λo e=>m.extBut _ _ D.c e,st'.h2.at λo e=>m.extBut _ _ D.d e⟩,λb hb=> ?_⟩
  obtain⟨o,ho,_⟩:=st.objs b hb;rw[cE<|bL<|aY ho];exact(hf b hb).1
 done:=by
  intro X hP hw hK hc i pins s σ H E I hf st hg;subst hP hw hK;obtain⟨xs,ys,q1,q2,hs⟩:=hg;obtain⟨is1,r1,p1,_⟩:=I.sq q1;obtain⟨is2,r2,p2,_⟩:=I.sq q2;have l1':=r1.length;have l2':=r2.length;have hT:s.TypeIs (.ref z) "zip":=⟨_,st.hz,rfl⟩;unfold pyNext
  refine aB (uY<|lB (name:=Str.ofString "__next__") hT zT<|jF zT hT PySem.F.entry_zip_next (cV1 (I.ok.hd hc) D n1 n2 st p1 p2 (by simp;omega) λh' e k he=> ?_)<|PySem.F.args_zip_next_1 _)
  obtain⟨o,ho,hc'⟩:=he;exact aB (wpAny_isInstance (T:="StopIteration") (b:=true) ⟨o,ho,hc'⟩ isSubtype_stop<|aL ⟨rfl,I.turnedL (t':=s.toks) k hf⟩)
 self:=λ_ _ _ _ _ st h=>wpAny_pyIter_zip st.hz h
noncomputable abbrev zg1 (T1:Bool)(h:Heap)(l1:Addr):Heap:=h.push (a97 T1 l1)
noncomputable abbrev zg2 (T1 T2:Bool)(h:Heap)(l1 l2:Addr):Heap:=(zg1 T1 h l1).push (a97 T2 l2)
noncomputable abbrev zg3 (T1 T2:Bool)(h:Heap)(l1 l2:Addr):Heap:=(zg2 T1 T2 h l1 l2).push {cls:= .type "tuple",data:= .seq #[.ref h.objs.size,.ref (zg1 T1 h l1).objs.size]}
noncomputable abbrev zg4 (T1 T2:Bool)(h:Heap)(l1 l2:Addr):Heap:=(zg3 T1 T2 h l1 l2).push {cls:= .type "tuple",data:= .seq #[.none,.none]}
noncomputable abbrev zg5 (T1 T2:Bool)(h:Heap)(l1 l2:Addr):Heap:=(zg4 T1 T2 h l1 l2).push {cls:= .type "zip",data:= .fields #[.none,.bool false,.bool false,.ref (zg2 T1 T2 h l1 l2).objs.size,.ref (zg3 T1 T2 h l1 l2).objs.size]}
theorem dL7 (T1 T2:Bool)(l1 l2:Addr)(xs ys:Array Value):Meets (Builtin.«zip.__new__» ⟨[.type "zip",.ref l1,.ref l2],[]⟩) (λ_ R s=>wG T1 s.heap l1 xs/\wG T2 s.heap l2 ys/\
  R (.ok<|.ret<|.ref (zg4 T1 T2 s.heap l1 l2).objs.size) {s with heap:=zg5 T1 T2 s.heap l1 l2}):= .of_wp λprog w A R s h=>by
 obtain⟨hp,g,d,tk,os⟩:=s;obtain⟨hl1,hl2,h⟩:=h;have hsub:=sub_zip;have e1:wG T1 (Shared.heap ⟨hp,g,d,tk,os⟩) l1 xs:=hl1;have e2:wG T2 (Shared.heap ⟨hp.push<|a97 T1 l1,g,d,tk,os⟩) l2 ys:=hl2.at λo e=>aW _ e
 wp_walk using aG1 e1,aG1 e2
 exact⟨_,rfl,h⟩
section
variable {prog:Program}{w:World}{A:Around}{E:Value->Shared->Prop}{s:Shared}
theorem d52 {ys:Array Value}(hl1:wG T1 s.heap l1 xs)(hl2:wG T2 s.heap l2 ys)
  (h: ∀h' z TI TO i1 i2,ZAp z TI TO i1 i2->(∀b∈[z,TI,TO,i1,i2],s.heap.objs.size<=b)->ZSt T1 T2 z TI TO i1 i2 l1 l2 .none 0 h'->(∀c o,s.heap.get? c=some o->h'.get? c=some o)->Q (.ref z) {s with heap:=h'}) :
  wpAny (model prog w) A (call (.type "zip") [.ref l1,.ref l2]) Q E s:=by
 refine callType_new PySem.F.called_zip ac (PySem.F.typeCall_zip_2 _ _) (PySem.F.newCall_zip_2 _ _) (λobj=>PySem.F.args_object_init_3 obj _ _) PySem.F.entry_zip_new (dL7 T1 T2 l1 l2 xs ys) ⟨hl1,hl2,?_⟩
 have z1:(zg1 T1 s.heap l1).objs.size=s.heap.objs.size+1:=jG ..;have z2:(zg2 T1 T2 s.heap l1 l2).objs.size=s.heap.objs.size+2:=by rw[jG,z1]
 have z3:(zg3 T1 T2 s.heap l1 l2).objs.size=s.heap.objs.size+3:=by rw[jG,z2]
 have z4:(zg4 T1 T2 s.heap l1 l2).objs.size=s.heap.objs.size+4:=by rw[jG,z3]
 have g5:(zg5 T1 T2 s.heap l1 l2).get? (zg4 T1 T2 s.heap l1 l2).objs.size=some _:=bX _ rfl;have g4:(zg5 T1 T2 s.heap l1 l2).get? (zg3 T1 T2 s.heap l1 l2).objs.size=some _:=aW _ (bX _ rfl);have g3:(zg5 T1 T2 s.heap l1 l2).get? (zg2 T1 T2 s.heap l1 l2).objs.size=some _:=aW _ (aW _<|bX _ rfl)
 have s2:wH T2 (zg5 T1 T2 s.heap l1 l2) (zg1 T1 s.heap l1).objs.size l2 0:=(wH.new (zg1 T1 s.heap l1) l2).at λo e=>aW _ (aW _<|aW _ e)
 have s1:wH T1 (zg5 T1 T2 s.heap l1 l2) s.heap.objs.size l1 0:=(wH.new s.heap l1).at λo e=>aW _ (aW _<|aW _<|aW _ e)
 have ap:ZAp (zg4 T1 T2 s.heap l1 l2).objs.size (zg2 T1 T2 s.heap l1 l2).objs.size (zg3 T1 T2 s.heap l1 l2).objs.size s.heap.objs.size (zg1 T1 s.heap l1).objs.size:=by
  rw[z1,z2,z3,z4];have k: ∀n a b:Nat,a≠b->n+a≠n+b:=λn a b h=>aa
  exact⟨k _ 2 4 ac,k _ 3 4 ac,k _ 0 4 ac,k _ 1 4 ac,k _ 2 3 ac,k _ 2 0 ac,k _ 2 1 ac,k _ 3 0 ac,k _ 3 1 ac,k _ 0 1 ac⟩
 refine⟨⟨_,g5,rfl⟩,h _ _ _ _ _ _ ap (λb hb=> ?_) ⟨g5,g3,⟨_,_,g4⟩,s1,s2⟩ λc o e=>aW _ (aW _<|aW _<|aW _<|aW _ e)⟩
 rw[z1,z2,z3,z4]at hb;simp only[bE,eY,fE]at hb;rcases hb with rfl|rfl|rfl|rfl|rfl<;>omega
end
section
variable {X:Cx}
def iZip (K:Frag)(ta:TA):TI:=λσ H R=>ta σ H λvs H1=> ∃l1 l2 T1 T2 xs ys,vs=[.ref l1,.ref l2]/\SqV K T1 H1 l1 xs/\SqV K T2 H1 l2 ys/\R (Itz K T1 T2 l1 l2) H1
theorem pi_zip {a b:Expr}{ta:TA}(hg:Gl X "zip")(hm:X.mg "zip"=none)(ha:PA X [a,b] ta)(hs:↥(starEach [a,b] X.env=[(false,eval a X.env),(false,eval b X.env)]))(hs2:↥(starEach [b] X.env=[(false,eval b X.env)])) :
  PI X (.Tuple elts kt tp) (.Call (.Name "zip" p) [a,b] [] pos) (iZip X.K ta):=by
 intro pins s σ H R I h;refine Call_ (v8 I hg hm PyProof.Rows.boot_zip<|kA (thn (ha pos pins s σ H _ I h) λus s1 ⟨vs,H1,I1,r1,q1⟩=> ?_) (by rw[hs,hs2]) (by rw[hs2];rfl))
 obtain⟨l1,l2,T1,T2,xs,ys,e,q1,q2,q⟩:=q1;subst e;obtain⟨u,v,rfl,r,r'⟩:=Vals.two r1;cases r;cases r';obtain⟨is1,_,p1,_⟩:=I1.sq q1;obtain⟨is2,_,p2,_⟩:=I1.sq q2;refine d52 p1 p2 λh' z TI TO i1 i2 ap fr st k=>wpAny_pyIter_zip st.hz ?_
 have nl: ∀l,l<s1.heap.objs.size->l ∉ [z,TI,TO,i1,i2]:=λl hl hb=>absurd (bG hl<|fr l hb) (cQ _)
 exact⟨z,[z,TI,TO,i1,i2],_,_,H1,rfl,I1.kept (t':=s1.toks) k,d51 ap (nl l1 p1.lt)<|nl l2 p2.lt,st,λb hb=>I1.fpOk (fr b hb) (I1.hok.fresh<|fr b hb),q⟩
end
theorem c41 (hh:A.handled=none)(it a:Addr)(hne:a≠it)(xs:Array Value):Draws prog w A it [it,a] xs.size (λi v=>xs[i]? =some v) (λi h=>wH T h it a i/\wG T h a xs) where
 live:=λ_ _ st=>let ⟨o,ho,_⟩:=st.1.rec';⟨o,ho⟩
 frame:=λ_ _ _ st k=>⟨st.1.at λo e=>k it ae o e,st.2.at λo e=>k a ae o e⟩
 item:=λi s Q E hi st hQ=>b89 st.1 st.2 (x:=xs[i]) (by simp[hi]) λh' hit' m=>hQ _ h' s.toks (by simp[hi]) ⟨hit',st.2.at λo e=>m.extBut _ _ hne e⟩ m
 done:=λs Q E st hE=>bB3 hh st.1 st.2 ae hE
noncomputable def Ite (K:Frag)(T:Bool)(l:Addr):It where
 go:=λi H=> ∃xs x,SqV K T H l xs/\xs[i]? =some x
 yld:=λi H v H'=> ∃Tn x,v= .ref Tn/\H Tn=none/\H'=upd H Tn (.tup [.int (i:Int),x])/\ ∀xs,SqV K T H l xs->xs[i]? =some x
 stop:=λi H=> ∃xs,SqV K T H l xs/\xs.length=i
def ESt (T:Bool)(e it l:Addr)(i:Nat)(h:Heap):Prop:=(∃old,IsEnum h e it i old)/\wH T h it l i
theorem ESt.objs {e:Addr}(st:ESt T e it l i h): ∀b∈[e,it],∃o,h.get? b=some o/\ ∀v,o.data≠ .cell v:=λb hb=>by
 obtain⟨⟨old,he⟩,h1⟩:=st;simp only[bE,eY,fE]at hb;rcases hb with rfl|rfl
 .exact⟨_,he,λv q=>by cases q⟩
 .exact h1.rec'
theorem cV2 {e:Addr}(hei:e≠it)(nl:l ∉ [e,it]):c21 P w K (.Tuple elts kt tp) (Ite K T l) [e,it] e (ESt T e it l) where
 mem:=ae
 obj:=λi h st b hb=>st.objs b hb
 keep:=λi h h' st k=>by
  obtain⟨⟨old,he⟩,h1⟩:=st;exact⟨⟨old,k e ae _ he⟩,h1.at λo q=>k it ae o q⟩
 item:=by
  intro X hP hw hK hc i pins s σ H E I hf st hg;subst hP hw hK;obtain⟨xs,x,q1,e1⟩:=hg;obtain⟨is1,r1,p1,_⟩:=I.sq q1;obtain⟨u1,hu1,ru1⟩:=r1.get e1;simp only[bE,eY,fE,not_or]at nl;obtain⟨⟨old,he⟩,h1⟩:=id st;have hi:i<is1.toArray.size:=by rw[bI];exact(l8.mp hu1).1
  have D:=c41 (prog:=X.prog) (w:=X.w) (A:=X.A.in1) (T:=T) (I.ok.hd hc) it l nl.2 is1.toArray;refine wpAny_pyNext_enum_itemD D he ⟨h1,p1⟩ hi hei (by simp[hei,Ne.symm nl.1]) λv h' tk hv ho hs' ht hsz k=>⟨_,rfl,wpAny_letOwnedTupleGo_enum ho λh2 he2 m=> ?_⟩
  have ev:v=u1:=by
   have:is1.toArray[i]? =some u1:=by simpa using hu1
   rw[this]at hv;cases hv;rfl
  subst ev;have hne:s.heap.objs.size≠e:=rB (aY he);have kk: ∀b u,b ∉ [e,it]->s.heap.get? b=some u->h2.get? b=some u:=λb u nb q=>by
   simp only[bE,eY,fE,not_or]at nb;exact m.extBut _ _ nb.1 (k b u nb.1 nb.2 q)
  have ht2:h2.get? s.heap.objs.size=some {cls:= .type "tuple",data:= .seq #[.int i tk,v]}:=m.extBut _ _ hne ht;refine⟨.ref s.heap.objs.size,upd H s.heap.objs.size<|.tup [.int (i:Int),x],I.turnedNew (t':=tk+1) kk hf (aG _) ⟨c40,[.int i tk,v],.cons ⟨tk,rfl⟩<|.cons ru1 .nil,⟨_,ht2,rfl,_,rfl⟩⟩,rfl,
   ⟨_,x,rfl,I.hok.fresh<|aG _,rfl,λxs' q=>by rw[I.sq_inj q q1];exact e1⟩,⟨⟨_,by simpa using he2⟩,hs'.1.at λo q=>m.extBut _ _ (Ne.symm hei) q⟩,λb hb=> ?_⟩
  obtain⟨o,ho',_⟩:=st.objs b hb;rw[cE<|bL<|aY ho'];exact(hf b hb).1
 done:=by
  intro X hP hw hK hc i pins s σ H E I hf st hg;subst hP hw hK;obtain⟨xs,q1,hl⟩:=hg;obtain⟨is1,r1,p1,_⟩:=I.sq q1;have l1':=r1.length;simp only[bE,eY,fE,not_or]at nl;obtain⟨⟨old,he⟩,h1⟩:=id st;have D:=c41 (prog:=X.prog) (w:=X.w) (A:=X.A.in1) (T:=T) (I.ok.hd hc) it l nl.2 is1.toArray
  refine wpAny_pyNext_enum_endD D he ⟨by rw[bI,<-l1',hl];exact h1,p1⟩ λh' ex=>⟨rfl,I.turnedL (t':=s.toks) (λb u nb q=>ex b u (λz=>nb (by simp[z])) q) hf⟩
 self:=λ_ _ _ _ _ st h=>by
  obtain⟨⟨old,he⟩,_⟩:=st;exact wpAny_pyIter_enum he h
theorem cV3 (l:Addr)(xs:Array Value):Meets (Builtin.«enumerate.__new__» ⟨[.type "enumerate",.ref l],[]⟩) (λ_ R s=>s.heap.IsTuple l xs/\
  R (.ok<|.ret<|.ref (s.heap.push<|a97 true l).objs.size) {s with heap:=(s.heap.push<|a97 true l).push {cls:= .type "enumerate",data:= .fields #[.none,.bool false,.ref s.heap.objs.size,rawInt 0,.none,.none]}}):= .of_wp λprog w A R s h=>by
 obtain⟨hp,g,d,tk,os⟩:=s;obtain⟨hl,h⟩:=h;obtain⟨⟨c,dct,dt,sl⟩,hg,hc,n,hd⟩:=id hl
 replace hc:c= .type "tuple":=hc
 replace hd:dt= .seq xs n:=hd
 subst hc hd;have hsub:=sub_enumerate;have e1:wG true (Shared.heap ⟨hp,g,d,tk,os⟩) l xs:=hl
 wp_walk using aL6 hg
 refine wpAny_stack_any λst=>aL ?_
 split
 .rename_i c _ _ _ _ _
  cases (c==Value.type "enumerate")<;>(wp_walk using aL6 hg,aG1 e1;exact⟨_,rfl,h⟩)
 .wp_walk using aL6 hg,aG1 e1
  exact⟨_,rfl,h⟩
section
variable {prog:Program}{w:World}{A:Around}{E:Value->Shared->Prop}{s:Shared}
theorem cV4 {T:Bool}{l:Addr}{xs:Array Value}{Q:Value->Shared->Prop}(hl:wG T s.heap l xs)
  (h: ∀h' e it,e≠it->s.heap.objs.size<=e->s.heap.objs.size<=it->ESt T e it l 0 h'->(∀c o,s.heap.get? c=some o->h'.get? c=some o)->Q (.ref e) {s with heap:=h'}) :
  wpAny (model prog w) A (call (.type "enumerate") [.ref l]) Q E s:=by
 cases T with
 | false=>exact call_enumerate_list hl λh' he hit hsz k=>h h' _ _ aa aa aa ⟨⟨_,he⟩,hit⟩ k
 | true=>
  refine callType_new PySem.F.called_enumerate ac (PySem.F.typeCall_enumerate_1 _) (PySem.F.newCall_enumerate_1 _) (λobj=>PySem.F.args_object_init_2 obj _) PySem.F.entry_enumerate_new (cV3 l xs) ⟨hl,?_⟩
  have z1:(s.heap.push<|a97 true l).objs.size=s.heap.objs.size+1:=jG ..;have he:IsEnum ((s.heap.push<|a97 true l).push {cls:= .type "enumerate",data:= .fields #[.none,.bool false,.ref s.heap.objs.size,rawInt 0,.none,.none]}) (s.heap.push<|a97 true l).objs.size s.heap.objs.size 0 .none:=bX _ rfl
  have hi:wH true ((s.heap.push<|a97 true l).push {cls:= .type "enumerate",data:= .fields #[.none,.bool false,.ref s.heap.objs.size,rawInt 0,.none,.none]}) s.heap.objs.size l 0:=(wH.new (T:=true) s.heap l).at λo e=>aW _ e
  exact⟨⟨_,he,rfl⟩,h _ _ _ (by rw[z1];omega) (by rw[z1];omega) (aG _) ⟨⟨_,he⟩,hi⟩ λc o e=>aW _ (aW _ e)⟩
end
section
variable {X:Cx}
def iEnum (K:Frag)(ta:TA):TI:=λσ H R=>ta σ H λvs H1=> ∃l T xs,vs=[.ref l]/\SqV K T H1 l xs/\R (Ite K T l) H1
theorem dL8 {a:Expr}{ta:TA}(hg:Gl X "enumerate")(hm:X.mg "enumerate"=none)(ha:PA X [a] ta)(hs:↥(starEach [a] X.env=[(false,eval a X.env)])) :
  PI X (.Tuple elts kt tp) (.Call (.Name "enumerate" p) [a] [] pos) (iEnum X.K ta):=by
 intro pins s σ H R I h;refine Call_ (v8 I hg hm PyProof.Rows.boot_enumerate<|kA (thn (ha pos pins s σ H _ I h) λus s1 ⟨vs,H1,I1,r1,q1⟩=> ?_) hs rfl)
 obtain⟨l,T,xs,e,q1,q⟩:=q1;subst e;obtain⟨u,rfl,r⟩:=vals1 r1;cases r;obtain⟨is1,_,p1,_⟩:=I1.sq q1;refine cV4 p1 λh' e it ne f1 f2 st k=> ?_
 obtain⟨⟨old,he⟩,_⟩:=id st;refine wpAny_pyIter_enum he ?_;have lt:=p1.lt;have fr: ∀b∈[e,it],s1.heap.objs.size<=b:=λb hb=>by
  simp only[bE,eY,fE]at hb;rcases hb with rfl|rfl
  .exact f1
  .exact f2
 exact⟨e,[e,it],_,_,H1,rfl,I1.kept (t':=s1.toks) k,cV2 ne λhb=>absurd (bG lt<|fr l hb) (cQ _),st,λb hb=>I1.fpOk (fr b hb) (I1.hok.fresh<|fr b hb),q⟩
end
theorem b64:isSubtype (.type "range_iterator") (.type "reversed")=pure false:=by rw[r8];kernel_rfl
theorem b03 {n:Int}(h1: -(2^31)<=n)(h2:n<2^31):Builtin.Range.rangeFitsLong n=true:=by
 simp[Builtin.Range.rangeFitsLong]
 lia
noncomputable def aT3 (n:Int):Obj:={cls:= .type "range_iterator",data:= .fields #[rawInt<|(n.toNat:Int)-1,rawInt (n.toNat:Int),rawInt<|-1]}
theorem bK6 (r:Addr)(a b c:Int)(t u v:Tok)(hc0: ¬(!(Builtin.Range.rangeFitsLong a&&Builtin.Range.rangeFitsLong b&&Builtin.Range.rangeFitsLong c&&Builtin.Range.rangeFitsLong (-c)&&Builtin.Range.rangeFitsLong (a-c)&&Builtin.Range.rangeFitsLong (Builtin.Range.rangeSize a b c)))=true) :
  Meets (Builtin.«range.__reversed__» ⟨[.ref r],[]⟩) (λ_ R s=>s.heap.get? r=some {cls:= .type "range",dict:=none,data:= .fields #[.int a t,.int b u,.int c v],slots:= #[]}/\
  R (.ok<|.ret<|Value.ref s.heap.objs.size) {s with heap:=s.heap.push {cls:=Value.type (if(Builtin.Range.rangeFitsLong a&&Builtin.Range.rangeFitsLong b&&Builtin.Range.rangeFitsLong c&&Builtin.Range.rangeFitsLong (-c)&&Builtin.Range.rangeFitsLong (a-c)&&Builtin.Range.rangeFitsLong (Builtin.Range.rangeSize a b c))=true then "range_iterator" else "longrange_iterator"),data:=Data.fields #[rawInt<|a+(Builtin.Range.rangeSize a b c-1)*c,rawInt<|Builtin.Range.rangeSize a b c,rawInt<|-c]},toks:=s.toks}):= .of_wp λprog w A R s h=>by
 obtain⟨hp,g,d,tk,os⟩:=s;obtain⟨hl,h⟩:=h
 wp_walk
 exact⟨_,rfl,h⟩
theorem b65 (r:Addr)(n:Int)(t u v:Tok)(h1: -(2^31)<=n)(h2:n<2^31):Meets (Builtin.«range.__reversed__» ⟨[.ref r],[]⟩) (λ_ R s=>IsRange s.heap r 0 n 1 t u v/\
  R (.ok<|.ret<|.ref s.heap.objs.size) {s with heap:=s.heap.push (aT3 n)}):=by
 have e0:Builtin.Range.rangeSize 0 n 1=(n.toNat:Int):=by rw[rangeSize_one];split<;>lia
 have sm:(Builtin.Range.rangeFitsLong 0&&Builtin.Range.rangeFitsLong n&&Builtin.Range.rangeFitsLong 1&&Builtin.Range.rangeFitsLong (-1)&&Builtin.Range.rangeFitsLong (0-1)&&Builtin.Range.rangeFitsLong (Builtin.Range.rangeSize 0 n 1))=true:=by
  rw[e0,b03 h1 h2,b03 (n:=0) ac ac,b03 (n:=1) ac ac,b03 (n:= -1) ac ac,b03 (n:=0-1) ac ac,b03 (n:=(n.toNat:Int)) ad ad]
  rfl
 have G:=bK6 r 0 n 1 t u v (by rw[sm];decide)
 intro prog w A R s h;refine G prog w A R s ⟨h.1,?_⟩;rw[sm,aA rfl,e0];have e1:(0:Int)+((n.toNat:Int)-1)*1=(n.toNat:Int)-1:=ad
 rw[e1];exact h.2
section
variable {prog:Program}{w:World}{A:Around}{E:Value->Shared->Prop}{s:Shared}
theorem c42 {r:Addr}{n:Int}{t u v:Tok}{Q₁:Value->Shared->Prop}(hr:IsRange s.heap r 0 n 1 t u v)(h1: -(2^31)<=n)(h2:n<2^31)
  (h:Q₁ (.ref s.heap.objs.size) {s with heap:=s.heap.push (aT3 n)}) :
  codeAny (model prog w) A (.call (.builtin "reversed.__new__") ⟨[.type "reversed",.ref r],[]⟩) (wants Q₁ E) s:=by
 have hT:s.TypeIs (.ref r) "range":=⟨_,hr,rfl⟩;refine aP3 ?_;show wpAny _ A.in1 (do checkBuiltinCall "reversed.__new__" ⟨[.type "reversed",.ref r],[]⟩;again (.builtin "reversed.__new__" ⟨[.type "reversed",.ref r],[]⟩)) _ _ s;refine aB (jL (PySem.F.newCall_reversed_1 _)<|aL ⟨plainId_quiet PySem.F.plain_reversed_new _,codeAny_builtin PySem.F.entry_reversed_new ?_⟩)
 rw[Around.under_plainId PySem.F.plain_reversed_new _];unfold Builtin.«reversed.__new__»;refine aB (jL (newClass_reversed _) ?_);try dsimp only
 refine aB (jL (a:=()) (by first|rfl|kernel_rfl) ?_);refine aB (jL (a:=()) (by first|rfl|kernel_rfl) ?_);try dsimp only
 refine aB (wpAny_specialOf hT PySem.F.slot_range_reversed.lookup ?_);try dsimp only
 refine aB (jL (PySem.F.slot_range_reversed.bind _) ?_);try dsimp only
 first
 | rw[a9<|show ¬((Value.builtin "range.__reversed__"==Value.none)=true)from bJ]
 | (show wpAny _ _ (if(Value.builtin "range.__reversed__"==Value.none)=true then _ else _) _ _ _;rw[a9<|show ¬((Value.builtin "range.__reversed__"==Value.none)=true)from bJ])
 refine aB (lN ?_)
 refine aB (m:=runValue (.call (.builtin "range.__reversed__") ⟨[.ref r],[]⟩)) (show wpAny _ _ (call (.builtin "range.__reversed__") [.ref r]) _ _ _ from lP PySem.F.slot_range_reversed hT PySem.F.entry_range_reversed (PySem.F.args_range_reversed_1 _) (b65 r n t u v h1 h2) ⟨hr,?_⟩)
 first
 | exact aL h
 | exact aB (aL<|aL h)
theorem dL9 {r:Addr}{n:Int}{t u v:Tok}(hr:IsRange s.heap r 0 n 1 t u v)(h1: -(2^31)<=n)(h2:n<2^31)(h:Q (.ref s.heap.objs.size) {s with heap:=s.heap.push (aT3 n)}) :
  wpAny (model prog w) A (call (.type "reversed") [.ref r]) Q E s:=by
 refine callType_other (U:="range_iterator") (Q₁:=λobj s₁=>obj= .ref s.heap.objs.size/\s₁={s with heap:=s.heap.push (aT3 n)}) af PySem.F.create_reversed ⟨_,_,PySem.F.mro_reversed⟩ PySem.F.made_reversed b64 (PySem.F.typeCall_reversed_1 _) (c42 hr h1 h2 ⟨rfl,rfl⟩) ?_
 rintro obj s₁ ⟨rfl,rfl⟩;exact⟨⟨_,bX _ rfl,rfl⟩,h⟩
end
section
variable {X:Cx}{tg:Expr}
def iRevR (ta:TA):TI:=λσ H R=>ta σ H λvs H1=> ∃j:Int,vs=[.int j]/\ -(2^31)<=j/\j<2^31/\R (Itd ((j.toNat:Int)-1) j.toNat) H1
theorem c43 {a:Expr}{ta:TA}{pos2:Pos}(hg:Gl X "reversed")(hm:X.mg "reversed"=none)(hg2:Gl X "range")(hm2:X.mg "range"=none)(ha:PA X [a] ta)(hs:↥(starEach [a] X.env=[(false,eval a X.env)]))
  (hs2:↥(starEach [.Call (.Name "range" p2) [a] [] pos2] X.env=[(false,eval (.Call (.Name "range" p2) [a] [] pos2) X.env)])) :
  PI X tg (.Call (.Name "reversed" p) [.Call (.Name "range" p2) [a] [] pos2] [] pos) (iRevR ta):=by
 intro pins s σ H R I h;refine Call_ (v8 I hg hm PyProof.Rows.boot_reversed<|kA ?_ hs2 rfl);rw[hs2];show wpAny _ _ (spliced ((false,eval (.Call (.Name "range" p2) [a] [] pos2) X.env)::[])) _ _ s;refine Calls.spliced_cons (Call_<|v8 I hg2 hm2 boot_range<|kA (thn (ha pos2 pins s σ H _ I h) λus s1 ⟨vs,H1,I1,r1,q1⟩=> ?_) hs rfl)
 obtain⟨j,e,q1,q2,q⟩:=q1;subst e;obtain⟨u,rfl,t,rfl⟩:=vals1 r1;refine call_range_1 (Calls.spliced_nil ?_);have I2:Inv X pins σ H1 {s1 with heap:=s1.heap.push {cls:= .type "range",data:= .fields #[.int 0 s1.toks,.int j t,.int 1<|s1.toks+1]},toks:=s1.toks+1+1}:=I1.kept λb o e=>aW _ e
 refine dL9 (IsRange.new ..) q1 q2 ?_
 have hi:IsRangeIter (((s1.heap.push {cls:= .type "range",data:= .fields #[.int 0 s1.toks,.int j t,.int 1<|s1.toks+1]})).push<|aT3 j) (s1.heap.push {cls:= .type "range",data:= .fields #[.int 0 s1.toks,.int j t,.int 1<|s1.toks+1]}).objs.size ((j.toNat:Int)-1) (j.toNat:Int) (-1):=bX _ rfl;refine aM2 hi ?_
 refine⟨_,[(s1.heap.push {cls:= .type "range",data:= .fields #[.int 0 s1.toks,.int j t,.int 1<|s1.toks+1]}).objs.size],_,_,H1,rfl,I2.kept (t':=s1.toks+1+1) λb o e=>aW _ e,bP8 _ ((j.toNat:Int)-1) j.toNat,?_,λb hb=> ?_,q⟩
 .show IsRangeIter _ _ (((j.toNat:Int)-1)+((0:Nat):Int)*(-1)) ((j.toNat:Int)-((0:Nat):Int)) (-1)
  have e1:((j.toNat:Int)-1)+((0:Nat):Int)*(-1)=(j.toNat:Int)-1:=ae
  have e2:(j.toNat:Int)-((0:Nat):Int)=(j.toNat:Int):=ae
  rw[e1,e2];exact hi
 .have e:b=(s1.heap.push {cls:= .type "range",data:= .fields #[.int 0 s1.toks,.int j t,.int 1<|s1.toks+1]}).objs.size:=by simpa using hb
  subst e;exact I2.fpOk (aG _) (I2.hok.fresh<|aG _)
theorem d53:PGet X (rIxL X.K):=by
 intro pins s σ H o i ov iv Q I ro ri h;obtain⟨p,xs,k,z,rfl,rfl,hq,he,q⟩:=h;cases ro;obtain⟨t,rfl⟩:=ri;obtain⟨its,r,pl,hz⟩:=I.list hq;obtain⟨j,h1,h2,h3,h4,h5⟩:=b83 he;obtain⟨w,ew,rw'⟩:=r.get h2;have hl:=r.length;have hn:=aZ2;have fin:EP X pins σ Q w s:=⟨z,H,I,rw',q⟩
 by_cases h0:0<=k
 .have hj:k.toNat=j:=by
   rw[a23 h0 h5]at h1;exact gL h1
  exact wpAny_getItem_list pl.isList h0 ad (by rw[hj];simpa using ew) fin
 .have hj:(k+(its.toArray.size:Int)).toNat=j:=by
   rw[a16 ad h4]at h1
   rw[bI,<-hl];exact gL h1
  exact wpAny_getItem_list_neg pl.isList ad (by rw[bI]<;>lia) ad (by rw[hj];simpa using ew) fin
end
end L2
namespace HT
open PySem PyProof.Rows
section
variable {prog:Program}{w:World}{A:Around}{E:Value->Shared->Prop}{s:Shared}
theorem getItem_tuple_whole {lo:Option Int}(ht:IsTup s.heap t items)(hs:s.heap.IsSliceOf sl vl vu .none)(pl:IsPart vl lo)(pu:IsPart vu hi)
  (hw:sIx items.size 0 lo=0/\sIx items.size items.size hi=items.size) (h:Q (.ref t) s):wpAny (model prog w) A (getItem (.ref t)<|.ref sl) Q E s:=by
 obtain⟨os,hos,hcs,hds⟩:=id hs;have hTs:s.TypeIs (.ref sl) "slice":=⟨os,hos,hcs⟩;unfold getItem;try with_reducible refine iK ?_
 first|refine aB (aL ?_)|skip
 refine aB (wpAny_sequenceKey ht.typeIs ac ?_)
 refine aB (lB (name:=Str.ofString "__getitem__") ht.typeIs zL<|jF zL ht.typeIs entry_tuple_getitem ?_<|args_tuple_getitem _ _)
 show wpAny _ _ (Builtin.Tuple.tupleItemsOf (.ref t) >>= _) _ _ s
 refine aB (tupleItemsOf_ ht ?_)
 refine aB (a15 hTs ?_)
 rw[aA ac]
 refine aB (yN hs pl pu ?_)
 have hyes:(((sIx items.size 0 lo:Nat):Int)==0&&(1:Int)==1&&(sIx items.size items.size hi-sIx items.size 0 lo)==items.size)=true:=by
  rw[hw.1,hw.2];simp
 show wpAny _ _ (if(((sIx items.size 0 lo:Nat):Int)==0&&(1:Int)==1&&(sIx items.size items.size hi-sIx items.size 0 lo)==items.size)=true then _ else _) _ _ s
 rw[aA hyes];show wpAny _ _ (Builtin.Tuple.tupleIsExact (.ref t) >>= _) _ _ s;unfold Builtin.Tuple.tupleIsExact;refine aB (aB<|a15 ht.typeIs<|aL ?_);show wpAny _ _ (if(Value.type "tuple"==Value.type "tuple")=true then _ else _) _ _ s;rw[aA ac]
 refine aB (lN ?_)
 first
  | exact aL ⟨_,rfl,aL h⟩
  | exact aB (aL<|aL ⟨_,rfl,aL h⟩)
  | exact aB (aL ⟨_,rfl,aL h⟩)
end
end HT
namespace L2
section
variable {X:Cx}
def rSlW (K:Frag):V->Option Int->Option Int->Hp->VK->Prop:=λx lo hi H Q=> ∃a xs,x= .ref a/\SqT K H a xs/\(HT.sIx xs.length 0 lo=0/\HT.sIx xs.length xs.length hi=xs.length)/\Q (.ref a) H
theorem d54:SlR X (rSlW X.K):=by
 intro pins s σ H x v vl vu lo hi sl Q I rx hs pl pu h;obtain⟨a,xs,rfl,hx,hw,q⟩:=h;cases rx;obtain⟨its,r,ht,hz⟩:=I.tuple hx;have hlen:its.toArray.size=xs.length:=by rw[bI];exact r.length.symm
 exact⟨"tuple",_,PyProof.Rows.slot_tuple_getitem.lookup,ht.typeIs,HT.getItem_tuple_whole ht hs pl pu (by rw[hlen];exact hw) ⟨.ref a,H,I,rfl,q⟩⟩
end
end L2
namespace M
section
variable {X:Cx}{K:Frag}{A:AS}{H:Hp}{e a b:Expr}{te ti:UE}{pos p2:Pos}{C:C0}{ρ ρ':Ev}{σ:L2.St}
def gSlT (d:D)(lo hi:Option Int)(Q:B->Prop):Prop:=match d with
 | .tup l=>Q (.pu<|.tup<|cutD l lo hi)
 | .lst l=>Q (.ow<|cutD l lo hi)
 | .rol l=>Q (.ow<|cutD l lo hi)
 | _=>False
def c44 (t:UE)(tl th:UO):UE:=λρ Q=>t ρ λb0 ρ1=>tl ρ1 λlo ρ2=>th ρ2 λhi ρ3=>gSlT b0.d lo hi λb=>Q b ρ3
theorem cV5 (l:List D)(lo hi:Option Int)(h:HT.sIx l.length 0 lo=0/\HT.sIx l.length l.length hi=l.length):cutD l lo hi=l:=by
 unfold cutD;rw[h.1,h.2];simp
theorem uA {tl th:UO}{lo hi:Option Expr}(he:PU X e te)(hl:PUO X lo tl)(hu:PUO X hi th):PU X (.Subscript e (.Slice lo hi none p2) pos) (c44 te tl th):=
 jP (c27 ((cM7.or d24).or d54) he hl hu) λσ H Q ⟨C,ρ,Q0,I,h,k⟩=>⟨C,ρ,_,I,h,λb0 ρ1 v H1 q f s r=>by
  have I1:=(I.frz f).same s;have rr:=r.rep λa z=>I.avF f z
  refine⟨C,ρ1,_,I1,q,λl2 ρ2 H2 q2 f2 s2=> ?_⟩
  have I2:=(I1.frz f2).same s2;refine⟨C,ρ2,_,I2,q2,λh3 ρ3 H3 q3 f3 s3=> ?_⟩
  have I3:=(I2.frz f3).same s3;have s13:=s2.trans s3;have sAll:=s.trans s13;have fAll:=f.trans (f2.trans f3);have r':Rep X.K (Av C ρ3 σ) H3 b0.d v:=rr.mono (.sub s13 λa z=>f2.av (f3.av z))
  generalize b0.d=d at r' q3;cases d with
  | tup l=>
   have r2:=r';simp only[Rep]at r';obtain⟨a,vs,rfl,c,rs⟩:=r';have hlen:=rs.length
   by_cases hw:HT.sIx l.length 0 l2=0/\HT.sIx l.length l.length h3=l.length
   .refine .inr ⟨a,vs,rfl,c.imp cS id,by rw[<-hlen];exact hw,k _ ρ3 _ _ q3 fAll sAll ?_⟩
    show Rep _ _ _ (.tup<|cutD l l2 h3) _
    rw[cV5 l l2 h3 hw];exact r2
   .exact .inl (.inr ⟨a,vs,rfl,c.imp cS id,by rw[<-hlen];exact hw,λp n=>k _ ρ3 _ _ q3 fAll (sAll.trans<|fJ n _) (j4 (λa z=>I3.avSome z) n<|rs.cut l2 h3)⟩)
  | lst l=>
   simp only[Rep]at r';obtain⟨a,vs,rfl,n0,c,rs⟩:=r';exact .inl (.inl ⟨a,vs,rfl,SqL.of c,λp n=>k _ ρ3 _ _ q3 fAll (sAll.trans<|fJ n _) (i9 sAll n<|rs.cut l2 h3)⟩)
  | rol l=>
   simp only[Rep]at r';obtain⟨a,vs,rfl,c,rs⟩:=r';exact .inl (.inl ⟨a,vs,rfl,c.imp cS id,λp n=>k _ ρ3 _ _ q3 fAll (sAll.trans<|fJ n _) (i9 sAll n<|rs.cut l2 h3)⟩)
  | _=>exact(show False from q3).elim⟩
def d55 (i:Nat)(f:Int->Int->Int)(ti te:UE):US:=λD ρ=>qE ρ i λ_=>ti ρ λj ρ1=>qE ρ1 i λl1=> ∃k n x,j.d= .int k/\ixN l1.length k=some n/\l1[n]? =some (.int x)/\
 te ρ1 λb ρ2=>qE ρ2 i λl=> ∃y,b.d= .int y/\D.nx (ρ2.set i<|some<|.ow<|l.set n<|.int<|f x y)
theorem dM0 {ix:Expr}{op:Operator}{f:Int->Int->Int}(i:Nat)(hx:PE X (.Name x p) (aP6 i))(hi:PU X ix ti)(he:PU X e te)(hp:PIp X op (ipI f))
  (ha: ∀ov iv new,augStore ix ov iv new=(do holding [new,ov,iv] (setItem ov iv new);release [new,ov,iv] [];pure .next):=by intros;rfl):PUS X (.AugAssign (.Subscript (.Name x p) ix tpos) op e pos) (d55 i f ti te):=
 tO (dI5 hx hi d53 he hp c29 ha) λD σ H ⟨C,ρ,D0,I,h,k⟩=>by
  obtain⟨l,hl,h⟩:=mM h;obtain⟨a,vs,h1,h2,h3,h4⟩:=I.ow i l hl;refine⟨.ref a,h1,C,ρ,_,I,h,λj ρ1 w H1 q f1 s1 r1=> ?_⟩
  obtain⟨l1,hl1,kk,n,x0,ej,en,ex,q⟩:=mM q;have e1:=f1.ow hl1;rw[hl]at e1;cases e1;have I1:=(I.frz f1).same s1;obtain⟨a1,vs1,g1,g2,g3,g4⟩:=I1.ow i l hl1;rw[h1]at g1;cases g1;have rj:=r1.rep λa z=>I.avF f1 z
  rw[ej]at rj;have:=bQ rj;subst this;obtain⟨v0,ev0,rv0⟩:=g4.get ex;have:=bQ rv0;subst this;have hat:L2.atI vs1 kk=some (.int x0):=by unfold L2.atI;rw[<-g4.length,en];exact ev0
  refine⟨a,vs1,kk,_,rfl,rfl,SqL.of g2,hat,C,ρ1,_,I1,q,λb ρ2 w2 H2 q2 f2 s2 r2=> ?_⟩
  obtain⟨l2,hl2,y,eb,q2⟩:=mM q2;have e2:=f2.ow hl2;rw[hl1]at e2;cases e2;have I2:=(I1.frz f2).same s2;obtain⟨a2,vs2,k1,k2,k3,k4⟩:=I2.ow i l hl2;rw[h1]at k1;cases k1;have rb:=r2.rep λa z=>I1.avF f2 z
  rw[eb]at rb;have:=bQ rb;subst this;exact⟨x0,y,rfl,rfl,a,vs2,kk,n,rfl,rfl,k2,by rw[<-k4.length];exact en,k.nx _ _ _ q2<|I2.write hl2 h1<|k4.set n<|show Rep _ _ _ _ _ by simp only[Rep]⟩
mutual
noncomputable def pd:D->Option PyData
 | .non=>some .none
 | .bl b=>some (.bool b)
 | .int i=>some (.int i)
 | .tup l=>(pdL l).map .tuple
 | .lst l=>(pdL l).map .list
 | .rol l=>(pdL l).map .list
 | .str s=>if PyData.canLay0 (.str s)=true then some (.str s)else none
 | .ty _=>none
 | .obj _ _ _=>none
 | .adr _=>none
 | .xob _ _ _ _=>none
noncomputable def pdL:List D->Option (List PyData)
 | []=>some []
 | d::r=>(pd d).bind λx=>(pdL r).map (x::·)
end
theorem c45 {d:D}{r:List D}{xs:List PyData}(h:pdL (d::r)=some xs): ∃x ys,xs=x::ys/\pd d=some x/\pdL r=some ys:=by
 simp only[pdL]at h;cases e:pd d with
 | none=>rw[e]at h;cases h
 | some x=>
  rw[e]at h;cases e2:pdL r with
  | none=>rw[e2]at h;cases h
  | some ys=>rw[e2]at h;cases h;exact⟨x,ys,rfl,rfl,rfl⟩
theorem uB {β:Type}{o:Option α}{f:α->β}{y:β}(h:o.map f=some y): ∃x,o=some x/\y=f x:=by
 cases o with
 | none=>cases h
 | some x=>cases h;exact⟨x,rfl,rfl⟩
mutual
theorem bB4: ∀(d:D) {x:PyData},pd d=some x->x.canLay0=true
 | .non,x,h=>by simp only[pd]at h;cases h;rfl
 | .bl b,x,h=>by simp only[pd]at h;cases h;rfl
 | .int i,x,h=>by simp only[pd]at h;cases h;rfl
 | .tup l,x,h=>by simp only[pd]at h;obtain⟨xs,e,rfl⟩:=uB h;simp only[PyData.canLay0];exact b90 l e
 | .lst l,x,h=>by simp only[pd]at h;obtain⟨xs,e,rfl⟩:=uB h;simp only[PyData.canLay0];exact b90 l e
 | .rol l,x,h=>by simp only[pd]at h;obtain⟨xs,e,rfl⟩:=uB h;simp only[PyData.canLay0];exact b90 l e
 | .str s,x,h=>by simp only[pd]at h;split at h;(rename_i c;cases h;exact c);cases h
 | .ty _,x,h=>by simp only[pd]at h;cases h
 | .obj _ _ _,x,h=>by simp only[pd]at h;cases h
 | .adr _,x,h=>by simp only[pd]at h;cases h
 | .xob _ _ _ _,x,h=>by simp only[pd]at h;cases h
theorem b90: ∀(l:List D) {xs:List PyData},pdL l=some xs->PyData.canLayAll0 xs=true
 | [],xs,h=>by simp only[pdL]at h;cases h;rfl
 | d::r,xs,h=>by
  obtain⟨x,ys,rfl,e1,e2⟩:=c45 h;simp only[PyData.canLayAll0,dU];exact⟨bB4 d e1,b90 r e2⟩
end
section
variable {pins:List (Addr×Obj)}{s:Shared}
mutual
theorem yQ (I:Inv X pins σ H s): ∀(d:D) {x:PyData} {v:V} {u:Value},pd d=some x->Rep X.K A H d v->RelV v u-> ∃as,Reads s.heap u x as
 | .non,x,v,u,h,r,q=>by simp only[pd]at h;cases h;simp only[Rep]at r;subst r;cases q;exact⟨_,.none⟩
 | .bl b,x,v,u,h,r,q=>by simp only[pd]at h;cases h;simp only[Rep]at r;subst r;cases q;exact⟨_,.bool b⟩
 | .int i,x,v,u,h,r,q=>by simp only[pd]at h;cases h;simp only[Rep]at r;subst r;obtain⟨t,rfl⟩:=q;exact⟨_,.int i t⟩
 | .tup l,x,v,u,h,r,q=>by
  simp only[pd]at h;obtain⟨xs,e,rfl⟩:=uB h;simp only[Rep]at r;obtain⟨a,vs,rfl,c,rs⟩:=r;cases q;obtain⟨its,rv,⟨o,ho,hc,n,hd⟩,hz⟩:=I.tuple (c.imp cS id);obtain⟨as,ra⟩:=a31 I l e rs rv;exact⟨_,.tuple ho hc hd<|by simpa using ra⟩
 | .lst l,x,v,u,h,r,q=>by
  simp only[pd]at h;obtain⟨xs,e,rfl⟩:=uB h;simp only[Rep]at r;obtain⟨a,vs,rfl,n0,c,rs⟩:=r;cases q;obtain⟨its,rv,p,hz⟩:=I.list (SqL.of c);obtain⟨o,ho,hc,n,hd⟩:=p.isList;obtain⟨as,ra⟩:=a31 I l e rs rv;exact⟨_,.list ho hc hd<|by simpa using ra⟩
 | .rol l,x,v,u,h,r,q=>by
  simp only[pd]at h;obtain⟨xs,e,rfl⟩:=uB h;simp only[Rep]at r;obtain⟨a,vs,rfl,c,rs⟩:=r;cases q;obtain⟨its,rv,p,hz⟩:=I.list (c.imp cS id);obtain⟨o,ho,hc,n,hd⟩:=p.isList;obtain⟨as,ra⟩:=a31 I l e rs rv;exact⟨_,.list ho hc hd<|by simpa using ra⟩
 | .str i,x,v,u,h,r,q=>by simp only[pd]at h;split at h<;>cases h;simp only[Rep]at r;subst r;obtain⟨t,rfl⟩:=q;exact⟨_,.str i t⟩
 | .ty _,x,v,u,h,r,q=>by simp only[pd]at h;cases h
 | .obj _ _ _,x,v,u,h,r,q=>by simp only[pd]at h;cases h
 | .adr _,x,v,u,h,r,q=>by simp only[pd]at h;cases h
 | .xob _ _ _ _,x,v,u,h,r,q=>by simp only[pd]at h;cases h
theorem a31 (I:Inv X pins σ H s): ∀(l:List D) {xs:List PyData} {vs:List V} {us:List Value},pdL l=some xs->bP X.K A H l vs->Vals vs us-> ∃as,ReadsAll s.heap us xs as
 | [],xs,vs,us,h,r,q=>by simp only[pdL]at h;cases h;have:=r.unnil;subst this;cases q;exact⟨_,.nil⟩
 | d::l,xs,vs,us,h,r,q=>by
  obtain⟨x,ys,rfl,e1,e2⟩:=c45 h;obtain⟨v,vr,rfl,r1,rs⟩:=r.uncons;cases q with
  | cons q1 q2=>
   obtain⟨as,h1⟩:=yQ I d e1 r1 q1;obtain⟨bs,h2⟩:=a31 I l e2 rs q2;exact⟨_,.cons h1 h2⟩
end
end
def bV8 (neg:Bool)(d e:D)(Q:B->Prop):Prop:= ∃p q,pd d=some p/\pd e=some q/\p.depth<=60/\Q (.pu<|.bl<|neg ^^ p.eqv q)
theorem cG3 (hu:X.A.units+64<cLine):OpU X (compareOp .Eq) (bV8 false):=by
 intro A H d e v w Q0 Q hA r1 r2 g k;obtain⟨p,q,e1,e2,hd,g⟩:=g;refine⟨λx y H Q=> ∃(A:AS) (d e:D) (p q:PyData),Rep X.K A H d x/\Rep X.K A H e y/\pd d=some p/\pd e=some q/\p.depth<=60/\Q (.bl<|p.eqv q) H,?_,A,d,e,p,q,r1,r2,e1,e2,hd,k _ _ H g (.refl _) (by rw[o9];exact oK)⟩
 rintro pins s σ H x y v u Q I rx ry ⟨A,d,e,p,q,r1,r2,e1,e2,hd,h⟩;obtain⟨as,ra⟩:=yQ I d e1 r1 rx;obtain⟨bs,rb⟩:=yQ I e e2 r2 ry;exact SeqAt.compareEq_reads ra rb (bB4 d e1) (bB4 e e2) ad ⟨.bl _,H,I,rfl,h⟩
theorem d56 (hu:X.A.units+64<cLine):OpU X (compareOp .NotEq) (bV8 true):=by
 intro A H d e v w Q0 Q hA r1 r2 g k;obtain⟨p,q,e1,e2,hd,g⟩:=g;refine⟨λx y H Q=> ∃(A:AS) (d e:D) (p q:PyData),Rep X.K A H d x/\Rep X.K A H e y/\pd d=some p/\pd e=some q/\p.depth<=60/\Q (.bl<|!(p.eqv q)) H,?_,A,d,e,p,q,r1,r2,e1,e2,hd,k _ _ H g (.refl _) (by rw[oB];exact oK)⟩
 rintro pins s σ H x y v u Q I rx ry ⟨A,d,e,p,q,r1,r2,e1,e2,hd,h⟩;obtain⟨as,ra⟩:=yQ I d e1 r1 rx;obtain⟨bs,rb⟩:=yQ I e e2 r2 ry;exact SeqAt.compareNe_reads ra rb (bB4 d e1) (bB4 e e2) ad ⟨.bl _,H,I,rfl,h⟩
def SqA (K:Frag)(A:AS)(H:Hp)(T:Bool)(a:Addr)(vs:List V):Prop:=match T with
 | false=>(¬A a/\Rd H a (.lst vs))\/KL K a vs
 | true=>(¬A a/\Rd H a (.tup vs))\/KT K a vs
theorem SqA.sqv {a':Addr}{vs:List V}{A':AS}{H':Hp}(c:SqA K A H T a' vs)(P:nJ A H A' H'):SqV K T H' a' vs:=by
 cases T<;>(rcases c with⟨n,c⟩|c;exact .inl (Rd.pres P n c).2;exact .inr c)
theorem nJ.self:nJ A H A H:=λ_ _ n e=>⟨n,e⟩
theorem Rep.sq {d:D}{v:V}{l:List D}(r:Rep K A H d v)(h:qD d=some l): ∃T a vs,v= .ref a/\SqA K A H T a vs/\bP K A H l vs:=by
 cases d with
 | tup l'=>cases h;simp only[Rep]at r;obtain⟨a,vs,e,c,r⟩:=r;exact⟨true,a,vs,e,c,r⟩
 | lst l'=>cases h;simp only[Rep]at r;obtain⟨a,vs,e,n,c,r⟩:=r;exact⟨false,a,vs,e,.inl ⟨n,.inl c⟩,r⟩
 | rol l'=>cases h;simp only[Rep]at r;obtain⟨a,vs,e,c,r⟩:=r;exact⟨false,a,vs,e,c,r⟩
 | _=>cases h
theorem bP.at {l:List D}{vs:List V}(r:bP K A H l vs)(hi:i<l.length): ∃x,vs[i]? =some x/\Rep K A H (l.getD i .non) x:=r.get (by rw[aQ,aV hi];rfl)
theorem d57 {vs ws:List V}{l m:List D}(c1:SqA K A H T1 l1 vs)(c2:SqA K A H T2 l2 ws)(r1:bP K A H l vs)(r2:bP K A H m ws) :
  c35 K A H (Itz K T1 T2 l1 l2) (min l.length m.length) (λi=> .tup [l.getD i .non,m.getD i .non]):=by
 have k1:=r1.length;have k2:=r2.length;refine⟨λA' H' i P hi=> ?_,λA' H' i x H'' P hA hi y=> ?_,λA' H' P=>⟨vs,ws,c1.sqv P,c2.sqv P,ad⟩⟩
 .obtain⟨x,e1,_⟩:=r1.at (i:=i) ad
  obtain⟨y,e2,_⟩:=r2.at (i:=i) ad
  exact⟨vs,ws,x,y,c1.sqv P,c2.sqv P,e1,e2⟩
 .obtain⟨x1,e1,q1⟩:=r1.at (i:=i) ad
  obtain⟨y1,e2,q2⟩:=r2.at (i:=i) ad
  obtain⟨T,a,b,rfl,hT,rfl,ha,hb⟩:=y;have ea:=ha vs (c1.sqv P);have eb:=hb ws (c2.sqv P);rw[e1]at ea;cases ea;rw[e2]at eb;cases eb;exact⟨fJ hT _,j4 hA hT<|.cons (q1.mono P)<|.cons (q2.mono P) .nil⟩
theorem cV6 {vs:List V}{l:List D}(c1:SqA K A H T l1 vs)(r1:bP K A H l vs):c35 K A H (Ite K T l1) l.length (λi=> .tup [.int (i:Int),l.getD i .non]):=by
 have k1:=r1.length;refine⟨λA' H' i P hi=> ?_,λA' H' i x H'' P hA hi y=> ?_,λA' H' P=>⟨vs,c1.sqv P,k1.symm⟩⟩
 .obtain⟨x,e1,_⟩:=r1.at hi;exact⟨vs,x,c1.sqv P,e1⟩
 .obtain⟨x1,e1,q1⟩:=r1.at hi;obtain⟨T,a,rfl,hT,rfl,ha⟩:=y;have ea:=ha vs (c1.sqv P);rw[e1]at ea;cases ea;exact⟨fJ hT _,j4 hA hT<|.cons (show Rep _ _ _ _ _ by simp only[Rep])<|.cons (q1.mono P) .nil⟩
def dM1 (ta:UA):UI:=λρ Q=>ta ρ λds ρ1=>match ds with
 | [d,e]=>(match qD d,qD e with
  | some l,some m=>Q (min l.length m.length) (λi=> .tup [l.getD i .non,m.getD i .non]) ρ1
  | _,_=>False)
 | _=>False
theorem d58 {ta:UA}(hg:Gl X "zip")(hm:X.mg "zip"=none)(ha:PUA X [a,b] ta)(hs:↥(starEach [a,b] X.env=[(false,eval a X.env),(false,eval b X.env)]))(hs2:↥(starEach [b] X.env=[(false,eval b X.env)])) :
  PUI X (.Tuple elts kt tp) (.Call (.Name "zip" p) [a,b] [] pos) (dM1 ta):=
 b41 (pi_zip hg hm ha hs hs2) λσ H R ⟨C,ρ,Q0,I,h,k⟩=>⟨C,ρ,_,I,h,λds ρ1 vs H1 q f s r=>by
  split at q
  .rename_i d e
   obtain⟨v,vr,rfl,rv,rr⟩:=r.uncons;obtain⟨w,wr,rfl,rw',rr'⟩:=rr.uncons;have:=rr'.unnil;subst this;split at q
   .rename_i l m e1 e2
    obtain⟨T1,a1,us,rfl,c1,s1⟩:=rv.sq e1;obtain⟨T2,a2,ws,rfl,c2,s2⟩:=rw'.sq e2;exact⟨a1,a2,T1,T2,us,ws,rfl,c1.sqv .self,c2.sqv .self,k _ _ ρ1 _ H1 q f s<|d57 c1 c2 s1 s2⟩
   .exact q.elim
  .exact q.elim⟩
def cN8 (ta:UA):UI:=λρ Q=>ta ρ λds ρ1=>match ds with
 | [d]=>(match qD d with
  | some l=>Q l.length (λi=> .tup [.int (i:Int),l.getD i .non]) ρ1
  | none=>False)
 | _=>False
theorem cN9 {ta:UA}(hg:Gl X "enumerate")(hm:X.mg "enumerate"=none)(ha:PUA X [a] ta)(hs:↥(starEach [a] X.env=[(false,eval a X.env)])) :
  PUI X (.Tuple elts kt tp) (.Call (.Name "enumerate" p) [a] [] pos) (cN8 ta):=
 b41 (dL8 hg hm ha hs) λσ H R ⟨C,ρ,Q0,I,h,k⟩=>⟨C,ρ,_,I,h,λds ρ1 vs H1 q f s r=>by
  split at q
  .rename_i d
   obtain⟨v,vr,rfl,rv,rr⟩:=r.uncons;have:=rr.unnil;subst this;split at q
   .rename_i l e1
    obtain⟨T1,a1,us,rfl,c1,s1⟩:=rv.sq e1;exact⟨a1,T1,us,rfl,c1.sqv .self,k _ _ ρ1 _ H1 q f s<|cV6 c1 s1⟩
   .exact q.elim
  .exact q.elim⟩
def c46 (ta:UA):UI:=λρ Q=>ta ρ λds ρ1=>match ds with
 | [.int j]=>(-(2^31)<=j/\j<2^31)/\Q j.toNat (λk=> .int ((j.toNat:Int)-1-k)) ρ1
 | _=>False
theorem bV9 {ta:UA}{q2 pos2:Pos}(hg:Gl X "reversed")(hm:X.mg "reversed"=none)(hg2:Gl X "range")(hm2:X.mg "range"=none)(ha:PUA X [a] ta)(hs:↥(starEach [a] X.env=[(false,eval a X.env)]))
  (hs2:↥(starEach [.Call (.Name "range" q2) [a] [] pos2] X.env=[(false,eval (.Call (.Name "range" q2) [a] [] pos2) X.env)])) :
  PUI X tg (.Call (.Name "reversed" p) [.Call (.Name "range" q2) [a] [] pos2] [] pos) (c46 ta):=
 b41 (c43 hg hm hg2 hm2 ha hs hs2) λσ H R ⟨C,ρ,Q0,I,h,k⟩=>⟨C,ρ,_,I,h,λds ρ1 vs H1 q f s r=>by
  split at q
  .rename_i j
   obtain⟨v,vr,rfl,rv,rr⟩:=r.uncons;have:=rr.unnil;subst this;have:=bQ rv;subst this;obtain⟨⟨h1,h2⟩,q⟩:=q;exact⟨j,rfl,h1,h2,k _ _ ρ1 _ H1 q f s bQ0⟩
  .exact q.elim⟩
end
end M
end
section
namespace L2
theorem b04:fillsNumberSlot (.type "tuple") "mul"=pure false:=
 PySem.fillsNumberSlot_seq (id:="tuple.__mul__") (r:=some (.builtin "tuple.__rmul__")) PySem.F.slot_tuple_mul.lookup af PySem.F.slot_tuple_rmul.lookup af
theorem bW0:seqRepeat? (.type "tuple")=pure (some<|.builtin "tuple.__mul__"):=by
 unfold seqRepeat?;rw[PySem.seqSlot_of (T:="tuple") (name:="__mul__") (id:="tuple.__mul__") PySem.F.slot_tuple_mul.lookup af,PySem.seqSlot_of (T:="tuple") (name:="__rmul__") (id:="tuple.__rmul__") PySem.F.slot_tuple_rmul.lookup af]
 rfl
theorem bB5 (a:Int)(t:Tok)(l:Addr)(items:Array Value)(n:Nat)(dd:Option Addr)(sl:Array (Option Value)) :
  Meets (Builtin.«int.__rmul__» ⟨[.int a t,.ref l],[]⟩) (λ_ R s=>s.heap.get? l=some {cls:= .type "tuple",dict:=dd,data:= .seq items n,slots:=sl}/\R (.ok<|.ret Value.notImplemented) s):=
 .of_wp λprog w A R s h=>by obtain⟨hp,g,d,tk,os⟩:=s;obtain⟨hl,h⟩:=h;wp_walk using kF hl;exact⟨_,rfl,h⟩
theorem d59 (l:Addr)(items:Array Value)(n:Nat)(dd:Option Addr)(sl:Array (Option Value))(u:Tok) :
  Meets (Builtin.«tuple.__mul__» ⟨[.ref l,.int 1 u],[]⟩) (λ_ R s=>s.heap.get? l=some {cls:= .type "tuple",dict:=dd,data:= .seq items n,slots:=sl}/\R (.ok<|.ret<|.ref l) s):=
 .of_wp λprog w A R s h=>by
  obtain⟨hp,g,d,tk,os⟩:=s;obtain⟨hl,h⟩:=h;have f1:=aO8
  wp_walk using kF hl
  exact⟨_,rfl,h⟩
theorem d60 (l:Addr)(items:Array Value)(n:Nat)(dd:Option Addr)(sl:Array (Option Value))(k:Int)(u:Tok)(h1: ¬(k< -(2^63)||k≥2^63)=true)(hne: ¬(items.isEmpty||k==1)=true)(h0:(k<=0||items.isEmpty)=true) :
  Meets (Builtin.«tuple.__mul__» ⟨[.ref l,.int k u],[]⟩) (λ_ R s=>s.heap.get? l=some {cls:= .type "tuple",dict:=dd,data:= .seq items n,slots:=sl}/\R (.ok<|.ret<|.ref s.heap.objs.size) {s with heap:=s.heap.push {cls:= .type "tuple",data:= .seq #[]}}):=
 .of_wp λprog w A R s h=>by
  obtain⟨hp,g,d,tk,os⟩:=s;obtain⟨hl,h⟩:=h;have f1:=aO8
  wp_walk using kF hl
  rw[a9 h1]
  wp_walk using kF hl
  exact⟨_,rfl,h⟩
theorem d61 (l:Addr)(items:Array Value)(n:Nat)(dd:Option Addr)(sl:Array (Option Value))(k:Int)(u:Tok)(h1: ¬(k< -(2^63)||k≥2^63)=true)(hne: ¬(items.isEmpty||k==1)=true)(h0: ¬(k<=0||items.isEmpty)=true)
  (h2: ¬items.size*k>(2^63-1)/8) (h3: ¬Builtin.Tuple.tupleTooMany (items.size*k)=true) (hz:(foldl (λx1 x2=>x1++x2) #[] (replicate k.toNat items)).size<=sizeLine) :
  Meets (Builtin.«tuple.__mul__» ⟨[.ref l,.int k u],[]⟩) (λ_ R s=>s.heap.get? l=some {cls:= .type "tuple",dict:=dd,data:= .seq items n,slots:=sl}/\R (.ok<|.ret<|.ref s.heap.objs.size) {s with heap:=s.heap.push {cls:= .type "tuple",data:= .seq (foldl (λx1 x2=>x1++x2) #[] (replicate k.toNat items))}}):=
 .of_wp λprog w A R s h=>by
  obtain⟨hp,g,d,tk,os⟩:=s;obtain⟨hl,h⟩:=h;have f1:=aO8
  wp_walk using kF hl
  rw[a9 h1]
  wp_walk using kF hl
  rw[a9 h2]
  wp_walk using kF hl
  all_goals first
   | exact⟨_,rfl,h⟩
   | (refine wpAny_ite_false (gK<|Nat.not_lt.mpr hz) ?_
      wp_walk using kF hl
      exact⟨_,rfl,h⟩)
section
variable {X:Cx}
theorem dM2:OpR X (binaryOp .Mult) (λx y H Q=> ∃a k xs,x= .ref a/\y= .int k/\SqT X.K H a xs/\xs≠[]/\ -(2^63)<=k/\k<2^63/\xs.length*k.toNat<=sizeLine/\(k=1->Q (.ref a) H)/\(k≠1-> ∀p,H p=none->Q (.ref p) (upd H p<|.tup (replicate k.toNat xs).flatten))):=by
 intro pins s σ H x y v u Q I rx ry h;obtain⟨a,k,xs,rfl,rfl,ha,hn,h1,h2,hz,q1,q2⟩:=h;cases rx;obtain⟨t,rfl⟩:=ry;obtain⟨its,r,p1,_⟩:=I.tuple ha;have hl:=r.length;obtain⟨⟨cls,dd,data,sl⟩,ho,hc,n,hd⟩:=id p1;simp only at hc hd;subst hc hd;have ne:its≠[]:=λz=>hn (uI.mp (by rw[hl,z];rfl))
 have ne2:its.toArray.isEmpty=false:=by cases its with
  | nil=>exact absurd rfl ne
  | cons b r'=>rfl
 have hb: ¬(decide (k< -(2^63))||decide (k≥2^63))=true:=by simp;omega
 have f0: ∀m:Nat,foldl (λx1 x2=>x1++x2) #[] (replicate m its.toArray)=(replicate m its).flatten.toArray:=λm=>by
  have:=foldl_rep its m [];rw[a08]at this;exact this
 refine wpAny_binaryOp_repeat_ref (T:="tuple") (U:="int") ac ⟨_,ho,rfl⟩ (λs'=>rF s' k t) b04 PySem.F.fills_int_mul PySem.F.slot_int_rmul bW0 PySem.F.slot_int_index.lookup
  (lP PySem.F.slot_int_rmul (rF s k t) PySem.F.entry_int_rmul (PySem.F.args_int_rmul_2 _ _) (bB5 k t a its.toArray n dd sl) ⟨ho,rfl,⟨_,ho,rfl⟩,?_⟩)
 by_cases k1:k=1
 .subst k1;exact lP aM6 ⟨_,ho,rfl⟩ aM0 (aL7 _ _) (d59 a its.toArray n dd sl t) ⟨ho,.ref a,H,I,rfl,q1 rfl⟩
 have hne: ¬(its.toArray.isEmpty||k==1)=true:=by rw[ne2];simpa using k1
 by_cases k0:k<=0
 .have e0:k.toNat=0:=aa
  refine lP aM6 ⟨_,ho,rfl⟩ aM0 (aL7 _ _) (d60 a its.toArray n dd sl k t hb hne<|by simp[k0]) ⟨ho,?_⟩
  have q:=q2 k1;rw[e0]at q;exact⟨.ref _,_,I.laid (t':=s.toks) (o:= .tup []) (λb ob q=>aW _ q) (aG _) ⟨cK _,_,.nil,rG _ _⟩,rfl,q _ I.fresh⟩
 .have ek:k=(k.toNat:Int):=aa
  have em:(its.toArray.size:Int)*k=((its.toArray.size*k.toNat:Nat):Int):=by rw[aP4,<-ek]
  have hs:its.toArray.size*k.toNat<=sizeLine:=by rw[bI,<-hl];exact hz
  have hcap:(sizeLine:Nat)<=(2^63-1)/8:=ac
  refine lP aM6 ⟨_,ho,rfl⟩ aM0 (aL7 _ _) (d61 a its.toArray n dd sl k t hb hne (by rw[ne2];simp;omega) (by rw[em];omega) (by rw[em];unfold Builtin.Tuple.tupleTooMany;rw[gJ];omega) (by rw[f0,bI,bU6,a17];simpa using hs)) ⟨ho,?_⟩
  rw[f0];exact⟨.ref _,_,I.laid (t':=s.toks) (o:= .tup (replicate k.toNat xs).flatten) (λb ob q=>aW _ q) (aG _) ⟨by rw[bU6,a17];exact hz,_,r.rep k.toNat,rG _ _⟩,rfl,q2 k1 _ I.fresh⟩
end
theorem d62:typeLookup (.type "tuple") "__reversed__"=pure none:=by rw[a10,zU];kernel_rfl
theorem sub_tuple_dict:isSubtype (.type "tuple") (.type "dict")=pure false:=by rw[r8];kernel_rfl
theorem bQ1:Manifest.owners.lookup (String.ofList ['d','e','s','r','e','v','e','r'].reverse)=some Manifest.sig_reversed:=by kernel_rfl
theorem nM:Slot "reversed" "__next__" "reversed.__next__":=
 .of (owner:="reversed") (n:="__next__") (by rw[a10,zU];kernel_rfl) af af af
  (by first|exact .inl af|exact .inr af) (by rw[r8];kernel_rfl)
theorem a98:entryFor table "reversed.__next__"=some Builtin.«reversed.__next__» :=entryFor_of_tree (by kernel_rfl)
theorem a70 (a:Value):argsOk "reversed.__next__" ⟨[a],[]⟩:=by
 unfold argsOk;rw[signature?_of (id:="reversed.__next__") (n:=['_','_','t','x','e','n','_','_']) (o:=['d','e','s','r','e','v','e','r']) (by kernel_rfl) bQ1];kernel_rfl
theorem aJ3:Slot "reversed" "__iter__" "reversed.__iter__":=
 .of (owner:="reversed") (n:="__iter__") (by rw[a10,zU];kernel_rfl) af af af
  (by first|exact .inl af|exact .inr af) (by rw[r8];kernel_rfl)
theorem b66 (a:Value):argsOk "reversed.__iter__" ⟨[a],[]⟩:=by
 unfold argsOk;rw[signature?_of (id:="reversed.__iter__") (n:=['_','_','r','e','t','i','_','_']) (o:=['d','e','s','r','e','v','e','r']) (by kernel_rfl) bQ1];kernel_rfl
theorem bB6:entryFor table "reversed.__iter__"=some Builtin.«dict_keyiterator.__iter__» :=
 entryFor_alias (id':="dict_keyiterator.__iter__") (by kernel_rfl) (by first|rfl|decide +kernel| (unfold String.splitOn;simp +decide [String.splitOnAux])) af (by kernel_rfl)
theorem bK7:Slot "reversed" "__init__" "object.__init__":=
 .of (owner:="object") (n:="__init__") (by rw[a10,zU];kernel_rfl) af af af
  (by first|exact .inl af|exact .inr af) (by rw[r8];kernel_rfl)
theorem cG4:TypeCalled "reversed" "reversed.__new__" "object.__init__":=
 ⟨af,af,⟨_,_,PySem.F.mro_reversed⟩,PySem.F.made_reversed,af,by rw[r8];kernel_rfl,bK7⟩
theorem dM3 (l:Addr)(items:Array Value)(hfit:(items.size:Int)<2^63) :
  Meets (Builtin.«reversed.__new__» ⟨[.type "reversed",.ref l],[]⟩) (λ_ R s=>s.heap.IsTuple l items/\R (.ok<|.ret<|.ref s.heap.objs.size) {s with heap:=s.heap.push {cls:= .type "reversed",data:= .fields #[.ref l,rawInt<|(items.size:Int)-1]},toks:=s.toks+1+1}):=
 .of_wp λprog w A R s h=>by
  obtain⟨hp,g,d,tk,os⟩:=s;obtain⟨ht,h⟩:=h;obtain⟨⟨c,dct,dt,sl⟩,hl,hc,n,hd⟩:=id ht
  replace hc:c= .type "tuple":=hc
  replace hd:dt= .seq items n:=hd
  subst hc hd;have f1:=PySem.F.sub_reversed_self;have f2:=d62;have f4:=PySem.F.slot_tuple_getitem.lookup;have f5:=sub_tuple_dict;have e1:IsTup (Shared.heap ⟨hp,g,d,tk,os⟩) l items:=ht
  wp_walk using kF hl,PyProof.Rows.len_tuple e1 hfit
  exact⟨_,rfl,h⟩
def vC (h:Heap)(a l:Addr)(i:Int):Prop:= ∃o,h.get? a=some o/\o.cls= .type "reversed"/\o.data= .fields #[.ref l,rawInt i]
theorem vC.at {i:Int}(x:vC h a l i)(e: ∀o,h.get? a=some o->h'.get? a=some o):vC h' a l i:=let ⟨o,ho,r⟩:=x;⟨o,e _ ho,r⟩
section
variable {prog:Program}{w:World}{A:Around}{E:Value->Shared->Prop}{s:Shared}
theorem vC.typeIs {i:Int}(x:vC s.heap a l i):s.TypeIs (.ref a) "reversed":=let ⟨o,ho,hc,_⟩:=x;⟨o,ho,hc⟩
theorem d63 (hl:s.heap.IsTuple l items)(hfit:(items.size:Int)<2^63)
  (h:Q (.ref s.heap.objs.size) {s with heap:=s.heap.push {cls:= .type "reversed",data:= .fields #[.ref l,rawInt<|(items.size:Int)-1]},toks:=s.toks+1+1}) :
  wpAny (model prog w) A (call (.type "reversed") [.ref l]) Q E s:=
 callType_new cG4 ac (PySem.F.typeCall_reversed_1 _) (PySem.F.newCall_reversed_1 _) (λobj=>PySem.F.args_object_init_2 obj _) PySem.F.entry_reversed_new (dM3 l items hfit) ⟨hl,⟨_,bX _ rfl,rfl⟩,h⟩
theorem bB7 {i:Int}(hit:vC s.heap it l i)(h:Q (.ref it) s):wpAny (model prog w) A (pyIter<|.ref it) Q E s:=by
 refine wpAny_pyIter_slot hit.typeIs aJ3 (jF aJ3 hit.typeIs bB6 ?_<|b66 _)
 show wpAny _ _ (ret<|.ref it) _ _ s
 exact aL ⟨_,rfl,"reversed",_,hit.typeIs,nM.lookup,h⟩
theorem d64 {x:Value}{Q:Option Value->Shared->Prop}(hit:vC s.heap it l (i:Int))(hl:s.heap.IsTuple l items)(hx:items[i]? =some x)(hfit:(i:Int)<2^63)
  (hQ: ∀h' tk,vC h' it l ((i:Int)-1)->SameBut it s.heap h'->Q (some x) {s with heap:=h',toks:=tk}):wpAny (model prog w) A (pyNext<|.ref it) Q E s:=by
 obtain⟨o,ho,hc,hd⟩:=id hit;have hlt:i<items.size:=(Array.getElem?_eq_some_iff.mp hx).1;have hi:seqIndex? (i:Int) items.size=some i:=by
  unfold seqIndex?;simp
  lia
 have tl:s.TypeIs (.ref l) "tuple":=hl.typeIs;unfold pyNext;refine aB (uY (lB (name:=Str.ofString "__next__") hit.typeIs nM
  (jF nM hit.typeIs a98 ?_<|a70 _)))
 unfold Builtin.«reversed.__next__»;refine aB (jL (a:=(Value.ref it,[])) rfl ?_);try dsimp only
 refine aB (dE ho hd (x:= .ref l) rfl ?_)
 refine aB (dE ho hd (x:=rawInt (i:Int)) rfl ?_)
 show wpAny _ _ (if(i:Int)<0 then _ else _) _ _ s
 rw[a9 ad]
 try dsimp only
 refine aB (wpAny_specialOf tl PySem.F.slot_tuple_getitem.lookup ?_)
 try dsimp only
 rw[a9 ae]
 refine aB (wpAny_mkInt ?_)
 have ht:IsTup s.heap l items:=hl;refine aB (uY<|PyProof.Rows.getItem_tuple (s:={s with toks:=s.toks+1}) ht ad hfit hi hx ?_)
 try dsimp only
 refine aB (dE ho hd (x:=rawInt (i:Int)) rfl ?_)
 show wpAny _ _ (setField (.ref it) 1 (rawInt<|(i:Int)-1) >>= _) _ _ _
 refine aB (uX ho hd ae ?_)
 refine aL ⟨x,rfl,aL<|hQ _ _ ?_<|uN ..⟩
 exact⟨_,qL _ ho<|aM8<|qS hd _,(Obj.cls_mapFields ..).trans hc,by
  rw[qS hd];simp⟩
theorem dM4 {it l:Addr}{Q:Option Value->Shared->Prop}(hh:A.handled=none)(hit:vC s.heap it l (-1))
  (hQ: ∀h',ExtBut it s.heap h'->Q none {s with heap:=h'}):wpAny (model prog w) A (pyNext<|.ref it) Q E s:=by
 obtain⟨o,ho,hc,hd⟩:=id hit;unfold pyNext;refine aB (uY (lB (name:=Str.ofString "__next__") hit.typeIs nM
  (jF nM hit.typeIs a98 ?_<|a70 _)))
 unfold Builtin.«reversed.__next__»;refine aB (jL (a:=(Value.ref it,[])) rfl ?_);try dsimp only
 refine aB (dE ho hd (x:= .ref l) rfl ?_)
 refine aB (dE ho hd (x:=rawInt (-1)) rfl ?_)
 show wpAny _ _ (if(-1:Int)<0 then _ else _) _ _ s
 rw[aA ac]
 refine aB (lN ?_)
 refine aB ?_
 show wpAny _ _ (setField (.ref it) 1 (rawInt<|-1) >>= λ_=>setField (.ref it) 0 .none) _ _ s
 refine aB (uX ho hd ae ?_)
 refine uX (qL _ ho<|aM8<|qS hd _) (qS hd _) ae ?_
 first
 | show wpAny _ _ (newExc (.type "StopIteration") [] >>= _) _ _ _
 | (refine aB ?_;show wpAny _ _ (newExc (.type "StopIteration") [] >>= _) _ _ _)
 refine aB ?_
 simp only[newExc,newTuple];refine aB (jE ?_<|by size_fits)
 refine aB (m:=firstArgMember _ _) (jL (a:=Value.none) (by first|rfl| (simp only[firstArgMember];rfl)) ?_)
 refine jE ?_ (by size_fits)
 simp only[raiseNew];refine aB (wpAny_handled ?_)
 first|rw[show A.in1.handled=none from hh]|rw[hh]
 refine aB (aL<|wpAny_throw ?_)
 refine aB (wpAny_isInstance (T:="StopIteration") (b:=true) ⟨_,bX _ rfl,rfl⟩ isSubtype_stop ?_)
 refine aL (hQ _ ?_)
 exact((((uN ..).trans<|uN ..).extBut.push _).push _)
end
noncomputable def Itv (K:Frag)(l:Addr)(n:Nat):It where
 go:=λi H=>i<n/\ ∃xs,SqT K H l xs/\xs.length=n
 yld:=λi H v H'=>H'=H/\ ∀xs,SqT K H l xs->xs[n-1-i]? =some v
 stop:=λi H=>i=n
theorem d65 (n:Nat)(hz:n<=sizeLine):c21 P w K tg (Itv K l n) [it] it (λi h=>vC h it l ((n:Int)-1-(i:Int))) where
 mem:=ae
 obj:=λi h st b hb=>by
  have e:b=it:=by simpa using hb
  subst e;obtain⟨o,ho,_,hd⟩:=st;exact⟨o,ho,λv z=>by rw[hd]at z;cases z⟩
 keep:=λi h h' st k=>st.at λo e=>k it ae _ e
 item:=by
  intro X hP hw hK hc i pins s σ H E I hf st hg;subst hP hw hK;obtain⟨f0,f1,f2,f3,f4,f5⟩:=hf it ae
  obtain⟨hi,xs,hq,hl⟩:=hg;obtain⟨its,r,p,_⟩:=I.tuple hq;have hlen:=r.length;have hx:xs[n-1-i]? =some (xs[n-1-i]'ad):=aV ad
  obtain⟨u1,hu1,ru1⟩:=r.get hx;have e1:(n:Int)-1-(i:Int)=((n-1-i:Nat):Int):=ad
  have st':=st;rw[e1]at st';have big:(sizeLine:Int)<2^63:=ac
  refine d64 (items:=its.toArray) (x:=u1) st' p (by simpa using hu1) ad λh' tk hr m=> ?_
  have I1:Inv X pins σ H {s with heap:=h',toks:=tk}:=I.turned (λb o hb e=>m.extBut _ _ (by simpa using hb) e) f0 f1 f3 f4 f5
  have e2:((n-1-i:Nat):Int)-1=(n:Int)-1-((i+1:Nat):Int):=ad
  rw[e2]at hr;obtain⟨o,ho,hoc,hod⟩:=id hr;exact⟨_,rfl,c22 (s:={s with heap:=h',toks:=tk}) (n:="reversed") ho hoc hod ac ⟨xs[n-1-i]'ad,H,I1,ru1,⟨rfl,λys hy=>by rw[I.tuple_inj hy hq];exact hx⟩,hr,λb hb=>(hf b hb).1⟩⟩
 done:=by
  intro X hP hw hK hc i pins s σ H E I hf st hg;subst hP hw hK;obtain⟨f0,f1,f2,f3,f4,f5⟩:=hf it ae
  have hg':i=n:=hg;have st':=st;rw[hg',show(n:Int)-1-(n:Int)= -1 by lia]at st'
  exact dM4 (I.ok.hd hc) st' λh' eb=>⟨rfl,I.turned (t':=s.toks) (λb o hb e=>eb b o hb e) f0 f1 f3 f4 f5⟩
 self:=λ_ _ _ _ _ st h=>bB7 st h
section
variable {X:Cx}{tg:Expr}
def iRevT (K:Frag)(ta:TA):TI:=λσ H R=>ta σ H λvs H1=> ∃l xs,vs=[.ref l]/\SqT K H1 l xs/\R (Itv K l xs.length) H1
theorem dM5 {a:Expr}{ta:TA}(hg:Gl X "reversed")(hm:X.mg "reversed"=none)(ha:PA X [a] ta)(hs:↥(starEach [a] X.env=[(false,eval a X.env)])) :
  PI X tg (.Call (.Name "reversed" p) [a] [] pos) (iRevT X.K ta):=by
 intro pins s σ H R I h;refine Call_ (v8 I hg hm PyProof.Rows.boot_reversed<|kA (thn (ha pos pins s σ H _ I h) λus s1 ⟨vs,H1,I1,r1,q1⟩=> ?_) hs rfl)
 obtain⟨l,xs,e,q1,q⟩:=q1;subst e;obtain⟨u,rfl,r⟩:=vals1 r1;cases r;obtain⟨its,rv,p1,hz⟩:=I1.tuple q1;have hl:=rv.length;have big:(sizeLine:Int)<2^63:=ac
 refine d63 p1 (by rw[bI];lia) ?_
 have hi:vC (s1.heap.push {cls:= .type "reversed",data:= .fields #[.ref l,rawInt<|(its.toArray.size:Int)-1]}) s1.heap.objs.size l ((xs.length:Int)-1-((0:Nat):Int)):=⟨_,bX _ rfl,rfl,by
  rw[bI,hl];simp⟩
 refine bB7 (s:={s1 with heap:=s1.heap.push {cls:= .type "reversed",data:= .fields #[.ref l,rawInt<|(its.toArray.size:Int)-1]},toks:=s1.toks+1+1}) hi ?_
 refine⟨_,[s1.heap.objs.size],_,_,H1,rfl,I1.kept (t':=s1.toks+1+1) λb o e=>aW _ e,d65 xs.length hz,hi,λb hb=> ?_,q⟩
 have e:b=s1.heap.objs.size:=by simpa using hb
 subst e;exact I1.fpOk (aG _) (I1.hok.fresh<|aG _)
end
end L2
namespace M
section
variable {X:Cx}{A:AS}{H:Hp}{K:Frag}{pos:Pos}{a:Expr}
theorem cV7 {vs:List V}{l:List D}(c1:SqA K A H true l1 vs)(r1:bP K A H l vs):c35 K A H (Itv K l1 vs.length) l.length (λi=>l.getD (l.length-1-i) .non):=by
 have k1:=r1.length;refine⟨λA' H' i P hi=>⟨aa,vs,c1.sqv P,rfl⟩,λA' H' i x H'' P hA hi y=> ?_,λA' H' P=>k1⟩
 obtain⟨x1,e1,q1⟩:=r1.at (i:=l.length-1-i) aa
 obtain⟨e,ha⟩:=y;subst e;have ea:=ha vs (c1.sqv P);rw[<-k1,e1]at ea;cases ea;exact⟨.refl _,q1.mono P⟩
def cO0 (ta:UA):UI:=λρ Q=>ta ρ λds ρ1=>match ds with
 | [.tup l]=>Q l.length (λi=>l.getD (l.length-1-i) .non) ρ1
 | _=>False
theorem cO1 {ta:UA}(hg:Gl X "reversed")(hm:X.mg "reversed"=none)(ha:PUA X [a] ta)(hs:↥(starEach [a] X.env=[(false,eval a X.env)])) :
  PUI X tg (.Call (.Name "reversed" p) [a] [] pos) (cO0 ta):=
 b41 (dM5 hg hm ha hs) λσ H R ⟨C,ρ,Q0,I,h,k⟩=>⟨C,ρ,_,I,h,λds ρ1 vs H1 q f s r=>by
  split at q
  .rename_i l
   obtain⟨v,vr,rfl,rv,rr⟩:=r.uncons;have:=rr.unnil;subst this;simp only[Rep]at rv;obtain⟨a1,us,rfl,c1,s1⟩:=rv;have c2:SqA _ _ _ true a1 us:=c1;exact⟨a1,us,rfl,c2.sqv .self,k _ _ ρ1 _ H1 q f s<|cV7 c2 s1⟩
  .exact q.elim⟩
def bQ2 (d e:D)(Q:B->Prop):Prop:=match d,e with
 | .tup l,.int k=>(l≠[]/\ -(2^63)<=k/\k<2^63/\l.length*k.toNat<=sizeLine)/\Q (.pu<|.tup (replicate k.toNat l).flatten)
 | _,_=>False
theorem bW1:OpU X (binaryOp .Mult) bQ2:=by
 intro A H d e v w Q0 Q hA r1 r2 g k;unfold bQ2 at g;split at g
 .rename_i l kk
  have:=bQ r2;subst this;simp only[Rep]at r1;obtain⟨a,vs,rfl,c1,rs1⟩:=r1;obtain⟨⟨h0,h1,h2,h3⟩,g⟩:=g;refine⟨_,dM2,a,kk,vs,rfl,rfl,c1.imp cS id,λz=>h0 ?_,h1,h2,by rw[<-rs1.length];exact h3,λz=> ?_,λz p n=>k _ _ _ g (fJ n _) (j4 hA n<|rs1.rep _)⟩
  .have:=rs1.length;rw[z]at this;exact uI.mp this
  .subst z;refine k _ _ H g (.refl _) ?_;show Rep X.K A H (.tup _) (.ref a);simp only[Rep];exact⟨a,vs,rfl,c1,by simpa using rs1⟩
 .exact g.elim
end
section
variable {X:Cx}
theorem bB8 {K:Frag}{A:AS}{H:Hp}: ∀r:List Int,bP K A H (r.map D.int) (r.map V.int)
 | []=> .nil
 | a::r=> .cons (by simp only[Rep]) (bB8 r)
theorem dM6 {r:List Int}(hg:Gl X x)(hm:X.mg x=some (.ref a))(hk:KT X.K a (r.map V.int))(hd:⇑((x==("__debug__":Str))=false)):PU X (.Name x p) (uC<|.tup<|r.map .int):=
 bU7 (cM0 (v:= .ref a) hg hm rfl hd) λA H=>by
  simp only[Rep];exact⟨a,r.map V.int,rfl,.inr hk,bB8 r⟩
theorem kt_of {its:Array Value}{sl:Array (Option Value)}{vs:List V}(hl:K.lookup a=some ⟨.type "tuple",od,.seq its n,sl⟩)(hz:its.size<=sizeLine)(hv:Vals vs its.toList):KT K a vs:=
 ⟨_,its,n,hl,rfl,rfl,hz,hv⟩
end
end M
end
section
namespace L2
end L2
namespace M
end M
end
section
namespace L2
end L2
namespace M
section
variable {X:Cx}{a:Expr}{pos:Pos}{ta:UE}
noncomputable def D.isN:D->Bool
 | .non=>true
 | _=>false
theorem cO2 {K:Frag}{A:AS}{H:Hp}: ∀{d:D} {v:V},Rep K A H d v->decide (v= .non)=d.isN
 | .non,v,h=>by simp only[Rep]at h;subst h;rfl
 | .bl _,v,h=>by simp only[Rep]at h;subst h;rfl
 | .int _,v,h=>by simp only[Rep]at h;subst h;rfl
 | .str _,v,h=>by simp only[Rep]at h;subst h;rfl
 | .ty _,v,h=>by simp only[Rep]at h;subst h;rfl
 | .tup _,v,h=>by simp only[Rep]at h;obtain⟨a,vs,rfl,_⟩:=h;rfl
 | .lst _,v,h=>by simp only[Rep]at h;obtain⟨a,vs,rfl,_⟩:=h;rfl
 | .rol _,v,h=>by simp only[Rep]at h;obtain⟨a,vs,rfl,_⟩:=h;rfl
 | .obj _ _ _,v,h=>by simp only[Rep]at h;obtain⟨a,dx,vs,rfl,_⟩:=h;rfl
 | .adr _,v,h=>by simp only[Rep]at h;subst h;rfl
 | .xob _ _ _ _,v,h=>by simp only[Rep]at h;obtain⟨vs,rfl,_⟩:=h;rfl
def bK8 (neg:Bool)(t:UE):UE:=λρ Q=>t ρ λb ρ1=>Q (.pu<|.bl<|neg ^^ b.d.isN) ρ1
theorem lIsN (σ:L2.St)(H:Hp)(Q:VK)(h:lE X.K (bK8 false ta) σ H Q):tIsN (lE X.K ta) σ H Q:=by
 obtain⟨C,ρ,Q0,I,h,k⟩:=h;refine⟨C,ρ,_,I,h,λb ρ' v H' q f s r=> ?_⟩
 have e:=cO2 (r.rep λa z=>I.avF f z)
 refine k _ ρ' _ H' q f s ?_
 show Rep _ _ _ _ _
 simp only[Rep,o9];rw[e]
theorem lNotN (σ:L2.St)(H:Hp)(Q:VK)(h:lE X.K (bK8 true ta) σ H Q):dT9 (lE X.K ta) σ H Q:=by
 obtain⟨C,ρ,Q0,I,h,k⟩:=h;refine⟨C,ρ,_,I,h,λb ρ' v H' q f s r=> ?_⟩
 have e:=cO2 (r.rep λa z=>I.avF f z)
 refine k _ ρ' _ H' q f s ?_
 show Rep _ _ _ _ _
 simp only[Rep,oB];rw[e]
theorem bW2 {j pos'}(ha:PU X a ta):PUT X (.Compare a [.Is] [.Constant .none j pos'] pos) (fO<|bK8 false ta):=c30 (d05<|pc_isN ha) λσ H Q h=>lIsN σ H _ (dK1 σ H Q h)
theorem c47 {j pos'}(ha:PU X a ta):PUT X (.Compare a [.IsNot] [.Constant .none j pos'] pos) (fO<|bK8 true ta):=c30 (d05<|dI0 ha) λσ H Q h=>lNotN σ H _ (dK1 σ H Q h)
end
mutual
noncomputable def D.nl:D->Bool
 | .tup l=>D.nls l
 | .lst _=>false
 | .rol _=>false
 | .obj _ _ _=>false
 | .adr _=>false
 | .xob _ _ _ _=>false
 | .non=>true
 | .bl _=>true
 | .int _=>true
 | .str _=>true
 | .ty _=>true
noncomputable def D.nls:List D->Bool
 | []=>true
 | d::l=>d.nl&&D.nls l
end
theorem c48: ∀r:List Int,D.nls (r.map D.int)=true
 | []=>by simp only[jI,D.nls]
 | a::r=>by simp only[cR,D.nls,D.nl,c48 r,Bool.and_true]
section
variable {K:Frag}{A A':AS}{H H':Hp}
mutual
theorem Rep.nl (p: ∀a vs,¬A a->Rd H a (.tup vs)-> ¬A' a/\Rd H' a (.tup vs)): ∀{d:D} {v:V},d.nl=true->Rep K A H d v->Rep K A' H' d v
 | .non,_,_,h=>h
 | .bl _,_,_,h=>h
 | .int _,_,_,h=>h
 | .str _,_,_,h=>h
 | .ty _,_,_,h=>h
 | .tup l,v,q,h=>by
  simp only[Rep]at h⊢;obtain⟨a,vs,e,c,r⟩:=h;simp only[D.nl]at q;refine⟨a,vs,e,?_,bP.nl p q r⟩;rcases c with⟨n,c⟩|c
  .exact .inl (p a vs n c)
  .exact .inr c
 | .lst _,_,q,_=>by simp only[D.nl]at q;cases q
 | .rol _,_,q,_=>by simp only[D.nl]at q;cases q
 | .obj _ _ _,_,q,_=>by simp only[D.nl]at q;cases q
 | .adr _,_,q,_=>by simp only[D.nl]at q;cases q
 | .xob _ _ _ _,_,q,_=>by simp only[D.nl]at q;cases q
theorem bP.nl (p: ∀a vs,¬A a->Rd H a (.tup vs)-> ¬A' a/\Rd H' a (.tup vs)): ∀{l:List D} {vs:List V},D.nls l=true->bP K A H l vs->bP K A' H' l vs
 | [],_,_,h=>by simp only[bP]at h ⊢; exact h
 | d::ds,vs,q,h=>by
  simp only[bP]at h⊢;simp only[D.nls,dU]at q;obtain⟨v,vr,e,r,rs⟩:=h;exact⟨v,vr,e,Rep.nl p q.1 r,bP.nl p q.2 rs⟩
end
end
noncomputable def ltL:List Int->List Int->Bool
 | [],[]=>false
 | [],_::_=>true
 | _::_,[]=>false
 | a::x,b::y=>if a=b then ltL x y else decide (a<b)
section
variable {prog:Program}{w:World}{A:Around}{E:Value->Shared->Prop}{s:Shared}
theorem d66 {lt:Bool}{P:PySem.Fin->Shared->Prop}(ho:s.heap.get? a=some (seqObj "list" [u,v].toArray n))
  (hy: ∀h':Heap,(∀b o,b≠a->s.heap.get? b=some o->h'.get? b=some o)-> ∃κ:SortKind,
   (∀Q:SortKind->Shared->Prop,Q κ {s with heap:=h'}->wpAny (model prog w) A (keyKind' [u,v].toArray) Q (λ_ _=>False) {s with heap:=h'})/\
   (∀Q:Bool->Shared->Prop,Q lt {s with heap:=h'}->wpAny (model prog w) A (keyLt' κ v u) Q (λ_ _=>False) {s with heap:=h'}))
  (fi:P (.done<|.ret .none) {s with heap:=sortedHeap s.heap a [u,v] (if lt=true then [v,u].toArray else [u,v].toArray)}) :
  wpAny (model prog w) A (Builtin.«list.sort» ⟨[.ref a],[]⟩) P E s:=by
 rw[list_sort_plain];have la:a<s.heap.objs.size:=aY ho;refine aB (listItems_at ho rfl ?_);refine aB (listUpdate_at ho rfl ?_ (show 2<=sizeLine by decide) (cK _))
 obtain⟨c1,h1⟩: ∃c1,(s.heap.update a<|Obj.mapSeq λ_=> #[]).get? a=some (seqObj "list" #[] c1):=⟨_,get?_update_seq ho λ_=> #[]⟩
 refine aB (seqEpoch_at h1 rfl ?_)
 refine aB (wpAny_newTuple ?_<|show 2<=sizeLine by decide)
 refine aB (wpAny_newList ?_<|cK _)
 refine iK ?_
 have h6:(((s.heap.update a<|Obj.mapSeq λ_=> #[]).push<|seqObj "tuple" [u,v].toArray 0).push<|seqObj "list" #[] 0).get? a=some (seqObj "list" #[] c1):=by
  rw[qX _ _ _ (by rw[size_push',uW];exact bL (lJ la))]
  rw[qX _ _ _ (by rw[uW];exact bL la)]
  exact h1
 have kp: ∀b o,b≠a->s.heap.get? b=some o->(((s.heap.update a<|Obj.mapSeq λ_=> #[]).push<|seqObj "tuple" [u,v].toArray 0).push<|seqObj "list" #[] 0).get? b=some o:=λb o ne q=>by
  have lb:b<s.heap.objs.size:=aY q;rw[qX _ _ _ (by rw[size_push',uW];exact bL (lJ lb))]
  rw[qX _ _ _ (by rw[uW];exact bL lb),zW _ _ _ _ ne]
  exact q
 obtain⟨κ,y1,y2⟩:=hy _ kp;show wpAny (model prog w) A _ P E {s with heap:=((s.heap.update a<|Obj.mapSeq λ_=> #[]).push<|seqObj "tuple" [u,v].toArray 0).push (seqObj "list" #[] 0)}
 dsimp only;have n2: ¬[u,v].toArray.size<2:=show ¬2<2 by decide
 rw[a9 n2,a9 n2];refine aB (bF (y1 (λk s'=>k=κ/\s'={s with heap:=((s.heap.update a<|Obj.mapSeq λ_=> #[]).push<|seqObj "tuple" [u,v].toArray 0).push (seqObj "list" #[] 0)}) ⟨rfl,rfl⟩) ?_ λ_ _ z=>z.elim)
 rintro k s' ⟨rfl,rfl⟩;refine aB (bF (PySem.W.kat_run (ks:=[u,v]) (vs:=[u,v]) (Q:=λst' s'=>s'={s with heap:=((s.heap.update a<|Obj.mapSeq λ_=> #[]).push<|seqObj "tuple" [u,v].toArray 0).push (seqObj "list" #[] 0)}/\failedOf st'=none/\(arrOf st').map (·.2)=(if lt=true then [v,u].toArray else [u,v].toArray))
  (G:=λp s'=>s'={s with heap:=((s.heap.update a<|Obj.mapSeq λ_=> #[]).push<|seqObj "tuple" [u,v].toArray 0).push (seqObj "list" #[] 0)}/\p=(if lt=true then #[1,0]else #[0,1]))
  rfl (show 2<=2 by decide) (show 2<64 by decide) (λp st' s' _ e2 e3 ⟨e4,e5⟩=>⟨e4,e3,?_⟩) ?_) ?_ λ_ _ z=>z)
 .rw[PySem.W.kat_snds rfl e2,e5];cases lt<;>rfl
 .show wpAny (model prog w) A (keyLt' k v u) _ (λ_ _=>False) _
  refine y2 _ ?_
  cases lt
  .exact⟨rfl,rfl⟩
  .refine⟨rfl,?_⟩
   rw[aA rfl];dsimp only[List.length_cons,List.length_nil]
   decide +kernel
 .rintro⟨⟨⟩,st'⟩ s' ⟨rfl,e3,e4⟩;dsimp only;rw[e4];refine aB (seqEpoch_at h6 rfl ?_);refine aB (listUpdate_at h6 rfl ?_ (cK _) (by cases lt<;>exact(show 2<=sizeLine+1 by decide)))
  rw[e3];simp only[bne_self_eq_false,aO0,fM];exact aL fi
theorem cG5 {lt:Bool}(hl:s.heap.IsList l [u,v].toArray)
  (hy: ∀(h':Heap) (A:Around),(∀b o,s.heap.get? b=some o->h'.get? b=some o)-> ∃κ:SortKind,
   (∀Q:SortKind->Shared->Prop,Q κ {s with heap:=h'}->wpAny (model prog w) A (keyKind' [u,v].toArray) Q (λ_ _=>False) {s with heap:=h'})/\
   (∀Q:Bool->Shared->Prop,Q lt {s with heap:=h'}->wpAny (model prog w) A (keyLt' κ v u) Q (λ_ _=>False) {s with heap:=h'}))
  (fi:Q (.ref<|s.heap.objs.size+1) {s with heap:=sortedAll s.heap [u,v] (if lt=true then [v,u].toArray else [u,v].toArray)}) :
  wpAny (model prog w) A (call (.builtin "sorted") [.ref l]) Q E s:=by
 refine Calls.call_function_entry kind_sorted plain_sorted entry_sorted (args_sorted1 _) ?_
 unfold Builtin.«sorted»;refine aB (m:=checkCount "sorted" 1 1 _) (aL ?_);refine aB (collect_list hl ?_<|show 2<=sizeLine by decide)
 refine aB (wpAny_newList ?_<|show 2<=sizeLine by decide)
 have hz:((s.heap.push<|seqObj "list" #[] 0).update s.heap.objs.size (Obj.mapSeq (· ++[u,v].toArray))).objs.size=s.heap.objs.size+1:=by rw[uW,size_push']
 have hL:(((s.heap.push<|seqObj "list" #[] 0).update s.heap.objs.size (Obj.mapSeq (· ++[u,v].toArray))).push<|seqObj "list" [u,v].toArray 0).get? (s.heap.objs.size+1)=some (seqObj "list" [u,v].toArray 0):=by
  rw[<-hz];exact bX _ rfl
 have kp: ∀b o,s.heap.get? b=some o->(((s.heap.push<|seqObj "list" #[] 0).update s.heap.objs.size (Obj.mapSeq (· ++[u,v].toArray))).push<|seqObj "list" [u,v].toArray 0).get? b=some o:=λb o q=>by
  have lb:b<s.heap.objs.size:=aY q;rw[qX _ _ _ (by rw[hz];exact bL (lJ lb))]
  rw[zW _ _ _ _<|bL lb,qX _ _ _<|bL lb];exact q
 show wpAny _ _ _ _ _ {s with heap:=((s.heap.push<|seqObj "list" #[] 0).update s.heap.objs.size (Obj.mapSeq (· ++[u,v].toArray))).push (seqObj "list" [u,v].toArray 0)}
 rw[hz];refine aB (iK<|jF slot_list_sort ⟨_,hL,rfl⟩ entry_list_sort (d66 (lt:=lt) hL (λh' k=> ?_) ⟨_,rfl,?_⟩)<|args_list_sort _)
 .exact hy h' _ λb o q=>k b o (bL<|lJ<|aY q) (kp b o q)
 .exact aL ⟨_,rfl,fi⟩
theorem c49 {Q:Bool->Shared->Prop}{fin:Bool}: ∀(us ws:List Int) (x y:List Value) (i:Nat),Vals (us.map V.int) x->Vals (ws.map V.int) y->fin=decide (us.length<ws.length)->Q (ltL us ws) s->PySem.W.KatLex prog w A true fin Q (x.zip y) i s
 | [],[],x,y,i,hx,hy,hf,q=>by
  cases hx;cases hy;rw[hf];exact q
 | [],b::ws,x,y,i,hx,hy,hf,q=>by
  cases hx;rw[hf];exact q
 | a::us,[],x,y,i,hx,hy,hf,q=>by
  cases hx;cases hy;rw[hf];exact q
 | a::us,b::ws,x,y,i,hx,hy,hf,q=>by
  rw[cR]at hx hy;cases hx with
  | cons r1 hx=>
   cases hy with
   | cons r2 hy=>
    obtain⟨t1,rfl⟩:=r1;obtain⟨t2,rfl⟩:=r2;rw[aO1];refine PySem.W.kat_cons (wpAny_eqBool_int ?_)
    by_cases c:a=b
    .subst c;rw[aO9];refine PySem.W.kat_yes (c49 us ws _ _ (i+1) hx hy (by rw[hf];simp) ?_)
     unfold ltL at q;rw[aA rfl]at q;exact q
    .rw[show(a==b)=false by simpa using c]
     refine PySem.W.kat_no ?_
     unfold ltL at q;rw[a9 c]at q;cases e:(true&&i==0)
     .exact PySem.W.kat_one _ _ (lt_int q)
     .exact oneLt_int q
end
section
variable {X:Cx}
theorem cG6:tN X (.builtin "sorted") (λxs H Q=> ∃(p a1 a2:Addr) (i j:Int) (us ws:List Int),xs=[.ref p]/\SqL X.K H p [.ref a1,.ref a2]/\SqT X.K H a1 ((i::us).map V.int)/\SqT X.K H a2 ((j::ws).map V.int)/\
  ∀l,H l=none->Q (.ref l) (upd H l<|.lst<|if ltL (j::ws) (i::us)=true then [.ref a2,.ref a1]else [.ref a1,.ref a2])):=by
 intro pins s σ H xs us' Q I r h;obtain⟨p,a1,a2,i,j,us,ws,rfl,hq,t1,t2,q⟩:=h;obtain⟨u,rfl,rx⟩:=vals1 r;cases rx;obtain⟨its,rv,pl,hz⟩:=I.list hq;obtain⟨x1,r1,k1,z1⟩:=I.tuple t1;obtain⟨x2,r2,k2,z2⟩:=I.tuple t2;cases rv with
 | cons g1 rv=>
 cases rv with
 | cons g2 rv=>
 cases rv;cases g1;cases g2;refine cG5 (lt:=ltL (j::ws) (i::us)) pl.isList (λh' A kp=> ?_) ?_
 .obtain⟨o1,ho1,hc1,n1,hd1⟩:=k1;obtain⟨o2,ho2,hc2,n2,hd2⟩:=k2;rw[cR]at r1 r2;cases r1 with
  | cons f1 r1=>
  cases r2 with
  | cons f2 r2=>
  have v1:Vals ((i::us).map V.int) _:= .cons f1 r1;have v2:Vals ((j::ws).map V.int) _:= .cons f2 r2;obtain⟨t1,rfl⟩:=f1;obtain⟨t2,rfl⟩:=f2;refine⟨tuples'<|Value.type "int" != Value.type "tuple",λQ' q'=> ?_,λQ' q'=> ?_⟩
  .refine PySem.W.kat_kind (fs:=[.int i t1,.int j t2]) (T:= .type "int") (.cons (kp _ _ ho1) hc1 hd1 rfl (.cons (kp _ _ ho2) hc2 hd2 rfl .nil)) (cO _) (λv hv=> ?_) ac q'
   rcases bE.mp hv with rfl|hv
   .exact .now
   .rw[iH.mp hv];exact .now
  .have e:(Value.type "int" != Value.type "tuple")=true:=ac
   rw[e];refine PySem.W.kat_lt (kp _ _ ho2) hd2 (kp _ _ ho1) hd1 (c49 _ _ _ _ 0 (by simpa using v2) (by simpa using v1) ?_ q')
   have l1:=v1.length;have l2:=v2.length;simp only[aO]at l1 l2;simp only[bI];rw[<-l1,<-l2]
 .refine⟨.ref<|s.heap.objs.size+1,_,?_,rfl,q (s.heap.objs.size+1)<|I.hok.fresh<|v4 _⟩
  obtain⟨c,hc⟩:=sortedAll_at s.heap [Value.ref a1,Value.ref a2] (if ltL (j::ws) (i::us)=true then [Value.ref a2,Value.ref a1].toArray else [Value.ref a1,Value.ref a2].toArray);refine I.laid (t':=s.toks) (λb o e=>sortedAll_old e) (v4 _) ?_
  by_cases e:ltL (j::ws) (i::us)=true
  .rw[aA e]at hc⊢;exact⟨show 2<=sizeLine by decide,[.ref a2,.ref a1],c,.cons rfl (.cons rfl .nil),by rw[aA e];exact hc⟩
  .rw[a9 e]at hc⊢;exact⟨show 2<=sizeLine by decide,[.ref a1,.ref a2],c,.cons rfl (.cons rfl .nil),by rw[a9 e];exact hc⟩
noncomputable def cG7:List D->(B->Prop)->Prop:=g1 λd Q=> ∃(i j:Int) (us ws:List Int),d= .lst [.tup<|(i::us).map D.int,.tup<|(j::ws).map D.int]/\
 Q (.ow<|if ltL (j::ws) (i::us)=true then [.tup<|(j::ws).map D.int,.tup<|(i::us).map D.int]else [.tup<|(i::us).map D.int,.tup<|(j::ws).map D.int])
theorem d67:a69 X (.builtin "sorted") cG7:=by
 intro A H ds vs Q0 Q hA r g k;obtain⟨d,v,rfl,rfl,rv,i,j,us,ws,rfl,g'⟩:=aZ8 g r;simp only[Rep]at rv;obtain⟨p,xs,rfl,np,hp,rl⟩:=rv;obtain⟨y1,yr,rfl,s1,rl⟩:=rl.uncons;obtain⟨y2,yr,rfl,s2,rl⟩:=rl.uncons;have:=rl.unnil;subst this;have s1':=s1;have s2':=s2;simp only[Rep]at s1 s2;obtain⟨a1,w1,rfl,c1,q1⟩:=s1;obtain⟨a2,w2,rfl,c2,q2⟩:=s2;have e1:=bP.unints q1;have e2:=bP.unints q2;subst e1 e2
 refine⟨_,cG6,p,a1,a2,i,j,us,ws,rfl,.inl<|.inl hp,c1.imp cS id,c2.imp cS id,λl hl=>k _ _ _ g' (fJ hl _) ?_⟩
 cases ltL (j::ws) (i::us)
 .exact i9 (.refl _) hl (.cons s1'<|.cons s2' .nil)
 .exact i9 (.refl _) hl (.cons s2'<|.cons s1' .nil)
end
end M
end
section
namespace L2
end L2
namespace M
end M
end
section
namespace L2
end L2
namespace M
end M
end
section
namespace L2
end L2
namespace M
section
variable {X:Cx}{e:Expr}{es:List Expr}{pos:Pos}{te:UE}
theorem ilB (h:Nat.ble (i+1) X.N.length=true): ∀pins σ H s,Inv X pins σ H s->i<σ.length:=il rfl (aM9 h)
theorem aT (i:Nat){pos:Pos}(h:PE X (.Name x pos) (aP6 i):=by exact pv _):PU X (.Name x pos) (aF i):=gZ i h
theorem cD (i:Nat){pos:Pos}(h:PE X (.Name x pos) (aP6 i):=by exact pv _):PUV X (.Name x pos) (b7 i):=a25 i h
theorem aT4 (i:Nat)(hN:X.N.Nodup)(he:PU X e te)(hi:↥(X.N[i]? =some x))(hx:Loc X.env.scope x:=by walk_at "z")(hs:↥(swapsWith e (some<|.Name x pos') pos.line X.env=pure false))(hf:X.fn x=true\/X.env.scope.names.lookup x=some .local:=by walk_at "z")
  (hl: ∀pins σ H s,Inv X pins σ H s->i<σ.length:=by exact ilB rfl):PUS X (.Assign [.Name x pos'] e pos) (bV i te):=a90 i hN hi hx he hs hf hl
theorem us_g {op:Operator}{g:D->D->(B->Prop)->Prop}(i:Nat)(hN:X.N.Nodup)(he:PU X e te)(ho:IpU X op g)(hi:↥(X.N[i]? =some x))(hx:Loc X.env.scope x:=by walk_at "z")(hf:X.fn x=true\/X.env.scope.names.lookup x=some .local:=by walk_at "z")
  (hl: ∀pins σ H s,Inv X pins σ H s->i<σ.length:=by exact ilB rfl):PUS X (.AugAssign (.Name x pos') op e pos) (c34 i g te):=d37 i hN hi hx he ho hf hl
theorem dO {a b:Expr}{ti:UE}{t:UV}(ha:PUV X a t)(hb:PU X b ti)(hs:bU0 b:=by exact λ_ _=>rfl):PU X (.Subscript a b pos) (uIx t ti):=bA9 ha hb hs
theorem dR {ps:List Str}{t:UA}(F:Fn X.prog X.w X.K X.mg X.base x ps k φ)(hr:i8 k' X.A)(ha:PUA X (e::es) t)(hk:⇑(k<=k'))(hg:↥(Gl X x))(hdb:⇑((x==("__debug__":Str))=false))
  (he:↥(starEach (e::es) X.env=(false,eval e X.env)::starEach es X.env)) (hpl:↥((backTo pos<|starEach es X.env).any (·.1)=false)):PU X (.Call (.Name x p) (e::es) [] pos) (aU φ t):=aT1 F hr hk hg ha hdb he hpl
end
section
variable {X:Cx}{es:List Expr}{t:UA}
theorem bK {i:Int}{j}(h:PUA X es t):PUA X (.Constant (.int i) j p::es) (aC (uC<|.int i) t):=aI aK h rfl
theorem tQ {fs:List Expr}{j}{ta:UE}(a:PU X (.Tuple fs j p) ta)(h:PUA X es t):PUA X (.Tuple fs j p::es) (aC ta t):=aI a h rfl
theorem b45 {o:UnaryOp}{ta:UE}(a:PU X (.UnaryOp o e p) ta)(h:PUA X es t):PUA X (.UnaryOp o e p::es) (aC ta t):=aI a h rfl
theorem aP (i:Nat)(h:PUA X es t)(a:PE X (.Name x p) (aP6 i):=by exact pv _):PUA X (.Name x p::es) (aC (aF i) t):=aI (gZ i a) h rfl
structure WA (X:Cx)(es:List Expr)(t:UA):Prop where
 out:PUA X es t
theorem a99:WA X [] aR:=⟨aE⟩
theorem a84 {i:Int}{j}(h:WA X es t):WA X (.Constant (.int i) j p::es) (aC (uC<|.int i) t):=⟨bK h.out⟩
theorem cV8 {i:Int}{j}{q:Pos}(h:WA X es t):WA X (.UnaryOp .USub (.Constant (.int i) j p) q::es) (aC (sK<|uC<|.int i) t):=⟨b45 (kU aK) h.out⟩
theorem cG8 {fs:List Expr}{j}{tf:UA}(a:WA X fs tf)(h:WA X es t):WA X (.Tuple fs j p::es) (aC (iT tf) t):=⟨tQ (eC a.out) h.out⟩
structure WS (X:Cx)(sts:List Stmt)(t:US):Prop where
 out:sW X sts t
theorem ws_of {sts:List Stmt}{u:US}(h:sW X sts u):WS X sts u:=⟨h⟩
theorem ws_lw {sts:List Stmt}{u:US}(h:WA X es t)(r:WS X sts u)(hN:X.N.Nodup)(hi:↥(X.N[i]? =some x))(hx:Loc X.env.scope x:=by walk_at "z")(hf:X.fn x=true\/X.env.scope.names.lookup x=some .local:=by walk_at "z")
  (hl: ∀pins σ H s,Inv X pins σ H s->i<σ.length:=by exact ilB rfl):WS X (.Assign [.Name x pos'] (.List es p) pos::sts) (aX (bV i<|n6 t) u):=⟨bO (a90 i hN hi hx (gC h.out) rfl hf hl) r.out⟩
end
abbrev GL:=List (Addr×List Int)
section
variable {X:Cx}{K:Frag}{C C':C0}{ρ ρ':Ev}{σ σ':L2.St}{H H' H0:Hp}{g g':GL}{r:Nat}{st:Stmt}{sts:List Stmt}{e:Expr}{pos:Pos}{t u:US}{te ti tj:UE}{tc:UT}
theorem dM7 {m:Nat}(h:n<m):ixN m (n:Int)=some n:=by
 unfold ixN;rw[aA aa,aA aa]
 simp
end
section
variable {X:Cx}{K:Frag}{C C':C0}{ρ ρ':Ev}{σ σ':L2.St}{H H' H0:Hp}{e:Expr}{pos:Pos}{te:UE}
def cG9 (t:UE):UE:=λρ Q=>t ρ λb _=>match b with
 | .pu d=>d.nl=true/\Q (.pu d) ρ
 | .ow l=>D.nls l=true/\Q (.ow l) ρ
 | _=>False
theorem d68 (h:PU X e te):PU X e (cG9 te):=jP h λσ H Q ⟨C,ρ,Q0,I,h,k⟩=>⟨C,ρ,_,I,h,λb ρ' v H' q f s r=>by
 have noT: ∀(a:Addr) (vs:List V),Own ρ σ a->Rd H' a (.tup vs)->False:=λa vs ⟨i,l,h1,h2⟩ c=>by
  obtain⟨b,ws,g1,g2,_⟩:=I.ow i l h1;rw[h2]at g1;cases g1;have g3:=s _ _ g2;rcases c with c| ⟨o,c⟩
  .rw[g3]at c;cases c
  .rw[g3]at c;cases c
 cases b with
 | pu d=>
  refine k (.pu d) ρ v H' q.2 (.refl _) s ?_
  refine Rep.nl (λa vs n c=>⟨?_,c⟩) q.1 (show Rep _ _ _ d v from r)
  rintro(z|z)
  .exact n (.inl z)
  .exact noT a vs z c
 | ow l=>
  obtain⟨a,vs,rfl,n0,e1,rl⟩:=r;refine k (.ow l) ρ _ H' q.2 (.refl _) s ⟨a,vs,rfl,n0,e1,?_⟩;refine bP.nl (λb ws n c=>⟨?_,c⟩) q.1 rl
  rintro((z|z)|z)
  .exact n (.inl<|.inl z)
  .exact noT b ws z c
  .exact n (.inr z)
 | bo l=>exact q.elim⟩
end
end M
end
section
namespace L2
end L2
namespace M
end M
end
section
namespace L2
end L2
namespace M
section
variable {X:Cx}{e a b:Expr}{te ta tb:UE}{t u:US}{sts:List Stmt}{pos:Pos}
theorem jS {g:D->D->(B->Prop)->Prop}(ho:OpU X (compareOp op) g)(ha:PU X a ta)(hb:PU X b tb)(hm:behindInMarks op b=false:=by exact bT8 _):PUT X (.Compare a [op] [b] pos) (fO<|uOp g ta tb):=b84 ho ha hb hm
theorem dM8 {g:D->D->(B->Prop)->Prop}(ho:OpU X (compareOp op) g)(ha:PU X a ta)(hb:PU X b tb)(hm:behindInMarks op b=false:=by exact bT8 _):PU X (.Compare a [op] [b] pos) (uOp g ta tb):=pu_cmp ho ha hb hm
theorem bU (i:Nat)(hN:X.N.Nodup)(he:PU X e te)(r:sW X sts u)(hi:↥(X.N[i]? =some x))(hx:Loc X.env.scope x:=by walk_at "z")(hs:↥(swapsWith e (some<|.Name x pos') pos.line X.env=pure false))(hf:X.fn x=true\/X.env.scope.names.lookup x=some .local:=by walk_at "z")
  (hl: ∀pins σ H s,Inv X pins σ H s->i<σ.length:=by exact ilB rfl):sW X (.Assign [.Name x pos'] e pos::sts) (aX (bV i te) u):=bO (aT4 i hN he hi hx hs hf hl) r
theorem fU (h:PU X e te):sW X [.Return (some e) pos] (dQ te):=bN (d35 h)
theorem bW3 {tc:UT}(hc:PUT X c tc)(ha:sW X sts t):PUS X (.If c sts [] pos) (iU tc t fT):=cN1 hc ha cF1
theorem lW {tc:UT}{r:List Stmt}(hc:PUT X c tc)(ha:sW X sts t)(hr:sW X r u):sW X (.If c sts [] pos::r) (aX (iU tc t fT) u):=bO (bW3 hc ha) hr
theorem xC {ui:UI}(i:Nat)(hN:X.N.Nodup)(hi:PUI X (.Name x p) iter ui)(hb:sW X sts t)(hp:PassesOwn (model X.prog X.w) X.A X.env X.xe:=by exact iI)(hc:↥(X.calm=true))(hx:↥(X.N[i]? =some x))(hl:Loc X.env.scope x:=by walk_at "z")
  (hs: ∀x,foldedSetIterable iter X.env x=pure x:=by intro _;rfl) (hf:X.fn x=true\/X.env.scope.names.lookup x=some .local:=by walk_at "z"):PUS X (.For (.Name x p) iter sts [] pos) (nA ui (dG i) t):=aZ6 hp hc hi (a26 i<|cM hN hx hl hf) hb hs
theorem sM (N:List Str)(esc:List (Str×NameKind))(XN:List Str){ui:UI}{tt:UT}(hi:PUI X (.Name x p) iter ui)(ht: ∀cl C s H fp pins,PTs (bM X N scope cl C s H fp pins) ifs<|lT X.K tt)(he: ∀cl C s H fp pins,PU (bM X N scope cl C s H fp pins) elt te)
  (he0:↥(X.env.scope.names=esc)) (hx0:↥(X.N=XN)) (lk:u9 esc XN N cap scope last=true:=by decide +kernel) (hl:⇑(last<cap.length)) (hT:⇑(last ∉ [i])) (hc:↥(X.calm=true)) (hN:N.Nodup:=by decide +kernel) (hx:↥(N[i]? =some x)) (hy: ∀cl C s H fp pins,Loc (bM X N scope cl C s H fp pins).env.scope x:=by intro _ _ _ _ _ _;first|exact Or.inl rfl|exact Or.inr rfl)
  (hs: ∀x,foldedSetIterable iter X.env x=pure x:=by intro _;rfl) (hf: ∀cl C s H fp pins,(bM X N scope cl C s H fp pins).fn x=true\/(bM X N scope cl C s H fp pins).env.scope.names.lookup x=some .local:=by intro _ _ _ _ _ _;first|exact .inl rfl|exact .inr rfl|assumption):PU X (.ListComp elt [⟨.Name x p,iter,ifs,0⟩] scope pos) (gG js cap last ui (dG i) tt te):=
 a96 he0 hx0 lk hl hT hc hi (λ_ _ _ _ _ _=>a26 i (cM hN hx (hy ..)<|hf ..)) ht he hs
end
section
variable {X:Cx}{K:Frag}{ρ ρ':Ev}{σ σ':L2.St}{H H':Hp}
variable {o e e2:Expr}{te te2:UE}{x y:Str}{px py py2 apos cpos bpos fpos apos2 cpos2 epos:Pos}
end
end M
end
section
namespace L2
section
variable {X:Cx}{elt tg2 iter2:Expr}{c1:Comprehension}{ifs2:List Expr}{scope:Scope}{pos:Pos}
def d69 (e i2:Expr)(acc:Value)(env:Env):Sem Unit:=do
 let x<-eval i2 env
 standAt i2.pos
 let x<-foldedSetIterable i2 env x
 let _<-runOwn (.compStart e 1 (<-holding [x] (pyIter x)) acc env) env
theorem d70 {R:Result->Shared->Prop}{it acc:Value}
  (h0:codeAny (model P w) A (.compLoop (.ListComp elt [c1,⟨tg2,iter2,ifs2,0⟩] scope pos) 1 it acc env) R s)
  (h:wpAny (model P w) A (pyIter it) (λi' s'=>codeAny (model P w) A (.compLoop (.ListComp elt [c1,⟨tg2,iter2,ifs2,0⟩] scope pos) 1 i' acc env) R s') (notedBy (model P w) A env λx s'=>R (.error x) s') s) :
  codeAny (model P w) A (.compStart (.ListComp elt [c1,⟨tg2,iter2,ifs2,0⟩] scope pos) 1 it acc env) R s:=by
 refine aP3 ?_
 show wpAny _ _ ((compStart (.ListComp elt [c1,⟨tg2,iter2,ifs2,0⟩] scope pos) 1 it acc env).onRaise _) _ _ s
 refine wpAny_notedAt ?_
 unfold compStart;show wpAny _ _ (ask >>= _) _ _ s;refine aB (wpAny_askSetting<|wpAny_ite ?_);split
 .first
   | exact aB (aL<|aL ⟨rfl,h0⟩)
   | exact aL ⟨rfl,h0⟩
 .refine aB (lN ?_)
  show wpAny _ _ (standAt iter2.pos >>= _) _ _ s
  exact aB (kI<|aB<|bF h (λi' s' h'=>aL ⟨rfl,h'⟩) λ_ _ x=>x)
theorem d71 {it acc:Value}:compTurn (.ListComp elt [⟨tg,iter,ifs,0⟩,⟨tg2,iter2,ifs2,0⟩] scope pos) 0 it acc env=a29 (.ListComp elt [⟨tg,iter,ifs,0⟩,⟨tg2,iter2,ifs2,0⟩] scope pos) 0 tg iter.pos ifs (d69 (.ListComp elt [⟨tg,iter,ifs,0⟩,⟨tg2,iter2,ifs2,0⟩] scope pos) iter2 acc env) it acc env:=by
 unfold a29 d69;simp only[bind_assoc,pure_bind];rfl
def tInn (wi2:TI)(g2:TG)(tt2:TT)(te:TE)(D:Addr)(σ:St)(H:Hp)(Nx:St->Hp->Prop):Prop:=wi2 σ H λJ H1=> ∃W:Nat->Nat->St->Hp->Prop,(∃m,W 0 m σ H1)/\ ∀i m σ' H',W i m σ' H'->
 (J.stop i H'/\Nx σ' H')\/(J.go i H'/\ ∃N:St->Hp->Prop,(∀σ2 H2,N σ2 H2-> ∃m',m'<m/\W (i+1) m' σ2 H2)/\ ∀x H2,J.yld i H' x H2->g2 x σ' H2 λσ3 H3=>tt2 σ3 H3 λc H4=>if c=true then tPut te D σ3 H4 N else N σ3 H4)
theorem dM9 {wi2:TI}{g2:TG}{tt2:TT}{te:TE}(hc:X.calm=true)(hx: ∀e s,¬X.xe e s)(hi:PI X tg2 iter2 wi2)(hg:PG X tg2 g2)(ht:PTs X ifs2 tt2)(he:PE X elt te)(hs: ∀x,foldedSetIterable iter2 X.env x=pure x:=by intro _;rfl) :
  PEm X (d69 (.ListComp elt [c1,⟨tg2,iter2,ifs2,0⟩] scope pos) iter2) (tInn wi2 g2 tt2 te):=by
 intro D pins s σ H Nx I h;refine aB (thn (hi pins s σ H _ I h) λv s1 h1=>aB (kI<|aB<|jL (hs v)<|aB<|iK<|thn h1 λitv s2 h2=> ?_))
 obtain⟨ita,fp,tn,J,H2,rfl,I2,T,st2,f2,W,⟨m0,w0⟩,turn⟩:=h2;have stat: ∀{H':Hp},(∀b∈fp,H' b=none)-> ∀b∈fp,aS5 X pins H' b:=λhn b hb=>⟨hn b hb,(f2 b hb).2⟩
 have loop:codeAny (model X.prog X.w) X.A (.compLoop (.ListComp elt [c1,⟨tg2,iter2,ifs2,0⟩] scope pos) 1 (.ref ita) (.ref D) X.env) (λr s'=>r= .ok .next/\ ∃σ' H',Inv X pins σ' H' s'/\Nx σ' H') s2:=by
  refine sL (target:=tg2) (p0:=iter2.pos) (ifs:=ifs2) (em:=dU7 elt (.ref D) X.env) (λn s'=> ∃i σ' H',Inv X pins σ' H' s'/\tn i s'.heap/\(∀b∈fp,H' b=none)/\W i n σ' H') rfl ?_ m0 ⟨0,σ,H2,I2,st2,λb hb=>(f2 b hb).1,w0⟩
  rintro n s3 ⟨i,σ3,H3,I3,st3,fr3,w3⟩;rcases turn i n σ3 H3 w3 with⟨stop,qn⟩| ⟨go,N,hN,step⟩
  .refine bF (T.done X rfl rfl rfl hc i pins s3 σ3 H3 X.xe I3 (stat fr3) st3 stop) (λr s4 hr=> ?_) λe s z=>absurd z (hx e s)
   obtain⟨rfl,I4⟩:=hr;exact⟨rfl,σ3,H3,I4,qn⟩
  .refine bF (T.item X rfl rfl rfl hc i pins s3 σ3 H3 X.xe I3 (stat fr3) st3 go) (λr s4 hr=> ?_) λe s z=>absurd z (hx e s)
   obtain⟨u,rfl,h4⟩:=hr;refine bF h4 (λ_ s5 h5=> ?_) λe s z=>absurd z (hx e s)
   obtain⟨x,H5,I5,r5,y5,st5,fr5⟩:=h5;have I5':=I5.pinned (stat fr5) (T.obj _ _ st5);refine bF (hg _ s5 σ3 H5 x u _ I5' r5<|step x H5 y5) (λ_ s6 h6=> ?_) λe s z=>absurd z (hx e s)
   obtain⟨σ6,H6,I6,q6⟩:=h6;have again: ∀{σ7:St} {H7:Hp} {s7:Shared},Inv X (pins++aZ1 fp s5.heap) σ7 H7 s7->N σ7 H7-> ∃m,m<n/\ ∃i σ' H',Inv X pins σ' H' s7/\tn i s7.heap/\(∀b∈fp,H' b=none)/\W i m σ' H':=λ{σ7 H7 s7} I7 n7=>by
    obtain⟨m',hm,w7⟩:=hN σ7 H7 n7;refine⟨m',hm,i+1,σ7,H7,I7.unpinned,T.keep _ _ _ st5 λb hb o e=>(I7.pin (b,o)<|dM _<|dM _<|rH hb e).1,λb hb=> ?_,w7⟩
    obtain⟨o,e,d⟩:=T.obj _ _ st5 b hb;exact(I7.pin (b,o)<|dM _<|dM _<|rH hb e).2.1
   refine bF (ht _ s6 σ6 H6 _ I6 q6) (λc s7 h7=> ?_) λe s z=>absurd z (hx e s)
   obtain⟨H7,I7,q7⟩:=h7;cases c with
   | false=>exact again I7 q7
   | true=>
    rw[aA rfl]at q7⊢;refine bF (bV4 he D _ s7 σ6 H7 _ I7 q7) (λ_ s8 h8=> ?_) λe s z=>absurd z (hx e s)
    obtain⟨σ8,H8,I8,q8⟩:=h8;exact again I8 q8
 refine aB (wpAny_runOwn<|rC (d70 loop<|T.self _ 0 _ _ _ st2 loop) λr s' hr=> ?_)
 obtain⟨rfl,q⟩:=hr;exact aL q
end
end L2
namespace M
section
variable {X:Cx}{K:Frag}{last:Nat}{ui ui2:UI}{g g2:UG}{T T2:List Nat}{tt tt2:UT}{te:UE}
def dN0 (last:Nat)(ui2:UI)(g2:UG)(tt2:UT)(te:UE)(Nx:Ev->Prop)(ρ:Ev):Prop:=ui2 ρ λn it ρ1=> ∃Pv:Nat->Ev->Prop,Pv 0 ρ1/\
 (∀i ρ',i<n->Pv i ρ'->g2 (.pu<|it i) ρ' λρ2=>tt2 ρ2 λc ρ3=>if c=true then uPut last te (Pv<|i+1) ρ3 else Pv (i+1) ρ3)/\ ∀ρ',Pv n ρ'->Nx ρ'
theorem em_inn (hT:last ∉ T2):d43 K last (dN0 last ui2 g2 tt2 te) (tInn (lI K ui2) (lG K T2 g2) (lT K tt2)<|lE K te):=by
 intro C ρ σ H Dn Nx NX J l3 q nx;refine⟨C,ρ,_,J,q,λn it ρ1 Jt H1 q1 f s ok=> ?_⟩
 obtain⟨Pv,p0,turn,fin⟩:=q1;have J1:=(J.frz f).same s;obtain⟨Jr,sub⟩:=J1.rz;refine⟨λi m σ' H'=>m=n-i/\i<=n/\σ'[last]? =some (some<|.ref Dn)/\ ∃ρ',EOk K (C.rz ρ1 σ H1) ρ' σ' H'/\Pv i ρ',⟨n,rfl,cK _,l3,ρ1,Jr,p0⟩,?_⟩
 rintro i m σ' H' ⟨rfl,hi,hlast,ρ',J',p'⟩;have P:=cN2 J'
 by_cases hlt:i<n
 .refine .inr ⟨ok.go _ _ i P hlt,λσ2 H2=>σ2[last]? =some (some<|.ref Dn)/\ ∃ρ3,EOk K (C.rz ρ1 σ H1) ρ3 σ2 H2/\Pv (i+1) ρ3,λσ2 H2 z=>⟨n-(i+1),aa,rfl,hlt,z⟩,λx H2 y=> ?_⟩
  obtain⟨s2,r2⟩:=ok.yld _ _ i x H2 P (λa z=>J'.avSome z) hlt y
  refine⟨_,ρ',.pu<|it i,H',_,J',s2,r2,turn i ρ' hlt p',λρ3 σ3 H3 q3 J3 same3=> ?_⟩
  have l4:=(same3 last hT).trans hlast;refine⟨_,ρ3,_,J3,q3,λc ρ4 H4 q4 f4 s4=> ?_⟩
  have J4:=(J3.frz f4).same s4;cases c with
  | false=>
   dsimp only at q4⊢;rw[a9 bJ]at q4⊢;exact⟨l4,ρ4,J4,q4⟩
  | true=>
   dsimp only at q4⊢;rw[aA rfl]at q4⊢;exact cF7 _ ρ4 _ _ Dn _ _ J4 l4 q4 λρ5 σ5 H5 J5 l5 q5=>⟨l5,ρ5,J5,q5⟩
 .have e:i=n:=aa
  subst e;exact .inl ⟨ok.stop _ _ P,nx _ _ _ (J'.lower sub rfl J.a0) hlast<|fin ρ' p'⟩
variable {elt iter tg iter2 tg2:Expr}{ifs ifs2:List Expr}{scope:Scope}{pos spos py:Pos}{y:Str}{esc:List (Str×NameKind)}{N XN:List Str}{js:List Nat}{cap:List (Option Nat)}
theorem c50 (i:Nat)(he0:X.env.scope.names=esc)(hx0:X.N=XN)(lk:u9 esc XN N cap scope last=true)(hl:last<cap.length)(hT:last ∉ T)(hT2:last ∉ T2)(hc:X.calm=true)(hi:PUI X tg iter ui)
  (hg: ∀cl C s H fp pins,PUG (bM X N scope cl C s H fp pins) tg T g) (ht: ∀cl C s H fp pins,PTs (bM X N scope cl C s H fp pins) ifs<|lT X.K tt) (hi2: ∀cl C s H fp pins,PUI (bM X N scope cl C s H fp pins) tg2 iter2 ui2)
  (hg2: ∀cl C s H fp pins,PUG (bM X N scope cl C s H fp pins) tg2 T2 g2) (ht2: ∀cl C s H fp pins,PTs (bM X N scope cl C s H fp pins) ifs2<|lT X.K tt2) (he: ∀cl C s H fp pins,PU (bM X N scope cl C s H fp pins) elt te)
  (hy:PG X (.Name y py) (a67 i)) (hi': ∀pins σ H s,Inv X pins σ H s->i<σ.length) (hsw:↥(swapsWith (.ListComp elt [⟨tg,iter,ifs,0⟩,⟨tg2,iter2,ifs2,0⟩] scope pos) (some<|.Name y py) spos.line X.env=pure true))
  (hs: ∀x,foldedSetIterable iter X.env x=pure x:=by intro _;rfl) (hs2: ∀cl C s H fp pins x,foldedSetIterable iter2 (bM X N scope cl C s H fp pins).env x=pure x:=by intro _ _ _ _ _ _ _;rfl) :
  PUS X (.Assign [.Name y py] (.ListComp elt [⟨tg,iter,ifs,0⟩,⟨tg2,iter2,ifs2,0⟩] scope pos) spos) (bV i<|b01 js cap last ui g tt<|dN0 last ui2 g2 tt2 te):=
 b43 (js:=js) i (em_inn (T2:=T2) hT2) (λ_ _ _=>d71) hc hi (eM.of he0<|hx0▸lk).1 (eM.of he0<|hx0▸lk).2 hl hT hg ht (λcl C s H fp pins=>dM9 hc (λ_ _ z=>z) (hi2 cl C s H fp pins) (hg2 cl C s H fp pins) (ht2 cl C s H fp pins) (he cl C s H fp pins) (hs2 cl C s H fp pins)) hy hi' hsw hs
end
end M
end
namespace L2
def Calm (f:Obj->Obj):Prop:= ∀o,(f o).dict=o.dict/\(o.isFreed=false->(f o).isFreed=false)
def pY {α:Type}:Sem α->Prop
 | .pure _=>True
 | .raise _=>True
 | .unsupported _=>True
 | .finish _=>True
 | .rule _ k=>pY (k ())
 | .at _ k=>pY (k ())
 | .load _ _ k=> ∀o,pY (k o)
 | .update _ _ f k=>Calm f/\pY (k ())
 | .alloc _ k=> ∀a,pY (k a)
 | .loadIfAlive _ k=> ∀o,pY (k o)
 | .point _ k=>pY (k ())
 | .register _ _=>True
 | .stack k=> ∀l,pY (k l)
 | _=>False
def DK (h h':Heap):Prop:= ∀b o,h.get? b=some o-> ∃o',h'.get? b=some o'/\o'.dict=o.dict
theorem DK.refl (h:Heap):DK h h:=λb o q=>⟨o,q,rfl⟩
theorem DK.trans {h'':Heap}(a:DK h h')(b:DK h' h''):DK h h'':=λc o q=>by
 obtain⟨o',q',e⟩:=a c o q;obtain⟨o'',q'',e'⟩:=b c o' q';exact⟨o'',q'',e'.trans e⟩
theorem DK.update {f:Obj->Obj}(c:Calm f):DK h (h.update a f):=λb o q=>by
 by_cases e:a=b
 .subst e;exact⟨f o,qL f q<|(c o).2 (Heap.get?_some_iff.mp q).2,(c o).1⟩
 .exact⟨o,(aM5 _ _ e).trans q,rfl⟩
theorem dN1 {M:Model}{Γ:PySem.Ctx}: ∀{t:Sem α} {Q:α->Pos->Shared->Prop} {E:Value->Pos->Shared->Prop} {p:Pos} {s:Shared},pY t->Sem.wp M Γ t Q E p s->Sem.wp M Γ t (λa p' s'=>Q a p' s'/\DK s.heap s'.heap) (λe p' s'=>E e p' s'/\DK s.heap s'.heap) p s:=by
 intro t
 induction t with
 | pure a=>intro Q E p s _ h;exact⟨h,.refl _⟩
 | raise e=>intro Q E p s _ h;exact⟨h,.refl _⟩
 | rule _ k ih=>intro Q E p s t h;exact ih () t h
 | «at» _ k ih=>intro Q E p s t h;exact ih () t h
 | load a _ k ih=>intro Q E p s t ⟨o,q,h⟩;exact⟨o,q,ih o (t o) h⟩
 | update a _ f k ih=>
  intro Q E p s t ⟨q,h⟩;refine⟨q,?_⟩;have:=ih () t.2 h;exact Sem.wp_mono _ _ _ (λa p' s' z=>⟨z.1,(DK.update t.1).trans z.2⟩) (λa p' s' z=>⟨z.1,(DK.update t.1).trans z.2⟩) _ _ this
 | alloc o k ih=>
  intro Q E p s t h;have:=ih _ (t _) h;have pu:DK s.heap (s.heap.push o):=λb o' q=>⟨o',aW _ q,rfl⟩
  exact Sem.wp_mono _ _ _ (λa p' s' z=>⟨z.1,pu.trans z.2⟩) (λa p' s' z=>⟨z.1,pu.trans z.2⟩) _ _ this
 | loadIfAlive a k ih=>intro Q E p s t h;exact ih _ (t _) h
 | point _ k ih=>intro Q E p s t h;exact ih () t h
 | stack k ih=>intro Q E p s t h;exact ih _ (t _) h
 | unsupported _=>intro Q E p s _ h;exact h.elim
 | finish _=>intro Q E p s _ h;exact h.elim
 | register _ _=>intro Q E p s _ h;exact h.elim
 | _=>intro Q E p s t h;exact False.elim t
theorem cI {β:Type}{f:α->Sem β}: ∀{t:Sem α},pY t->(∀a,pY<|f a)->pY (t.bind f):=by
 intro t
 induction t with
 | pure a=>intro _ h;exact h a
 | raise e=>intro _ _;exact trivial
 | unsupported _=>intro _ _;exact trivial
 | finish _=>intro _ _;exact trivial
 | rule _ k ih=>intro t h;exact ih () t h
 | «at» _ k ih=>intro t h;exact ih () t h
 | load a _ k ih=>intro t h o;exact ih o (t o) h
 | update a _ f k ih=>intro t h;exact⟨t.1,ih () t.2 h⟩
 | alloc o k ih=>intro t h a;exact ih a (t a) h
 | loadIfAlive a k ih=>intro t h o;exact ih o (t o) h
 | point _ k ih=>intro t h;exact ih () t h
 | register _ _=>intro _ _;exact trivial
 | stack k ih=>intro t h l;exact ih l (t l) h
 | _=>intro t _;exact False.elim t
theorem a32 {M:Model}{t:Sem α}{Q:α->Shared->Prop}(c:pY t)(h:wpAny M A t Q E s):wpAny M A t (λa s'=>Q a s'/\DK s.heap s'.heap) (λe s'=>E e s'/\DK s.heap s'.heap) s:=λΓ p hin=>dN1 c (h Γ p hin)
theorem bQ3 {part:Option Value}:pY (loadPart a part):=λ_=>trivial
theorem c51 (v:Value):pY (fieldsOf v):=by
 unfold fieldsOf;split
 .refine cI bQ3 λo=> ?_
  split<;>exact trivial
 .exact trivial
theorem a33 (v:Value)(i:Nat):pY (PySem.field v i):=cI (c51 v) λvs=>by
 split<;>exact trivial
theorem c52 (f:Array Value->Array Value):Calm (Obj.mapFields f):=λo=>by
 obtain⟨c,d,dt,sl⟩:=o;cases dt<;>exact⟨rfl,λh=>h⟩
theorem xD (v:Value)(i:Nat)(x:Value):pY (setField v i x):=by
 unfold setField;split
 .unfold updateField;refine cI bQ3 λo=> ?_
  split
  .split
   .exact⟨c52 _,trivial⟩
   .exact trivial
  .exact trivial
 .exact trivial
theorem aA0 (e:Value)(f:Option Addr):pY (setFlight e f):=cI (a33 _ _) λtb=>by
 split
 .exact xD _ _ _
 .exact trivial
theorem aP8:pY stack:=λ_=>trivial
theorem cH0 (f:Addr)(b:Bool):pY (entryPlaceOf f b):=cI aP8 λl=>by
 split<;>exact trivial
theorem d72 (cls:Value)(data:Data)(d:Option Addr):pY (newObj cls data d):=by
 have as:pY (newObjAsIs cls data d):=by
  unfold newObjAsIs;refine cI (λ_=>trivial) λa=> ?_
  split
  .refine cI ?_ λb=> ?_
   .unfold classHasDel;refine cI (λ_=>trivial) λo=> ?_
    split<;>exact trivial
   .split<;>exact trivial
  .exact trivial
 unfold newObj;split<;>first|exact as| (split<;>first|exact as|exact trivial| (refine cI trivial λ_=>as))
theorem cH1 (a b c d e:Value)(pl:List Value):pY (EntryCells.newEntry a b c d e pl):=by
 unfold EntryCells.newEntry newFields;exact d72 _ _ _
theorem bB9: ∀l:List Env,pY (readyFrames l)
 | []=>trivial
 | env::outer=>by
  unfold readyFrames;split
  .refine cI (λ_=>trivial) λo=> ?_
   split
   .exact trivial
   .refine cI ?_ λb=> ?_
    .unfold behindIsImport;split
     .exact trivial
     .split
      .exact trivial
      .exact cI (a33 _ _) λ_=>trivial
    .refine cI ?_ λv=> ?_
     .unfold keptBack;split
      .split
       .exact trivial
       .exact cI (cI aP8 λ_=>trivial) λ_=>trivial
      .exact trivial
     .exact⟨λo=>⟨rfl,λh=>by obtain⟨c,d,dt,sl⟩:=o;cases dt<;>exact h⟩,bB9 outer⟩
  .exact trivial
theorem cH2 (env:Env):pY (PySem.frameOf env):=by
 unfold PySem.frameOf;refine cI (cI aP8 λ_=>trivial) λl=>cI ?_ λo=> ?_
 .unfold frameObject;split
  .exact trivial
  .exact cI (bB9 _) λ_=>trivial
 .split<;>exact trivial
theorem bQ4 (e:Value)(env:Env):pY (noteFrame e env):=by
 have last: ∀h f,pY (do setField e 1 (<-EntryCells.newEntry h (<-PySem.frameOf env) .none (rawInt f) .none (<-entryPlaceOf f (h != .none)))):=λh f=>
  cI (cH2 env) λa=>cI (cH0 _ _) λb=>cI (cH1 _ _ _ _ _ _) λc=>xD _ _ _
 unfold noteFrame;split
 .refine cI (a33 _ _) λh=> ?_
  split
  .refine cI (a33 _ _) λx=> ?_
   split
   .exact trivial
   .exact cI (xD _ _ _) λ_=>last _ _
  .exact last _ _
 .exact trivial
theorem aT5 (env:Env)(e:Value):pY (leaving env e):=cI (bQ4 e env) λ_=>aA0 e none
def Tr (h:Heap)(e T:Addr):Prop:= ∃oe vs,h.get? e=some oe/\oe.data= .fields vs/\vs[1]? =some (.ref T)
theorem Tr.one {e T T':Addr}(a:Tr h e T)(b:Tr h e T'):T=T':=by
 obtain⟨o,vs,h1,h2,h3⟩:=a;obtain⟨o',vs',g1,g2,g3⟩:=b;rw[h1]at g1;cases g1;rw[h2]at g2;cases g2;rw[h3]at g3;cases g3;rfl
structure aJ4 (fs:List Addr)(e:Addr)(h h':Heap):Prop where
 keep: ∀b o,h.get? b=some o->b ∉ fs->b≠e-> ¬Tr h e b->h'.get? b=some o
 slot:h.UpToSlots h'
 tr: ∀T,Tr h' e T->T∈fs\/T=e\/Tr h e T\/h.get? T=none
 rcd: ∀T,Tr h' e T-> ∃o vs,h'.get? T=some o/\o.data= .fields vs
structure bK9 (fs:List Addr)(e:Addr)(h h':Heap):Prop extends aJ4 fs e h h' where
 dk:DK h h'
theorem bW4 {e:Addr}{cls a0:Value}(t:h.TracedAtW base e cls a0 fl): ∃T,Tr h e T/\base.get? T=none/\T≠e/\ ∃o vs,h.get? T=some o/\o.data= .fields vs:=by
 obtain⟨oe,vs,T,oT,ts,he,_,hd,h1,hb,hne,hT,hdT,_⟩:=t;exact⟨T,⟨oe,vs,he,hd,h1⟩,hb,hne,oT,ts,hT,hdT⟩
theorem rL {B:Heap}{e T:Addr}{cls a0:Value}(t:h.TracedAtW base e cls a0 fl)(x:Tr h e T)(hn:B.get? T=none):h.TracedAtW B e cls a0 fl:=by
 obtain⟨oe,vs,T',oT,ts,he,hc,hd,h1,hb,hne,hT,hdT,h3⟩:=t;obtain rfl:=x.one ⟨oe,vs,he,hd,h1⟩;exact⟨oe,vs,T,oT,ts,he,hc,hd,h1,hn,hne,hT,hdT,h3⟩
section
variable {base h:Heap}{l:List Env}{e T:Addr}{cls a0 fl:Value}
noncomputable def hid (h:Heap)(l:List Env)(e T:Addr):Heap:=PySem.W.hideAll h (frs l++[e,T])
theorem yR (hb:b∈frs l\/b=e\/b=T):(hid h l e T).get? b=none:=PySem.W.hideAll_none _ (by
 rcases hb with z|z|z
 .exact cP.mpr (.inl z)
 .exact cP.mpr (.inr<|by simp[z])
 .exact cP.mpr (.inr<|by simp[z]))
theorem aT6 (q:h.get? b=some o)(h1:b ∉ frs l)(h2:b≠e)(h3:b≠T):(hid h l e T).get? b=some o:=PySem.W.hideAll_get _ q (by
 intro z;rcases cP.mp z with z|z
 .exact h1 z
 .simp at z
  exact z.elim h2 h3)
theorem a34 (f:h.FunFrames base l):h.FunFrames (hid h l e T) l:=PySem.W.funFrames_hide f λenv he b hb=>cP.mpr (.inl<|aN8.mpr ⟨env,he,hb⟩)
theorem aG2 (st:base.StaysIn h)(f:h.FunFrames base l)(he:base.get? e=none)(hT:base.get? T=none):base.StaysIn (hid h l e T):=λb o q=>aT6 (st b o q) (λz=>by rw[(f.mem z).1]at q;cases q) (λz=>by rw[z,he]at q;cases q) λz=>by rw[z,hT]at q;cases q
theorem yS {B h':Heap}(st:base.StaysIn B): ∀{l:List Env},h'.FunFrames B l->h'.FunFrames base l
 | [],_=>trivial
 | env::_,⟨hk,⟨L,o,hf,hn,ho,hd⟩,hr⟩=>⟨hk,⟨L,o,hf,(by
   cases q:base.get? L with
   | none=>rfl
   | some u=>have:=st L u q;rw[hn]at this;cases this),ho,hd⟩,yS st hr⟩
theorem b91 {B:Heap}(st:base.StaysIn B)(q:B.get? b=none):base.get? b=none:=by
 cases z:base.get? b with
 | none=>rfl
 | some u=>have:=st b u z;rw[q]at this;cases this
theorem bW5 {l':List Env}(x:Tr h e T)(st:(hid h l e T).StaysIn h')(t:h'.TracedAtW (hid h l e T) e cls a0 fl)(up:h.UpToSlots h'):aJ4 (frs l) e h h':=by
 refine⟨λb o q h1 h2 h3=>st b o (aT6 q h1 h2 λz=>h3 (by rw[z];exact x)),up,λT' x'=> ?_,λT' x'=> ?_⟩
 .obtain⟨T2,y,hn,_,_⟩:=bW4 t;obtain rfl:=x'.one y
  by_cases c1:T'∈frs l
  .exact .inl c1
  by_cases c2:T'=e
  .exact .inr (.inl c2)
  by_cases c3:T'=T
  .exact .inr (.inr<|.inl (by rw[c3];exact x))
  refine .inr (.inr<|.inr ?_)
  cases q:h.get? T' with
  | none=>rfl
  | some o=>rw[aT6 q c1 c2 c3]at hn;cases hn
 .obtain⟨T2,y,_,_,z⟩:=bW4 t;obtain rfl:=x'.one y;exact z
end
section
variable {M:Model}{A:Around}{E:Value->Shared->Prop}{s:Shared}{base:Heap}{env:Env}{outer:List Env}{L e:Addr}{cls a0:Value}{Q:Unit->Shared->Prop}
theorem cH3 (hfr:A.frames=some (env::outer))(hf:env.frame=some L)(F:FlyingW base (env::outer) e cls a0 s.heap)
  (hQ: ∀h',FlyingW base outer e cls a0 h'->aJ4 (frs (env::outer)) e s.heap h'->Q () {s with heap:=h'}):wpAny M A (leaving env<|.ref e) Q E s:=by
 obtain⟨f1,f2,f3,f4⟩:=F;obtain⟨T,x,hT,_,_⟩:=bW4 (fl:= .none) f4;have stB:=aG2 (T:=T) f1 f3 f2 hT;refine wpAny_leaves_onW (base:=hid s.heap (env::outer) e T) hfr hf ⟨λb o q=>uP _ q,yR<|.inr<|.inl rfl,a34 f3,rL (fl:= .none) f4 x<|yR<|.inr<|.inr rfl⟩ λh' F' up=> ?_
 obtain⟨g1,g2,g3,g4⟩:=F';obtain⟨T',x',hT',_,_⟩:=bW4 (fl:= .none) g4;exact hQ h' ⟨λb o q=>g1 b o (stB b o q),f2,yS stB g3,rL (fl:= .none) g4 x'<|b91 stB hT'⟩ (bW5 (l':=outer) x g1 g4 up)
theorem cV9 (hfr:A.frames=some (env::outer))(hf:env.frame=some L)(F:FlyingW base (env::outer) e cls a0 s.heap)
  (hQ: ∀h',HeldW base (env::outer) e cls a0 L h'->aJ4 (frs (env::outer)) e s.heap h'->Q () {s with heap:=h'}):wpAny M A (noteFrame (.ref e) env) Q E s:=by
 obtain⟨f1,f2,f3,f4⟩:=F;obtain⟨T,x,hT,_,_⟩:=bW4 (fl:= .none) f4;have stB:=aG2 (T:=T) f1 f3 f2 hT;refine wpAny_looks_onW (base:=hid s.heap (env::outer) e T) hfr hf ⟨λb o q=>uP _ q,yR<|.inr<|.inl rfl,a34 f3,rL (fl:= .none) f4 x<|yR<|.inr<|.inr rfl⟩ λh' F' up=> ?_
 obtain⟨g1,g2,g3,g4⟩:=F';obtain⟨T',x',hT',_,_⟩:=bW4 g4;exact hQ h' ⟨λb o q=>g1 b o (stB b o q),f2,yS stB g3,rL g4 x'<|b91 stB hT'⟩ (bW5 (l':=outer) x g1 g4 up)
theorem cW0 {l:List Env}(F:base.StaysIn s.heap/\base.get? e=none/\s.heap.FunFrames base l/\s.heap.TracedAtW base e cls a0 fl)
  (hQ: ∀h',FlyingW base l e cls a0 h'->aJ4 (frs l) e s.heap h'->Q () {s with heap:=h'}):wpAny M A (setFlight (.ref e) none) Q E s:=by
 obtain⟨f1,f2,f3,f4⟩:=F;obtain⟨T,x,hT,_,_⟩:=bW4 f4;have stB:=aG2 (T:=T) f1 f3 f2 hT;refine wpAny_setFlight_noneW (base:=hid s.heap l e T) (λb o q=>uP _ q) (a34 f3) (rL f4 x<|yR<|.inr<|.inr rfl) λh' g1 g3 g4 up=> ?_
 obtain⟨T',x',hT',_,_⟩:=bW4 (fl:= .none) g4;exact hQ h' ⟨λb o q=>g1 b o (stB b o q),f2,yS stB g3,rL (fl:= .none) g4 x'<|b91 stB hT'⟩ (bW5 (l':=l) (fl:= .none) x g1 g4 λb o q n=>⟨o.slots,up b o q n⟩)
theorem bW6 (hfr:A.frames=some (env::outer))(hl:s.heap.FunFrames base (env::outer))(hf:env.frame=some L)(he:s.heap.get? e=some oe)(hkb:base.StaysIn s.heap)(hen:base.get? e=none)(hd:oe.data= .fields vs)(h1:vs[1]? =some .none)(h0:vs[0]? =some a0)
  (hQ: ∀h',FlyingW base outer e oe.cls a0 h'->aJ4 (frs (env::outer)) e s.heap h'->Q () {s with heap:=h'}):wpAny M A (leaving env<|.ref e) Q E s:=by
 have stB:=aG2 (e:=e) (T:=e) hkb hl hen hen;have nt: ∀T,¬Tr s.heap e T:=by
  rintro T ⟨o,ws,k1,k2,k3⟩;rw[he]at k1;cases k1;rw[hd]at k2;cases k2;rw[h1]at k3;cases k3
 refine wpAny_leaving_firstW (base:=hid s.heap (env::outer) e e) hfr (a34 hl) hf he (λb o q=>uP _ q) (yR<|.inr<|.inl rfl) hd h1 h0 λh' F'=> ?_
 obtain⟨g1,⟨_,_,g3⟩,g4,up⟩:=F';obtain⟨T',x',hT',hne,hrec⟩:=bW4 (fl:= .none) g4;refine hQ h' ⟨λb o q=>g1 b o (stB b o q),hen,yS stB g3,rL (fl:= .none) g4 x'<|b91 stB hT'⟩ ⟨λb o q k1 k2 _=>g1 b o (aT6 q k1 k2 k2),up,λT x2=> ?_,λT x2=> ?_⟩
 .obtain rfl:=x2.one x'
  by_cases c1:T∈frs (env::outer)
  .exact .inl c1
  refine .inr (.inr<|.inr ?_)
  cases q:s.heap.get? T with
  | none=>rfl
  | some o=>rw[aT6 q c1 hne hne]at hT';cases hT'
 .obtain rfl:=x2.one x';exact hrec
theorem cW1 (hfr:A.frames=some (env::outer))(hf:env.frame=some L)(F:FlyingW base (env::outer) e cls a0 s.heap)
  (hQ: ∀h',FlyingW base outer e cls a0 h'->bK9 (frs (env::outer)) e s.heap h'->Q () {s with heap:=h'}):wpAny M A (leaving env<|.ref e) Q E s:=
 bF (a32 (aT5 env<|.ref e)<|cH3 (Q:=λ_ s'=> ∃h',s'={s with heap:=h'}/\FlyingW base outer e cls a0 h'/\aJ4 (frs (env::outer)) e s.heap h') hfr hf F λh' a b=>⟨h',rfl,a,b⟩) (λ_ s' ⟨⟨h',q,a,b⟩,dk⟩=>by subst q;exact hQ h' a ⟨b,dk⟩) λ_ _ z=>z.1
theorem d73 (hfr:A.frames=some (env::outer))(hf:env.frame=some L)(F:FlyingW base (env::outer) e cls a0 s.heap)
  (hQ: ∀h',HeldW base (env::outer) e cls a0 L h'->bK9 (frs (env::outer)) e s.heap h'->Q () {s with heap:=h'}):wpAny M A (noteFrame (.ref e) env) Q E s:=
 bF (a32 (bQ4 (.ref e) env)<|cV9 (Q:=λ_ s'=> ∃h',s'={s with heap:=h'}/\HeldW base (env::outer) e cls a0 L h'/\aJ4 (frs (env::outer)) e s.heap h') hfr hf F λh' a b=>⟨h',rfl,a,b⟩) (λ_ s' ⟨⟨h',q,a,b⟩,dk⟩=>by subst q;exact hQ h' a ⟨b,dk⟩) λ_ _ z=>z.1
theorem c53 {l:List Env}(F:base.StaysIn s.heap/\base.get? e=none/\s.heap.FunFrames base l/\s.heap.TracedAtW base e cls a0 fl)
  (hQ: ∀h',FlyingW base l e cls a0 h'->bK9 (frs l) e s.heap h'->Q () {s with heap:=h'}):wpAny M A (setFlight (.ref e) none) Q E s:=
 bF (a32 (aA0 (.ref e) none)<|cW0 (Q:=λ_ s'=> ∃h',s'={s with heap:=h'}/\FlyingW base l e cls a0 h'/\aJ4 (frs l) e s.heap h') F λh' a b=>⟨h',rfl,a,b⟩) (λ_ s' ⟨⟨h',q,a,b⟩,dk⟩=>by subst q;exact hQ h' a ⟨b,dk⟩) λ_ _ z=>z.1
theorem c54 (hfr:A.frames=some (env::outer))(hl:s.heap.FunFrames base (env::outer))(hf:env.frame=some L)(he:s.heap.get? e=some oe)(hkb:base.StaysIn s.heap)(hen:base.get? e=none)(hd:oe.data= .fields vs)(h1:vs[1]? =some .none)(h0:vs[0]? =some a0)
  (hQ: ∀h',FlyingW base outer e oe.cls a0 h'->bK9 (frs (env::outer)) e s.heap h'->Q () {s with heap:=h'}):wpAny M A (leaving env<|.ref e) Q E s:=
 bF (a32 (aT5 env<|.ref e)<|bW6 (Q:=λ_ s'=> ∃h',s'={s with heap:=h'}/\FlyingW base outer e oe.cls a0 h'/\aJ4 (frs (env::outer)) e s.heap h') hfr hl hf he hkb hen hd h1 h0 λh' a b=>⟨h',rfl,a,b⟩) (λ_ s' ⟨⟨h',q,a,b⟩,dk⟩=>by subst q;exact hQ h' a ⟨b,dk⟩) λ_ _ z=>z.1
end
structure Fly (base:Heap)(l:List Env)(e C:Addr)(H:Hp)(h:Heap):Prop where
 fl: ∃a0,FlyingW base l e (.ref C) a0 h
 he:H e=none
 ht: ∀T,Tr h e T->H T=none
structure bQ5 (g:Heap)(e:Addr)(h:Heap):Prop where
 he:g.get? e=none
 ht: ∀T,Tr h e T->g.get? T=none
def XAt (h:Heap)(a:Addr)(o:Option Addr):Prop:= ∀d,o=some d-> ∃oe,h.get? a=some oe/\oe.dict=some d
theorem XAt.dk {o:Option Addr}(x:XAt h a o)(k:DK h h'):XAt h' a o:=λd q=>by
 obtain⟨oe,e1,e2⟩:=x d q;obtain⟨o',e3,e4⟩:=k a oe e1;exact⟨o',e3,e4.trans e2⟩
noncomputable def CXr (P:Program)(w:World)(base:Heap):CXT:=λouter H s E e s'=> ∃a C o H',e= .ref a/\s'.os=s.os/\AllBare s'.gens/\Un (frs outer) [] H H' s.heap s'.heap/\HOk P w H' s'.heap/\Fly base outer a C H' s'.heap/\bQ5 s.heap a s'.heap/\XAt s'.heap a o/\E (.ref C) o H'
section
variable {P:Program}{w:World}{H H0:Hp}{h h':Heap}{fs:List Addr}{e:Addr}
theorem HOk.past (x:HOk P w H h)(p:bK9 fs e h h')(hf: ∀b∈fs,H b=none)(he:H e=none)(ht: ∀T,Tr h e T->H T=none):HOk P w H h':=λa o q=>
 (x a o q).stay (λb u hb r=>by
  have tracked:H b≠none:=by
   rcases hb with rfl|hb
   .rw[q];simp
   .rw[hb];simp
  exact p.keep b u r (λz=>tracked (hf b z)) (λz=>tracked (by rw[z];exact he)) λz=>tracked (ht b z)) (λ_ q=>q) λ_ _ q=>q
theorem HOk.there (x:HOk P w H h)(n:h.get? b=none):H b=none:=by
 cases q:H b with
 | none=>rfl
 | some o=>
  exfalso
  have hh: ∃ob,h.get? b=some ob:=by
   have y:=x b o q;cases o with
   | lst xs=>obtain⟨_,_,_,_,e⟩:=y;exact⟨_,e⟩
   | tup xs=>obtain⟨_,_,_,ob,e,_⟩:=y;exact⟨_,e⟩
   | dK kvs=>obtain⟨_,_,_,_,o,_,_,e,_⟩:=y;exact⟨_,e⟩
   | dT kvs=>obtain⟨_,_,_,_,o,_,_,e,_⟩:=y;exact⟨_,e⟩
   | set S n=>obtain⟨o,_,_,_,e,_⟩:=y;exact⟨_,e⟩
   | ins C dx fs=>obtain⟨_,_,_,e,_⟩:=y;exact⟨_,e⟩
   | own y'=>exact y
   | xd fs=>obtain⟨_,⟨_,_,_,e,_⟩,_⟩:=y;exact⟨_,e⟩
   | rng lo hi=>obtain⟨_,_,_,e⟩:=y;exact⟨_,e⟩
   | frz ob u=>obtain⟨e,_⟩:=y;exact⟨_,e⟩
   | tbl ps=>exact⟨_,(show h.get? b=some _ from y)⟩
   | met f y'=>exact⟨_,(show h.get? b=some _ from y)⟩
   | ext φ=>obtain⟨_,e,_⟩:=y;exact e
  obtain⟨ob,e⟩:=hh;rw[n]at e;cases e
theorem b92 (x:HOk P w H h)(p:bK9 fs e h h')(hf: ∀b∈fs,H b=none)(he:H e=none)(ht: ∀T,Tr h e T->H T=none): ∀T,Tr h' e T->H T=none:=λT q=>by
 rcases p.tr T q with z|z|z|z
 .exact hf T z
 .rw[z];exact he
 .exact ht T z
 .exact x.there z
end
section
variable {X:Cx}{pins:List (Addr×Obj)}{σ:St}{H:Hp}{s:Shared}{h':Heap}{e:Addr}
theorem Un.past {fs fs':List Addr}{H0:Hp}{L:Addr}(u:Un fs [] H0 H g s.heap)(p:bK9 fs' e s.heap h')(hfs: ∀b∈fs',b=L\/b∈fs)(hL:g.get? L=none)(ne:g.get? e=none)(nt: ∀T,Tr s.heap e T->g.get? T=none)(hd: ∀b∈fs,∀o,s.heap.get? b=some o-> ∀vs,o.data≠ .fields vs):Un fs [] H0 H g h' where
 keep:=λb o q n hb hx=>p.keep b o (u.keep b o q n hb hx) (λz=>by
  rcases hfs b z with z|z
  .rw[z,hL]at q;cases q
  .exact hb z) (λz=>by rw[z,ne]at q;cases q) λz=>by rw[nt b z]at q;cases q
 slot:=λb o q n hb hx=>by
  obtain⟨sl,e1⟩:=u.slot b o q n hb hx;obtain⟨sl',e2⟩:=p.slot b _ e1 (hd b hb _ e1);exact⟨sl',e2⟩
 free:=u.free
 there:=λb o q hx=>by
  obtain⟨o',e1⟩:=u.there b o q hx
  by_cases c:b∈fs
  .obtain⟨sl,e2⟩:=p.slot b _ e1 (hd b c _ e1);exact⟨_,e2⟩
  .exact⟨o',p.keep b o' e1 (λz=>by
    rcases hfs b z with z|z
    .rw[z,hL]at q;cases q
    .exact c z) (λz=>by rw[z,ne]at q;cases q) λz=>by rw[nt b z]at q;cases q⟩
 tups:=u.tups
 frzs:=u.frzs
 tbls:=u.tbls
end
section
variable {P:Program}{w:World}{K:Frag}{mg:Str->Option Value}{base:Heap}{N:List Str}{qual:Str}{scope:Scope}{f:Addr}{cd:Value}{A:Around}{outer:List Env}{s0:Shared}{H0:Hp}{E:XK}{CX:CXT}
theorem d74 {σ:St}{H:Hp}{o:Option Addr}(I:Inv (v9 (CXr P w base) P w K mg base N qual scope f cd A outer s0 H0 E) pins σ H s')(F:Fly base (envOfC qual scope s0.heap.objs.size f cd::outer) a C H s'.heap)(nw:bQ5 s0.heap a s'.heap)(xa:XAt s'.heap a o)(hE:E (.ref C) o H) :
  (v9 (CXr P w base) P w K mg base N qual scope f cd A outer s0 H0 E).xe (.ref a) s':=by
 obtain⟨⟨a0,fl⟩,he,ht⟩:=F;have fr:(A.deeper<|envOfC qual scope s0.heap.objs.size f cd).frames=some (envOfC qual scope s0.heap.objs.size f cd::outer):=I.ok.frames;have sf: ∀b∈frs (envOfC qual scope s0.heap.objs.size f cd::outer),H b=none:=I.stkFree;have fm: ∀b∈frs (envOfC qual scope s0.heap.objs.size f cd::outer),b=s0.heap.objs.size\/b∈frs outer:=λb hb=>by
  unfold frs at hb⊢;rw[kC]at hb;have e:(envOfC qual scope s0.heap.objs.size f cd).frame=some s0.heap.objs.size:=rfl;rw[e]at hb;exact bE.mp hb
 show wpAny _ _ (leaving _<|.ref a) _ _ s'
 refine cW1 fr (L:=s0.heap.objs.size) rfl fl λh' fl' p=> ?_
 have hd: ∀b∈frs outer,∀o,s'.heap.get? b=some o-> ∀vs,o.data≠ .fields vs:=λb hb o q=>by
  obtain⟨_,o',q',n⟩:=fl.2.2.1.mem (b:=b) (by
   unfold frs at hb;rw[kC];have e:(envOfC qual scope s0.heap.objs.size f cd).frame=some s0.heap.objs.size:=rfl;rw[e];exact bE.mpr (.inr hb))
  rw[q]at q';cases q';exact n
 have un:Un (frs outer) [] H0 H s0.heap h':=I.base.past p fm (lF<|aG _) nw.he nw.ht hd;refine⟨a,C,o,H,rfl,I.os,I.bare,un,I.hok.past p sf he ht,⟨⟨a0,fl'⟩,he,b92 I.hok p sf he ht⟩,⟨nw.he,λT q=> ?_⟩,xa.dk p.dk,hE⟩
 rcases p.tr T q with z|z|z|z
 .rcases fm T z with z|z
  .rw[z];exact lF (aG _)
  .exfalso
   obtain⟨o,vs,q1,q2⟩:=p.rcd T q;obtain⟨_,o',q',n⟩:=fl'.2.2.1.mem (b:=T) z;rw[q1]at q';cases q';exact n vs q2
 .rw[z];exact nw.he
 .exact nw.ht T z
 .cases r:s0.heap.get? T with
  | none=>rfl
  | some o=>
   obtain⟨o',q'⟩:=I.base.there T o r (show T ∉ ([]:List Addr)by simp)
   rw[z]at q';cases q'
theorem dU9:wZ (CXr P w base) (v9 (CXr P w base) P w K mg base N qual scope f cd A outer s0 H0 E) E:=by
 rintro pins σ H s e s' I ⟨a,C,o,H',rfl,ho,hb,un,hok,F,nw,xa,hE⟩;have I':=I.call' (s':=s') ho un hok hb (λb z=>absurd z ae)
 refine d74 I' F ⟨?_,λT q=> ?_⟩ xa hE
 .cases r:s0.heap.get? a with
  | none=>rfl
  | some o=>
   obtain⟨o',q'⟩:=I.base.there a o r (show a ∉ ([]:List Addr)by simp)
   rw[nw.he]at q';cases q'
 .have:=nw.ht T q;cases r:s0.heap.get? T with
  | none=>rfl
  | some o=>
   obtain⟨o',q'⟩:=I.base.there T o r (show T ∉ ([]:List Addr)by simp)
   rw[this]at q';cases q'
end
structure XCls (h:Heap)(C:Addr)(bmB bm:List Value)(newId:String):Prop where
 ex: ∃(nm q:Str) (N:Addr) (bs:List Value) (hd:Bool) (sn:List Str) (sub:List Value) (ab:Bool) (col:Option Bool) (dd:Option Addr) (k0 k1 k2 k3 k5:Option Value) (mN:Str->Option Value),
  h.get? C=some (excClassObj nm q C N bs bm hd sn sub ab col dd k0 k1 k2 k3 k5 newId)/\h.Ns N mN/\mN "__init__"=none
 tl:OwnTail h bmB bm
theorem bW7 (X:K.In h)(q:excIn K C bmB newId=true): ∃bm,XCls h C bmB bm newId:=by
 unfold excIn at q;split at q
 .rename_i od ck slots look
  split at q
  .rename_i C2 tail a0 a1 a2 a3 nid a5 em es
   simp only[dU,gP,aO5]at q;obtain⟨⟨⟨⟨⟨rfl,rfl⟩,nodel⟩,tk⟩,nk⟩,ni⟩:=q;obtain⟨c1,c2,c3,c4,c5,c6,c7,c8,c9,c10,c11⟩:=ck;dsimp only at em nodel nk ni;subst em nodel;obtain⟨sll⟩:=slots;simp only at es;subst es;exact⟨tail,⟨⟨_,_,_,_,_,_,_,_,_,_,_,_,_,_,_,_,X _ _ look,.of_isNs<|PySem.W.isNs_of_in X nk,PySem.W.nsMap_none_of_in X nk ni⟩,PySem.W.tail_of_in X tk⟩⟩
  .cases q
 .cases q
section
variable {X:Cx}{E:XK}{C:Addr}
def bC0 (X:Cx)(E:XK)(C:Addr):Prop:= ∀(pins:List (Addr×Obj)) (σ:St) (H:Hp) (s:Shared) (a:Addr) (oe:Obj) (vs:Array Value) (a0:Value) (o:Option Addr),Inv X pins σ H s->s.heap.get? a=some oe->oe.cls= .ref C->oe.data= .fields vs->vs[0]? =some a0->vs[1]? =some .none->H a=none->X.s₀.heap.get? a=none->XAt s.heap a o->E (.ref C) o H->X.xe (.ref a) s
theorem cH4 {cd:Value}{s0:Shared}{H0:Hp} :
  bC0 (v9 (CXr P w base) P w K mg base N qual scope f cd A outer s0 H0 E) E C:=by
 intro pins σ H s a oe vs a0 o I he hc hd h0 h1 nH n0 xa hE;have fr:(A.deeper<|envOfC qual scope s0.heap.objs.size f cd).frames=some (envOfC qual scope s0.heap.objs.size f cd::outer):=I.ok.frames;have sf: ∀b∈frs (envOfC qual scope s0.heap.objs.size f cd::outer),H b=none:=I.stkFree;have fl0:s.heap.FunFrames base (envOfC qual scope s0.heap.objs.size f cd::outer):=I.stack
 have fe:(envOfC qual scope s0.heap.objs.size f cd).frame=some s0.heap.objs.size:=rfl;have fm: ∀b∈frs (envOfC qual scope s0.heap.objs.size f cd::outer),b=s0.heap.objs.size\/b∈frs outer:=λb hb=>by
  unfold frs at hb⊢;rw[kC,fe]at hb;exact bE.mp hb
 have nt: ∀T,¬Tr s.heap a T:=by
  rintro T ⟨o,ws,k1,k2,k3⟩;rw[he]at k1;cases k1;rw[hd]at k2;cases k2;rw[h1]at k3;cases k3
 have nb:base.get? a=none:=by
  cases q:base.get? a with
  | none=>rfl
  | some o=>rw[(I.ok.bs a o q).1]at n0;cases n0
 have st:base.StaysIn s.heap:=I.bk;show wpAny _ _ (leaving _<|.ref a) _ _ s;refine c54 fr fl0 (L:=s0.heap.objs.size) rfl he st nb hd h1 h0 λh' fl' p=> ?_
 rw[hc]at fl';have hdf: ∀b∈frs outer,∀o,s.heap.get? b=some o-> ∀vs,o.data≠ .fields vs:=λb hb o q=>by
  obtain⟨_,o',q',n⟩:=fl0.mem (b:=b) (by
   unfold frs at hb;rw[kC,fe];exact bE.mpr (.inr hb))
  rw[q]at q';cases q';exact n
 have un:Un (frs outer) [] H0 H s0.heap h':=I.base.past p fm (lF<|aG _) n0 (λT q=>absurd q (nt T)) hdf
 have ht: ∀T,Tr s.heap a T->H T=none:=λT q=>absurd q (nt T)
 refine⟨a,C,o,H,rfl,I.os,I.bare,un,I.hok.past p sf nH ht,⟨⟨a0,fl'⟩,nH,b92 I.hok p sf nH ht⟩,⟨n0,λT q=> ?_⟩,xa.dk p.dk,hE⟩
 rcases p.tr T q with z|z|z|z
 .rcases fm T z with z|z
  .rw[z];exact lF (aG _)
  .exfalso
   obtain⟨o,ws,q1,q2⟩:=p.rcd T q;obtain⟨_,o',q',n⟩:=fl'.2.2.1.mem (b:=T) z;rw[q1]at q';cases q';exact n ws q2
 .rw[z];exact n0
 .exact absurd z (nt T)
 .cases r:s0.heap.get? T with
  | none=>rfl
  | some o=>
   obtain⟨o',q'⟩:=I.base.there T o r (show T ∉ ([]:List Addr)by simp)
   rw[z]at q';cases q'
def d75 (C:Addr)(E:XK)(ta:TA):TS:=λ_ σ H=>ta σ H λvs H1=>vs.length<=sizeLine/\E (.ref C) none H1
theorem d76 {ta:TA}{B:String}(FB:ExcBaseFacts B newId initId bmB)(q:excIn X.K C bmB newId=true)(hg:Gl X x)(hm:X.mg x=some (.ref C))(hc:X.calm=true)(ha:PA X (e::es) ta)(th:bC0 X E C)
  (he:↥(starEach (e::es) X.env=(false,eval e X.env)::starEach es X.env)) (hpl:↥((backTo cpos<|starEach es X.env).any (·.1)=false)) (hd:⇑((x==("__debug__":Str))=false)) (hex:↥(X.ex=[])) :
  PS X (.Raise (some<|.Call (.Name x np) (e::es) [] cpos) none pos) (d75 C E ta):=by
 intro pins s σ H D I h;obtain⟨bm,⟨⟨nm,qn,N,bs,hdd,sn,sub,ab,col,dd,k0,k1,k2,k3,k5,mN,hC,hN,hni⟩,tl⟩⟩:=bW7 I.mod.kin q;have keepS: ∀{pins:List (Addr×Obj)} {σ:St} {H:Hp} {s2:Shared},Inv X pins σ H s2-> ∀b o,X.base.get? b=some o->s2.heap.get? b=some o:=λJ=>J.bk
 refine wpAny_Raise_call_subT (C:=C) (nm:=nm) (q:=qn) (N:=N) (bs:=bs) (bm:=bm) (hdct:=hdd) (sn:=sn) (sub:=sub) (ab:=ab) (col:=col) (dd:=dd) (k0:=k0) (k1:=k1) (k2:=k2) (k3:=k3) (k5:=k5) FB (mN:=mN) (tl.hasType FB.hasBase) (I.ok.hd hc) ?_ hni (wJ I hg hm ⟨rfl,?_⟩ hd)
 .rw[he];show(false||(backTo cpos<|starEach es X.env).any (·.1))=false;rw[hpl];rfl
 .have hh:=ha cpos pins s σ H _ I h;rw[he]at hh⊢;refine aN1 (bF hh (λus s2 ⟨vs,H1,I1,r1,q1⟩=>⟨rfl,by rw[<-r1.length];exact q1.1,keepS I1 _ _ hC,hN.keeps<|keepS I1,tl.keeps<|keepS I1,λh' a mk=> ?_⟩) λ_ _ y=>y)
  obtain⟨t,m1,m2,m3⟩:=mk.there;have I2:Inv X pins σ H1 {s2 with heap:=h'}:=I1.kept mk.keeps;refine th pins σ H1 _ a _ _ (.ref t) none I2 m1 rfl rfl rfl rfl (I1.hok.there mk.new) ?_ (λd z=>by cases z) q1.2
  cases r:X.s₀.heap.get? a with
  | none=>rfl
  | some o=>
   obtain⟨o',q'⟩:=I1.base.there a o r (by rw[hex];simp)
   rw[mk.new]at q';cases q'
end
section
variable {prog:Program}{w:World}{A:Around}{E:Value->Shared->Prop}{hp:Heap}{gn:Array GenState}{dr:Drawn}{tn:Nat}{os:OsState}
variable {nm qn:Str}{C N:Addr}{bs bm bmB:List Value}{hdd:Bool}{sn:List Str}{sub:List Value}{ab:Bool}{col:Option Bool}{dd:Option Addr}{k0 k1 k2 k3 k5:Option Value}{B newId initId:String}
theorem cH5 (F:ExcBaseFacts B newId initId bmB)(T:OwnTail hp bmB bm){mN:Str->Option Value}{oI:Obj}{Q:Fin->Shared->Prop}
  (hC:hp.get? C=some (excClassObj nm qn C N bs bm hdd sn sub ab col dd k0 k1 k2 k3 k5 newId)) (hN:hp.Ns N mN) (hini:mN "__init__"=some (.ref fI)) (hfun:hp.get? fI=some oI) (hcls:oI.cls= .type "function")
  (hgo: ∀h' e,MadeExcOf hp h' e (.ref C) us->wpAny (model prog w) A (call (.ref fI) (.ref e::us)) (λr s'=>r= .none/\Q (.done<|.ret<|.ref e) s') E ⟨h',gn,dr,tn,os⟩) (hus:us.length<=sizeLine) :
  wpAny (model prog w) A (Builtin.«type.__call__» ⟨.ref C::us,[]⟩) Q E ⟨hp,gn,dr,tn,os⟩:=by
 repeat (first
  | with_reducible refine nY hC ?_
  | with_reducible refine wpAny_madeBy_exc hC ?_
  | wp_step)
 refine codeAny_call_builtin_code (Code.quiet_builtin _ F.quiet) (wpAny_check_new_subT F T hC ?_)
 refine codeAny_exc_new_subT F T hC ?_ hus
 show wpAny _ _ _ _ _ _
 generalize ea:({cls:= .type "tuple",data:= .seq us.toArray}:Obj)=oa;generalize eb:({cls:= .ref C,data:= .fields #[.ref hp.objs.size,.none,.none,.none,.bool false,.none]}:Obj)=ob;have up: ∀b o,hp.get? b=some o->((hp.push oa).push ob).get? b=some o:=λb o q=>aW _ (aW _ q)
 have g1:=up _ _ hC;have g2:=up _ _ hfun;have g3:=hN.keeps up;have g4:((hp.push oa).push ob).get? (hp.objs.size+1)=some ob:=by
  subst ea eb
  heap_get
 have g5:((hp.push oa).push ob).get? hp.objs.size=some oa:=by
  subst ea;exact aW _ (Heap.get?_push_at rfl rfl)
 have g6:=T.keeps up;have me:(Value.ref C::bm).contains (.ref C)=true:=ae
 have ec:ob.cls= .ref C:=by rw[<-eb]
 unfold isInstance
 repeat (first
  | (with_reducible refine nY g4 ?_;rw[ec])
  | (with_reducible refine zX g1 ?_;rw[me])
  | wp_step)
 show wpAny _ _ (typeLookup (.ref C) _) _ _ _
 refine wpAny_typeLookup_tail g1 g3 g6 F.mroIs F.init.lookup ?_
 rw[hini];refine iK (aB ?_);unfold bindSpecial;refine aB (a15 (T:="function") ⟨_,g2,hcls⟩ ?_);rw[aA ac]
 have mk:MadeExcOf hp ((hp.push oa).push ob) (hp.objs.size+1) (.ref C) us:=⟨up,lF<|v4 _,hp.objs.size,by rw[g4,<-eb],lF<|aG _,by rw[g5,<-ea]⟩
 refine aL (aB<|bF (hgo _ _ mk) (λr s' z=> ?_) λ_ _ z=>z)
 obtain⟨rfl,z⟩:=z
 wp_walk
 exact z
theorem xcall (F:ExcBaseFacts B newId initId bmB)(T:OwnTail hp bmB bm){mN:Str->Option Value}{oI:Obj}
  (hC:hp.get? C=some (excClassObj nm qn C N bs bm hdd sn sub ab col dd k0 k1 k2 k3 k5 newId)) (hN:hp.Ns N mN) (hini:mN "__init__"=some (.ref fI)) (hfun:hp.get? fI=some oI) (hcls:oI.cls= .type "function")
  (hgo: ∀h' e,MadeExcOf hp h' e (.ref C) us->wpAny (model prog w) (A.under<|.builtin "type.__call__" ⟨.ref C::us,[]⟩) (call (.ref fI) (.ref e::us)) (λr s'=>r= .none/\Q (.ref e) s') E ⟨h',gn,dr,tn,os⟩) (hus:us.length<=sizeLine) :
  wpAny (model prog w) A (call (.ref C) us) Q E ⟨hp,gn,dr,tn,os⟩:=by
 have t1:=tc_lookup;have t2:=tc_bind (.ref C);have t3:(⟨hp,gn,dr,tn,os⟩:Shared).TypeIs (.ref C) "type":=⟨_,hC,rfl⟩;refine v7 (aP3 ?_);show wpAny _ _ (callAny (.ref C) _) _ _ _
 repeat (any_goals (first
  | assumption
  | with_reducible refine nY hC ?_
  | wp_step))
 refine⟨rfl,?_⟩
 exact codeAny_call_builtin_at (Code.quiet_builtin _ af) entry_typeCall (wpAny_check_type_call_sub hC<|cH5 F T hC hN hini hfun hcls (λh' e mk=>hgo h' e mk) hus)
end
open Builtin Builtin.ObjectAttr
noncomputable def veMro:List Value:=[.type "ValueError",.type "Exception",.type "BaseException",.type "object"]
noncomputable def vD:List Value->Bool
 | []=>false
 | v::r=>(v::r)==veMro||match v with
  | .ref _=>vD r
  | _=>false
theorem b46 (self:Value): ∀{l:List Value},vD l=true->refuseLoop self "__setattr__" l=pure ()
 | v::r,e=>by
  unfold vD at e;rcases Bool.or_eq_true_iff.mp e with q|q
  .rw[gP.mp q];exact PySem.F.store_ValueError.passes self
  .split at q
   .rw[refuseLoop_ref];exact b46 self q
   .cases q
theorem bC1: ∀{l:List Value},vD l=true->l.contains (.type "object")=true/\l.isEmpty=false
 | v::r,e=>by
  refine⟨?_,rfl⟩
  unfold vD at e;rcases Bool.or_eq_true_iff.mp e with q|q
  .rw[gP.mp q];decide
  .split at q
   .rw[aO2,(bC1 q).1,Bool.or_true]
   .cases q
section
variable {K:Frag}{prog:Program}{w:World}{A:Around}{E:Value->Shared->Prop}{s:Shared}{x C:Addr}{mA:Str->Option Value}{ns:List Str}{name:Str}{v:Value}{cd:ClassData}
theorem xosa {R:Result->Shared->Prop}{tk:Tok}(X:K.In s.heap)(hc:clsIn K C=some cd)(hm:vD cd.mro=true)(hdct:cd.hasDict=true)(ht:findIn K (.ref C) name=some none)
  (I:s.heap.Inst x C mA) (hw:Within mA ns) (hsz:ns.length<=100) {od:Option Obj} {o:Obj} (hx:s.heap.get? x=some o) (J:InstAt s.heap x o C od)
  (hq: ∀h' tk,h'.Inst x C (λy=>if y=name then some v else mA y)->(∀b o,b≠x->(∀o0 dx,s.heap.get? x=some o0->o0.dict=some dx->b≠dx)->s.heap.get? b=some o->h'.get? b=some o)->
   (∀o0,s.heap.get? x=some o0-> ∃o1,h'.get? x=some o1/\o1.cls=o0.cls/\o1.data=o0.data/\ ∀dx,o1.dict=some dx->o0.dict=some dx\/(s.heap.objs.size<=dx))->R (.ok<|.ret .none) {s with heap:=h',toks:=tk}) :
  codeAny (model prog w) A (.call (.builtin "object.__setattr__") ⟨[.ref x,.str name tk,v],[]⟩) R s:=by
 have SF:=PySem.F.store_ValueError;have sub:PySem.W.Looks (model prog w) s.heap (isInstance (.ref x)<|.type "object") true:=J.type.andThen (PySem.W.looks_mroIn X (by unfold PySem.W.mroIn;rw[hc,bind_some,a9 (by rw[(bC1 hm).2];decide),(bC1 hm).1]))
 refine codeAny_call_builtin SF.slot.plain SF.entry (@PySem.W.check_slot (model prog w) _ _ s "object.__setattr__" "object" "__setattr__" (.ref x) [.str name tk,v] [] _ SF.kind SF.split sub (SF.args (.ref x) (.str name tk) v) ?_)
 have hmr:PySem.W.Looks (model prog w) s.heap (mroOf<|.ref C) cd.mro:=(aN6 X hc).andThen .now;rw[PySem.W.osa_eq,refuse_eq];refine aB (aB<|J.type.here<|aB<|hmr.here ?_);rw[b46 _ hm];refine aL (aB<|J.type.here<|aB<|(PySem.W.looks_findIn X ht).here<|aB<|aL ?_);have lc:=aN6 (M:=model prog w) X hc;obtain⟨o',hx',hcl,hnc,hdd⟩:=I;rw[hx]at hx';cases hx';refine aB (aL ?_);refine aB ?_
 show wpAny _ _ (instanceDict x true) _ _ s
 unfold instanceDict;refine aB (wpAny_loadPart hx ?_);rw[hcl];dsimp only;refine aB (lc.here ?_);rw[hdct];rw[a9 ac]
 clear sub hmr lc;obtain⟨hp,gn,dr,tn,os⟩:=s;dsimp only at *;have put: ∀(h1:Heap) (dx:Addr) (o1:Obj),h1.get? x=some o1->o1.cls= .ref C->(∀c,o1.data≠ .cls c)->o1.dict=some dx->dx≠x->h1.Ns1 dx mA->o1.data=o.data->(∀b ob,b≠x->hp.get? b=some ob->h1.get? b=some ob)->(o.dict=some dx\/hp.objs.size<=dx)->
   wpAny (model prog w) A.in1 (storeInDict dx (.str name tk) name v) (λfin s'=>match fin with| .done f=>R (.ok f) s'| .again c'=>c'.quiet=true/\codeAny (model prog w) A c' R s') (λe s'=>R (.error e) s') ⟨h1,gn,dr,tn,os⟩:=by
  intro h1 dx o1 g1 g2 g3 g4 g5 g6 g7 g8 g9;unfold storeInDict newKeyGuard;refine aB (aL<|aB<|wpAny_nsSet1 g6 λh' n' sb=> ?_)
  obtain⟨oD,eD,pD,q1,q2,q3⟩:=n'.count (Within.cons name v hw);have few:eD.size<=sizeLine:=by
   refine aM q3 ?_
   rw[fL,sizeLine_eq]
   lia
  refine aB (wpAny_lookBehind q1 (by rw[q2];exact pastItsLine_dict (aO6 few)) ?_)
  have gx:h'.get? x=some o1:=(sb.2 x<|Ne.symm g5).trans g1;refine aL (hq h' _ ⟨o1,gx,g2,g3,.inr ⟨dx,g4,g5,n'⟩⟩ (λb ob k1 k2 k3=> ?_) λo0 k1=> ?_)
  .have nb:b≠dx:=by
    rcases g9 with z|z
    .exact k2 o dx hx z
    .intro q;have:=aY k3;rw[q]at this;exact absurd (bG this z) (cQ _)
   exact(sb.2 b nb).trans (g8 b ob k1 k3)
  .rw[hx]at k1;cases k1;exact⟨o1,gx,by rw[g2,hcl],g7,λdx' z=>by rw[g4]at z;cases z;exact g9⟩
 rcases hdd with⟨hn,hmA⟩| ⟨dx,hdx,hne,hns⟩
 .rw[hn];dsimp only;rw[a9<|by simp[typeHasDict]]
  have ex: ∀d':Data,d'=o.data->wpAny (model prog w) A.in1 (match d' with
     | .cls c=>pure none
     | _=>do
      let d<-alloc {cls:=Value.type "dict",data:=Data.dict #[]}
      update x λo=>{cls:=o.cls,dict:=some d,data:=o.data,slots:=o.slots}
      dictMade (Value.ref C) x d) (λa s'=>wpAny (model prog w) A.in1 (match a with|some d=>storeInDict d (.str name tk) name v|none=>noDictFor (.ref x) (.ref C) name (none:Option Value).isSome) (λfin s'=>match fin with| .done f=>R (.ok f) s'| .again c'=>c'.quiet=true/\codeAny (model prog w) A c' R s') (λe s'=>R (.error e) s') s') (λe s'=>R (.error e) s') ⟨hp,gn,dr,tn,os⟩:=by
   intro d' ed;split
   .rename_i c
    exact absurd ed.symm (hnc c)
   .have x1:(hp.push {cls:= .type "dict",data:= .dict #[]}).get? x=some o:=aW _ hx;have xs:x≠hp.objs.size:=bL (aY hx);refine aB (wpAny_alloc'<|aB<|wpAny_update' x1<|aL ?_);have alive:Obj.isFreed {cls:=o.cls,dict:=some hp.objs.size,data:=o.data,slots:=o.slots}=false:=by
     have:=(Heap.get?_some_iff.mp hx).2;obtain⟨c1,c2,c3,c4⟩:=o;cases c3<;>first|rfl|exact this
    have gd:((hp.push {cls:= .type "dict",data:= .dict #[]}).update x λo=>{cls:=o.cls,dict:=some hp.objs.size,data:=o.data,slots:=o.slots}).get? hp.objs.size=some {cls:= .type "dict",data:= .dict #[]}:=
     (zW _ _ _ _<|Ne.symm xs).trans (Heap.get?_push_at rfl rfl)
    refine put _ hp.objs.size {cls:=o.cls,dict:=some hp.objs.size,data:=o.data,slots:=o.slots} (qL _ x1 alive) hcl hnc rfl (Ne.symm xs) ?_ rfl (λb ob k1 k2=>(zW _ _ _ _ k1).trans (aW _ k2)) (.inr<|aG _)
    have e0:mA=λ_=>none:=funext hmA
    rw[e0];exact Heap.Ns1.of_empty ⟨_,#[],_,gd,rfl,λe he=>absurd he ae,λ_=>rfl⟩
  exact ex o.data rfl
 .rw[hdx];exact aL (put hp dx o hx hcl hnc hdx hne hns rfl (λb ob _ k=>k) (.inl hdx))
theorem xset {Q:Unit->Shared->Prop}(X:K.In s.heap)(hc:clsIn K C=some cd)(hm:vD cd.mro=true)(hdct:cd.hasDict=true)(hsa:findIn K (.ref C) "__setattr__"=some (some<|.builtin "object.__setattr__"))(ht:findIn K (.ref C) name=some none)
  (I:s.heap.Inst x C mA) (hw:Within mA ns) (hsz:ns.length<=100)
  (hq: ∀h' tk,h'.Inst x C (λy=>if y=name then some v else mA y)->(∀b o,b≠x->(∀o0 dx,s.heap.get? x=some o0->o0.dict=some dx->b≠dx)->s.heap.get? b=some o->h'.get? b=some o)->
   (∀o0,s.heap.get? x=some o0-> ∃o1,h'.get? x=some o1/\o1.cls=o0.cls/\o1.data=o0.data/\ ∀dx,o1.dict=some dx->o0.dict=some dx\/(s.heap.objs.size<=dx))->Q () {s with heap:=h',toks:=tk}) :
  wpAny (model prog w) A (setAttr (.ref x) name v) Q E s:=by
 have I':=I;obtain⟨o,hx,hcl,hnc,hdd⟩:=I;have J: ∃od,InstAt s.heap x o C od:=by
  rcases hdd with⟨e,_⟩| ⟨dx,e,_,od,es,ep,ge,_⟩
  .exact⟨none,hx,hcl,(by unfold PySem.W.notCls;split<;>first|rfl| (rename_i c q;exact absurd q (hnc c))),by rw[e];trivial⟩
  .exact⟨some od,hx,hcl,(by unfold PySem.W.notCls;split<;>first|rfl| (rename_i c q;exact absurd q (hnc c))),by rw[e];exact ge⟩
 obtain⟨od,J⟩:=J;refine PySem.W.set_plain X J hsa ?_;exact xosa (s:={s with toks:=s.toks+1}) X hc hm hdct ht I' hw hsz hx J λh' tk a b c=>hq h' tk a b c
end
structure c55 (K:Frag)(C fI:Addr)(fd:FuncData)(f1 f2:Str):Prop where
 ex: ∃(oc:Value) (od:Option Addr) (nm qual:Str) (params:Arguments) (scope:Scope) (kV doc pm:Value) (an:Option Addr) (cdv ct:Value) (osl:Array (Option Value)) (x0 x1 x2:Str) (p1 p2 p3 p4 p5 p6 p7 p8:Pos),
  fd=fnOf nm qual params [.Assign [.Attribute (.Name x0 p1) f1 p2] (.Name x1 p3) p4,.Assign [.Attribute (.Name x0 p5) f2 p6] (.Name x2 p7) p8] scope .none kV doc pm an cdv ct/\
  K.lookup fI=some ⟨oc,od,.func fd,osl⟩/\oc= .type "function"/\codeIn K cdv qual=true/\b9 [x0,x1,x2] [x0,x1,x2] scope/\
  scope.names.lookup x0=some .local/\scope.names.lookup x1=some .local/\scope.names.lookup x2=some .local/\(x0==("__debug__":Str))=false/\(x1==("__debug__":Str))=false/\(x2==("__debug__":Str))=false/\Binds K fd [x0,x1,x2] []
 cls: ∃cd,clsIn K C=some cd/\vD cd.mro=true/\cd.hasDict=true
 sa:findIn K (.ref C) "__setattr__"=some (some<|.builtin "object.__setattr__")
 n1:findIn K (.ref C) f1=some none
 n2:findIn K (.ref C) f2=some none
def Laid (C e:Addr)(f1 f2:Str)(v1 v2:V)(s s':Shared):Prop:=s'.os=s.os/\AllBare s'.gens/\(∀b o,s.heap.get? b=some o->s'.heap.get? b=some o)/\
 ∃oe t d w1 w2,s'.heap.get? e=some oe/\oe.cls= .ref C/\oe.data= .fields #[.ref t,.none,.none,.none,.bool false,.none]/\oe.dict=some d/\d≠e/\s.heap.get? d=none/\RelV v1 w1/\RelV v2 w2/\s'.heap.Ns1 d (λy=>if y=f2 then some w2 else if y=f1 then some w1 else none)
section
variable {X:Cx}{pins:List (Addr×Obj)}{σ:St}{H:Hp}{s:Shared}{C fI e:Addr}{fd:FuncData}{f1 f2:Str}{h1:Heap}{u1 u2:Value}{v1 v2:V}{E:Value->Shared->Prop}{k:Nat}
theorem cW2 (T:c55 X.K C fI fd f1 f2)(I:Inv X pins σ H s)(hr:i8 (k+1) X.A)(mk:MadeExcOf s.heap h1 e (.ref C) [u1,u2])(r1:RelV v1 u1)(r2:RelV v2 u2) :
  wpAny (model X.prog X.w) (X.A.under<|.builtin "type.__call__" ⟨.ref C::[u1,u2],[]⟩) (call (.ref fI) (.ref e::[u1,u2])) (λr s'=>r= .none/\Laid C e f1 f2 v1 v2 s s') E {s with heap:=h1}:=by
 obtain⟨oc,od,nm,qual,params,scope,kV,doc,pm,an,cdv,ct,osl,x0,x1,x2,p1,p2,p3,p4,p5,p6,p7,p8,rfl,lk,_,hcd,S,l0,l1,l2,d0,d1,d2,hb⟩:=T.ex;obtain⟨cd,hc,hm,hdct⟩:=T.cls;have I1:Inv X pins σ H {s with heap:=h1}:=I.kept mk.keeps;have e0:=I1.env0.make C [u1,u2] [];have rm:=hr.make C [u1,u2] [];have KX:=I1.kIn;have lim:=I1.nolimit
 have us:Vals [V.ref e,v1,v2] [Value.ref e,u1,u2]:= .cons rfl (.cons r1<|.cons r2 .nil);have hkind: ∀y∈[x0,x1,x2].zip [Value.ref e,u1,u2],scope.names.lookup y.1=some .local\/(scope.names.lookup y.1=some .cell/\((cellsFrom (h1.objs.size+1) scope.names []).lookup y.1).isSome=true):=λ⟨n,v⟩ hy=>by
  have:=(a07 hy).1;simp at this;rcases this with rfl|rfl|rfl
  .exact .inl l0
  .exact .inl l1
  .exact .inl l2
 refine v7 ?_
 have bd:=hb {s with heap:=h1} [Value.ref e,u1,u2] KX rfl;rw[kG]at bd;refine codeAny_call_function rm.depth (KX _ _ lk) rfl S.co S.gen rfl (PySem.W.codeRec_of KX hcd) (bd _ _ _ _ ?_);refine wpAny_newFunctionEnv_cells S.kind hkind λenv he s2 x=> ?_
 subst he;refine⟨lim.keeps x.toInCall.keep,codeAny_func ?_⟩;have J:Inv (v9 CX0 X.prog X.w X.K X.mg X.base [x0,x1,x2] qual scope fI cdv (X.A.under<|.builtin "type.__call__" ⟨.ref C::[u1,u2],[]⟩) X.stack {s with heap:=h1} H E0) [] (start [x0,x1,x2] [V.ref e,v1,v2]) H s2:=bO7 S rm.hd e0 rfl us x;obtain⟨m,hn,hl⟩:=J.loc
 have look: ∀(i:Nat) (y:Str) (v:V),[x0,x1,x2][i]? =some y->(start [x0,x1,x2] [V.ref e,v1,v2])[i]? =some (some v)->scope.names.lookup y=some .local-> ∃u,RelV v u/\m y=some u:=λi y v q1 q2 q3=>by
  obtain⟨u,r,lo⟩:=hl i y v q1 q2 (.inl q3);rcases lo with⟨_,hm⟩| ⟨z,_⟩
  .exact⟨u,r,hm⟩
  .have z':scope.names.lookup y=some .cell\/scope.names.lookup y=some .free:=z;rw[q3]at z';rcases z' with z'|z'<;>cases z'
 obtain⟨w0,q0,m0⟩:=look 0 x0 (.ref e) rfl rfl l0;obtain⟨w1,q1,m1⟩:=look 1 x1 v1 rfl rfl l1;obtain⟨w2,q2,m2⟩:=look 2 x2 v2 rfl rfl l2;obtain rfl:w0=Value.ref e:=q0;have kk:=J.ok.kind;have kin:X.K.In s2.heap:=KX.keeps x.toInCall.keep;obtain⟨t,t1,t2,t3⟩:=mk.there;have ge:s2.heap.get? e=some {cls:= .ref C,data:= .fields #[.ref t,.none,.none,.none,.bool false,.none]}:=x.toInCall.keep _ _ t1
 have eL:e≠h1.objs.size:=bL (aY t1);have in0:s2.heap.Inst e C (λ_=>none):=⟨_,ge,rfl,(λc z=>by cases z),.inl ⟨rfl,λ_=>rfl⟩⟩
 refine uT (aL3<|oJ (qN kk l1 hn m1<|oJ (qN kk l0 hn m0 ?_) d0) d1)
 refine xset kin hc hm hdct T.sa T.n1 in0 (ns:=[]) (λn z=>absurd rfl z) ae λh3 tk3 in3 kp3 ob3=> ?_
 obtain⟨o3,g3,c3,dt3,dd3⟩:=ob3 _ ge;have keep3: ∀b o,b≠e->s2.heap.get? b=some o->h3.get? b=some o:=λb o n q=>kp3 b o n (λo0 dx z1 z2=>by rw[ge]at z1;cases z1;cases z2) q
 have hn3:h3.Ns h1.objs.size m:=by
  obtain⟨o,es,ep,z1,z2⟩:=hn;exact⟨o,es,ep,keep3 _ _ (Ne.symm eL) z1,z2⟩
 have keep3': ∀b o,s.heap.get? b=some o->h3.get? b=some o:=λb o q=>keep3 b o (λz=>by rw[z,mk.new]at q;cases q) (x.toInCall.keep _ _<|mk.keeps b o q)
 have kin3:X.K.In h3:=I.kIn.keeps keep3';refine uT (aL3<|oJ (qN kk l2 hn3 m2<|oJ (qN kk l0 hn3 m0 ?_) d0) d2);refine xset kin3 hc hm hdct T.sa T.n2 in3 (ns:=[f1]) (λn z=> ?_) ae λh4 tk4 in4 kp4 ob4=> ?_
 .by_cases c:n=f1
  .simp[c]
  .rw[a9 c]at z;exact absurd rfl z
 obtain⟨o4,g4,c4,dt4,dd4⟩:=ob4 _ g3;refine nZ ?_;obtain⟨o5,g5,_,_,dd5⟩:=in4;rw[g4]at g5;cases g5;rcases dd5 with⟨_,no⟩| ⟨d,ed,de,nd⟩
 .have:=no f2;simp at this
 have dn:s.heap.get? d=none:=by
  cases q:s.heap.get? d with
  | none=>rfl
  | some o=>
   exfalso
   have a3:=aY (keep3' d o q);have a2:=aY (x.toInCall.keep _ _<|mk.keeps d o q);rcases dd4 d ed with z|z
   .rcases dd3 d z with z|z
    .cases z
    .exact absurd (bG a2 z) (cQ _)
   .exact absurd (bG a3 z) (cQ _)
 refine⟨rfl,J.os,J.bare,λb o q=> ?_,o4,t,d,w1,w2,g4,?_,?_,ed,de,dn,q1,q2,nd⟩
 .refine kp4 b o (λz=>by rw[z,mk.new]at q;cases q) (λo0 dx z1 z2=> ?_) (keep3' b o q)
  rw[g3]at z1;cases z1;rcases dd3 dx z2 with z|z
  .cases z
  .intro z';have:=aY (x.toInCall.keep _ _<|mk.keeps b o q);rw[z']at this;exact absurd (bG this z) (cQ _)
 .rw[c4,c3]
 .rw[dt4,dt3]
end
noncomputable def aJ5 (K:Frag)(C fI:Addr)(bmB:List Value)(newId:String):Bool:=match K.lookup C with
 | some ⟨.type "type",_,.cls ck,sl⟩=>(match ck.mro,sl.toList with
  | .ref C2::tail,[_,_,_,_,some<|.builtin nid,_]=>C2==C&&nid==newId&& !ck.hasDel&&PySem.W.tailIn K bmB tail&&PySem.W.nsOkIn K ck.ns&&nsIn K ck.ns "__init__"==some (some<|.ref fI)
  | _,_=>false)
 | _=>false
theorem dN2 {N:Addr}{n:Str}(X:K.In h)(G:h.Ns N mg)(e:nsIn K N n=some (some v)):mg n=some v:=by
 obtain⟨ob,ents,np,look0,dat,_,find0⟩:=G;unfold nsIn at e;split at e
 .rename_i look
  have same:=X _ _ look;rw[look0]at same;cases same;cases dat;split at e
  .rename_i en found
   cases e;rw[<-find0];unfold nsFind findBy;rw[<-Array.find?_toList,found];rfl
  .split at e<;>cases e
 .cases e
structure XClsI (h:Heap)(C fI:Addr)(bmB bm:List Value)(newId:String):Prop where
 ex: ∃(nm q:Str) (N:Addr) (bs:List Value) (hd:Bool) (sn:List Str) (sub:List Value) (ab:Bool) (col:Option Bool) (dd:Option Addr) (k0 k1 k2 k3 k5:Option Value) (mN:Str->Option Value),
  h.get? C=some (excClassObj nm q C N bs bm hd sn sub ab col dd k0 k1 k2 k3 k5 newId)/\h.Ns N mN/\mN "__init__"=some (.ref fI)
 tl:OwnTail h bmB bm
theorem c56 (X:K.In h)(q:aJ5 K C fI bmB newId=true): ∃bm,XClsI h C fI bmB bm newId:=by
 unfold aJ5 at q;split at q
 .rename_i od ck slots look
  split at q
  .rename_i C2 tail a0 a1 a2 a3 nid a5 em es
   simp only[dU,gP,aO5]at q;obtain⟨⟨⟨⟨⟨rfl,rfl⟩,nodel⟩,tk⟩,nk⟩,ni⟩:=q;obtain⟨c1,c2,c3,c4,c5,c6,c7,c8,c9,c10,c11⟩:=ck;dsimp only at em nodel nk ni;subst em nodel;obtain⟨sll⟩:=slots;simp only at es;subst es;have nsk:h.Ns c4 (h.nsMap c4):= .of_isNs (PySem.W.isNs_of_in X nk);exact⟨tail,⟨⟨_,_,_,_,_,_,_,_,_,_,_,_,_,_,_,_,X _ _ look,nsk,dN2 X nsk ni⟩,PySem.W.tail_of_in X tk⟩⟩
  .cases q
 .cases q
section
variable {M:Model}{A:Around}{E:Value->Shared->Prop}{s:Shared}{env:Env}
variable {nm qn:Str}{C N:Addr}{bs bm:List Value}{hdd:Bool}{sn:List Str}{sub:List Value}{ab:Bool}{col:Option Bool}{dd:Option Addr}{k0 k1 k2 k3 k5:Option Value}{newId:String}
theorem xraise {x:Sem Value}{Q:Flow->Shared->Prop}(hbase:bm.contains (.type "BaseException")=true)(hh:A.handled=none)
  (h:wpAny M A x (λv s1=> ∃e oe vs,v= .ref e/\s1.heap.get? C=some (excClassObj nm qn C N bs bm hdd sn sub ab col dd k0 k1 k2 k3 k5 newId)/\s1.heap.get? e=some oe/\oe.cls= .ref C/\oe.data= .fields vs/\vs[1]? =some .none/\E (.ref e) s1) E s) :
  wpAny M A (raiseStmt env (some x) none) Q E s:=by
 have has:(Value.ref C::bm).contains (.type "BaseException")=true:=by rw[aO2,hbase,Bool.or_true]
 unfold raiseStmt;refine aB (bF h (λv s1 z=> ?_) λ_ _ y=>y)
 obtain⟨e,oe,vs,rfl,hC,he,hcl,hdt,h1,hE⟩:=z;obtain⟨hp,gn,dr,tn,os⟩:=s1;obtain⟨oc,od,odt,osl⟩:=oe;dsimp only at hcl hdt;subst hcl hdt
 repeat (first
  | with_reducible refine nY he ?_
  | with_reducible refine nY hC ?_
  | (with_reducible refine zX hC ?_;rw[has])
  | wp_step)
 rw[h1];refine aL (aL ?_);exact wpAny_raiseNew_none hh hE
end
section
variable {P:Program}{w:World}{H:Hp}{h h':Heap}{a:Addr}{o:HO}{fs ex:List Addr}
theorem HOk.laidN (x:HOk P w H h)(k: ∀b u,h.get? b=some u->h'.get? b=some u)(hn:H a=none)(new:sI P w (upd H a o) h' a o):HOk P w (upd H a o) h':=λb u e=>by
 by_cases hb:b=a
 .subst hb;rw[j0]at e;cases e;exact new
 .rw[cE hb]at e;exact(x b u e).stay (λc v _ q=>k c v q) (λc q=>by rw[cE<|dF q hn];exact q) λc xs q=>by rw[cE<|dF q hn];exact q
theorem Un.laidN (k: ∀b u,h.get? b=some u->h'.get? b=some u)(hp:h.get? a=none)(hn:H a=none):Un fs ex H (upd H a o) h h' where
 keep:=λb u q _ _ _=>k b u q
 slot:=λb u q _ _ _=>⟨u.slots,k b u q⟩
 free:=λb u q n _=>by rw[cE (λz=>by rw[z,hp]at q;cases q)];exact n
 there:=λb u q _=>⟨u,k b u q⟩
 tups:=λb xs q=>by rw[cE<|dF q hn];exact q
 frzs:=λb u xs q=>by rw[cE<|dF q hn];exact q
 tbls:=λb ps q=>⟨#[],by rw[cE<|dF q hn,q];simp⟩
end
section
variable {X:Cx}{E:XK}{C fI:Addr}
def dN3 (C:Addr)(f1 f2:Str)(E:XK)(ta:TA):TS:=λ_ σ H=>ta σ H λvs H1=> ∃v1 v2,vs=[v1,v2]/\ ∀d,H1 d=none->E (.ref C) (some d) (upd H1 d<|.xd [(f1,v1),(f2,v2)])
theorem cW3 {x:Str}{np cpos pos:Pos}{e1 e2:Expr}{ta:TA}{B newId initId:String}{bmB:List Value}{fd:FuncData}{f1 f2:Str}{k:Nat}(FB:ExcBaseFacts B newId initId bmB)(q:aJ5 X.K C fI bmB newId=true)(T:c55 X.K C fI fd f1 f2)(hr:i8 (k+1) X.A)(hg:Gl X x)(hm:X.mg x=some (.ref C))(hc:X.calm=true)(ha:PA X [e1,e2] ta)(th:bC0 X E C)(hne:f1≠f2)
  (he:↥(starEach [e1,e2] X.env=(false,eval e1 X.env)::starEach [e2] X.env)) (hpl:↥((backTo cpos<|starEach [e2] X.env).any (·.1)=false)) (hd:⇑((x==("__debug__":Str))=false)) (hex:↥(X.ex=[])) :
  PS X (.Raise (some<|.Call (.Name x np) [e1,e2] [] cpos) none pos) (dN3 C f1 f2 E ta):=by
 intro pins s σ H D I h;obtain⟨bm,⟨⟨nm,qn,N,bs,hdd,sn,sub,ab,col,dd,k0,k1,k2,k3,k5,mN,hC,hN,hni⟩,tl⟩⟩:=c56 I.mod.kin q;have keepS: ∀{pins:List (Addr×Obj)} {σ:St} {H:Hp} {s2:Shared},Inv X pins σ H s2-> ∀b o,X.base.get? b=some o->s2.heap.get? b=some o:=λJ=>J.bk
 rw[arm_exec_Raise];refine aB (kI<|xraise (C:=C) (nm:=nm) (qn:=qn) (N:=N) (bs:=bs) (bm:=bm) (hdd:=hdd) (sn:=sn) (sub:=sub) (ab:=ab) (col:=col) (dd:=dd) (k0:=k0) (k1:=k1) (k2:=k2) (k3:=k3) (k5:=k5) (newId:=newId) (tl.hasType FB.hasBase) (I.ok.hd hc) ?_);refine aB (bF (wpAny_Call_ofName<|wJ I hg hm ?_ hd) (λv s3 h3=>aB (kI<|aL h3)) λ_ _ z=>z)
 have plain:(backTo cpos<|starEach [e1,e2] X.env).any (·.1)=false:=by
  rw[he];show(false||(backTo cpos<|starEach [e2] X.env).any (·.1))=false;rw[hpl];rfl
 have hh:=ha cpos pins s σ H _ I h;unfold callWith;rw[he]at hh plain⊢;refine aB (iK<|aN1<|bF hh (λus s2 z=>aB (kI ?_)) λ_ _ z=>z)
 obtain⟨vs,H1,I1,r1,w1,w2,rfl,hE⟩:=z;simp only[plain];have hC2:=keepS I1 _ _ hC;obtain⟨u1,u2,rfl⟩: ∃u1 u2,us=[u1,u2]:=by
  have e:=r1.length
  match us,e with
  | [a,b],_=>exact⟨a,b,rfl⟩
 obtain⟨q1,q2⟩:RelV w1 u1/\RelV w2 u2:=by
  cases r1 with
  | cons a r=>
   cases r with
   | cons b _=>exact⟨a,b⟩
 obtain⟨oc,od,_,_,_,_,_,_,_,_,_,_,osl,_,_,_,_,_,_,_,_,_,_,_,efd,lk,oce,_⟩:=T.ex;have gf:=I1.kIn _ _ lk;obtain⟨hp,gn,dr,tn,os⟩:=s2;refine aB (wpAny_keeperOf_exc hC2 ?_);refine aB (xcall FB (tl.keeps<|keepS I1) hC2 (hN.keeps<|keepS I1) hni gf oce (λh' a mk=> ?_) (by simp;decide))
 refine bF (cW2 T I1 hr mk q1 q2) (λr s' z=> ?_) λ_ _ z=>z
 obtain⟨rfl,z1,z2,z3,oe,t,d,y1,y2,z4,z5,z6,ed,de,dn,x1,x2,nd⟩:=z;refine⟨rfl,aB<|iK<|wpAny_point<|aL ?_⟩;have dH:H1 d=none:=I1.hok.there dn;have I2:Inv X pins σ (upd H1 d<|.xd [(f1,w1),(f2,w2)]) s':=by
  obtain⟨hp',gn',dr',tn',os'⟩:=s';obtain rfl:os'=os:=z1;refine I1.call (h':=hp') (g':=gn') (d':=dr') (t':=tn') (ch:=[]) (Un.laidN z3 dn dH) (I1.hok.laidN z3 dH ?_) z2 (λb z=>absurd z ae)
  refine⟨_,nd,λf=> ?_⟩
  simp only[cX,List.lookup_nil]
  by_cases c1:f=f1
  .subst c1;rw[aO9,a9 hne,aA rfl];exact x1
  .rw[show(f==f1)=false from qP.mpr c1]
   by_cases c2:f=f2
   .subst c2;rw[aO9,aA rfl];exact x2
   .rw[show(f==f2)=false from qP.mpr c2,a9 c2,a9 c1]
    exact trivial
 refine⟨a,oe,_,rfl,z3 _ _ hC2,z4,z5,z6,rfl,?_⟩
 refine th pins σ _ s' a oe _ (.ref t) (some d) I2 z4 z5 z6 rfl rfl (by rw[cE<|Ne.symm de];exact I1.hok.there mk.new) ?_ (λd' e=>by cases e;exact⟨oe,z4,ed⟩) (hE d dH)
 cases r:X.s₀.heap.get? a with
 | none=>rfl
 | some o=>
  obtain⟨o',q'⟩:=I1.base.there a o r (by rw[hex];simp)
  rw[mk.new]at q';cases q'
end
end L2
namespace M
abbrev XP:=Str->List D->Prop
abbrev ΦX:=List D->(B->Prop)->XP->Prop
noncomputable def bQ6 (n:Str):List Str:=if n="FallsApart" then ["left","right"]else if n="NotWhole" then ["prime","number"]else []
noncomputable def XR (K:Frag)(A:AS)(H:Hp)(n:Str)(ds:List D):Option Addr->Prop
 | none=>bQ6 n=[]
 | some d=> ∃vs,¬A d/\H d=some (.xd<|(bQ6 n).zip vs)/\(bQ6 n).length=vs.length/\bP K A H ds vs
theorem XR.mono {K:Frag}{A A':AS}{H H':Hp}{n:Str}{ds:List D}(p:nJ A H A' H'): ∀{o:Option Addr},XR K A H n ds o->XR K A' H' n ds o
 | none,h=>h
 | some d,⟨vs,h1,h2,h3,h4⟩=>⟨vs,(p d _ h1 h2).1,(p d _ h1 h2).2,h3,h4.mono p⟩
noncomputable def spX (K:Frag)(mg:Str->Option Value)(φ:ΦX):Sp:=λvs H Q E=> ∃A ds Q0 Ex,(∀a,A a->H a≠none)/\bP K A H ds vs/\φ ds Q0 Ex/\(∀b v H',Q0 b->iC H H'->vA K A H H' b v->Q v H')/\ ∀n C es o H',Ex n es->mg n=some (.ref C)->iC H H'->XR K A H' n es o->E (.ref C) o H'
structure FnX (P:Program)(w:World)(K:Frag)(mg:Str->Option Value)(base:Heap)(x:Str)(ps:List Str)(k:Nat)(φ:ΦX):Prop where
 ex: ∃f fd,tX P w K mg base (CXr P w base) k f fd ps (spX K mg φ)/\Binds K fd ps []/\keepIn K (.ref f)=true/\mg x=some (.ref f)
abbrev USX:=XP->US
def lSX (K:Frag)(mg:Str->Option Value)(E:XK)(t:USX):TS:=λD σ H=> ∃C ρ D0 Ex,EOk K C ρ σ H/\t Ex D0 ρ/\DOk K C D0 D/\ ∀n Cl es o H',Ex n es->mg n=some (.ref Cl)->iC C.H0 H'->XR K C.A0 H' n es o->E (.ref Cl) o H'
def bW8 (X:Cx)(E:XK)(st:Stmt)(t:USX):Prop:=PS X st (lSX X.K X.mg E t)
def a71 (X:Cx)(E:XK)(sts:List Stmt)(t:USX):Prop:=PSs X sts (lSX X.K X.mg E t)
section
variable {X:Cx}{E:XK}{st:Stmt}{sts:List Stmt}{t u:USX}{e:Expr}{es:List Expr}{pos:Pos}
theorem aT7 {t:US}(h:PUS X st t):bW8 X E st (λ_=>t):=tO h λD σ H ⟨C,ρ,D0,Ex,I,h,k,_⟩=>⟨C,ρ,D0,I,h,k⟩
theorem d77 {t:US}(h:sW X sts t):a71 X E sts (λ_=>t):=bA5 h λD σ H ⟨C,ρ,D0,Ex,I,h,k,_⟩=>⟨C,ρ,D0,I,h,k⟩
theorem bW9 (h1:bW8 X E st t)(h2:a71 X E sts u):a71 X E (st::sts) (λEx=>aX (t Ex) (u Ex)):=
 bA5 (yM h1 h2) λD σ H ⟨C,ρ,D0,Ex,I,h,k,kx⟩=>⟨C,ρ,{D0 with nx:=u Ex D0},Ex,I,h,⟨λρ' σ' H' q I'=>⟨C,ρ',D0,Ex,I',q,k,kx⟩,k.rt,k.bk,k.ct⟩,kx⟩
theorem bC2 (h1:bW8 X E st t):a71 X E [st] t:=bT5 h1
theorem cH6:a71 X E [] (λ_=>fT):=d77 cF1
theorem d78 {a b:List Stmt}{tc:UT}(hc:PUT X c tc)(ha:a71 X E a t)(hb:a71 X E b u):bW8 X E (.If c a b pos) (λEx=>iU tc (t Ex) (u Ex)):=
 tO (dU0 hc ha hb) λD σ H ⟨C,ρ,D0,Ex,I,h,k,kx⟩=>⟨C,ρ,_,I,h,λc ρ1 H1 q f s=>by
  have I1:=(I.frz f).same s;cases c with
  | true=>
   dsimp only at q⊢;rw[aA rfl]at q⊢;exact⟨C,ρ1,D0,Ex,I1,q,k,kx⟩
  | false=>
   dsimp only at q⊢;rw[a9 ac]at q⊢
   exact⟨C,ρ1,D0,Ex,I1,q,k,kx⟩⟩
def bX0 (φ:ΦX)(t:UA)(Ex:XP):UE:=λρ Q=>t ρ λds ρ1=>φ ds (λb=>Q b ρ1) Ex
theorem spX_of {φ:ΦX}{C:C0}{ρ ρ1:Ev}{σ:L2.St}{H H1:Hp}{ds:List D}{vs:List V}{Q0:B->Prop}{Ex:XP}{Q:VK}(I:EOk X.K C ρ σ H)(f:Frz ρ ρ1)(s:iC H H1)(r:bP X.K (Av C ρ1 σ) H1 ds vs)(q:φ ds Q0 Ex)(kq: ∀b v H',Q0 b->iC H1 H'->vA X.K (Av C ρ1 σ) H1 H' b v->Q v H')(kx: ∀n Cl es o H',Ex n es->X.mg n=some (.ref Cl)->iC C.H0 H'->XR X.K C.A0 H' n es o->E (.ref Cl) o H'):spX X.K X.mg φ (vs++[]) H1 Q E:=by
 have I1:=(I.frz f).same s;rw[kG];exact⟨Av C ρ1 σ,ds,Q0,Ex,λa z=>I1.avSome z,r,q,kq,λn Cl es o H' ex hm s' x=>kx n Cl es o H' ex hm (I1.ext.trans s') (x.mono<|.sub (.refl _) λa z=> .inl z)⟩
theorem cO3 {ps:List Str}{φ:ΦX}{t:UA}(F:FnX X.prog X.w X.K X.mg X.base x ps k φ)(hr:i8 k' X.A)(hk:k<=k')(hp:wZ (CXr X.prog X.w X.base) X E)(hg:Gl X x)(ha:PUA X (e::es) t)(hdb:⇑((x==("__debug__":Str))=false))
  (he:↥(starEach (e::es) X.env=(false,eval e X.env)::starEach es X.env)) (hpl:↥((backTo cpos<|starEach es X.env).any (·.1)=false)) (hs:↥(swapsWith (.Call (.Name x p) (e::es) [] cpos) none pos.line X.env=pure false)) :
  bW8 X E (.Expr (.Call (.Name x p) (e::es) [] cpos) pos) (λEx=>aT2 (bX0 φ t Ex)):=by
 obtain⟨f,fd,G,b,kp,m⟩:=F.ex;exact tO (bT6 (cM4 G (hr.mono hk) hg m kp b .nil hp ha hdb he hpl) hs) λD σ H ⟨C,ρ,D0,Ex,I,h,k,kx⟩=>⟨C,ρ,_,I,h,λds ρ1 vs H1 q f s r=>spX_of I f s r q (λb v H' q' s' r'=>k.nx _ _ _ q' (((I.frz f).same s).same s')) kx⟩
def bX1 (x:Str)(t:UA)(Ex:XP):US:=λ_ ρ=>t ρ λds _=>ds.length<=sizeLine/\Ex x []
theorem lRaise {t:UA}(hm:X.mg x=some (.ref C))(hk:bQ6 x=[])(D:bK4)(σ:L2.St)(H:Hp)(h:lSX X.K X.mg E (λEx=>bX1 x t Ex) D σ H):d75 C E (lA X.K t) D σ H:=by
 obtain⟨C0,ρ,D0,Ex,I,h,k,kx⟩:=h;exact⟨C0,ρ,_,I,h,λds ρ1 vs H1 q f s r=>⟨by rw[<-r.length];exact q.1,kx x C [] none H1 q.2 hm (I.ext.trans s) hk⟩⟩
def aT8 (x:Str)(t1 t2:UE)(Ex:XP):US:=λ_ ρ=>t1 ρ λa ρ1=>t2 ρ1 λb _=>Ex x [a.d,b.d]
theorem d79 {t:UA}{B:String}(FB:ExcBaseFacts B newId initId bmB)(q:excIn X.K C bmB newId=true)(hg:Gl X x)(hm:X.mg x=some (.ref C))(hc:X.calm=true)(ha:PUA X (e::es) t)(th:bC0 X E C)(hk:bQ6 x=[])
  (he:↥(starEach (e::es) X.env=(false,eval e X.env)::starEach es X.env)) (hpl:↥((backTo cpos<|starEach es X.env).any (·.1)=false)) (hd:⇑((x==("__debug__":Str))=false)) (hex:↥(X.ex=[])) :
  bW8 X E (.Raise (some<|.Call (.Name x np) (e::es) [] cpos) none pos) (λEx=>bX1 x t Ex):=tO (d76 FB q hg hm hc ha th he hpl hd hex) (lRaise hm hk)
theorem bQ7 {e1 e2:Expr}{t1 t2:UE}{B:String}(FB:ExcBaseFacts B newId initId bmB)(q:aJ5 X.K C fI bmB newId=true)(T:c55 X.K C fI fd f1 f2)(hr:i8 (k+1) X.A)(hg:Gl X x)(hm:X.mg x=some (.ref C))(hc:X.calm=true)(ha:PUA X [e1,e2] (aC t1<|aC t2 aR))(th:bC0 X E C)(hk:bQ6 x=[f1,f2])(hne:f1≠f2)
  (he:↥(starEach [e1,e2] X.env=(false,eval e1 X.env)::starEach [e2] X.env)) (hpl:↥((backTo cpos<|starEach [e2] X.env).any (·.1)=false)) (hd:⇑((x==("__debug__":Str))=false)) (hex:↥(X.ex=[])) :
  bW8 X E (.Raise (some<|.Call (.Name x np) [e1,e2] [] cpos) none pos) (λEx=>aT8 x t1 t2 Ex):=by
 refine tO (cW3 FB q T hr hg hm hc ha th hne he hpl hd hex) λD σ H ⟨C0,ρ,D0,Ex,I,h,k,kx⟩=> ?_
 refine⟨C0,ρ,λds _=> ∃a b,ds=[a,b]/\Ex x ds,I,?_,λds ρ' vs H' ⟨a,b,q1,q2⟩ f s r=> ?_⟩
 .have e9: ∀(z y:M.B) (ρ2:Ev),(∃a b,[z.d,y.d]=[a,b]/\Ex x [z.d,y.d])=Ex x [z.d,y.d]:=λz y ρ2=>propext ⟨λ⟨_,_,_,w⟩=>w,λw=>⟨_,_,rfl,w⟩⟩
  show t1 ρ λz ρ1=>t2 ρ1 λy ρ2=> ∃a b,[z.d,y.d]=[a,b]/\Ex x [z.d,y.d]
  have:=h;unfold aT8 at this;simp only[e9 _ _ ρ];exact this
 .subst q1;obtain⟨v1,vr,rfl,r1,r2⟩:=r.uncons;obtain⟨v2,vr2,rfl,r3,r4⟩:=r2.uncons;cases r4.unnil;refine⟨v1,v2,rfl,λd hd=> ?_⟩
  have I1:=(I.frz f).same s;have s2:iC H' (upd H' d<|.xd [(f1,v1),(f2,v2)]):=λb o z=>by rw[cE<|dF z hd];exact z
  have na: ∀a,C0.A0 a->a≠d:=λa z e=>I1.avSome (.inl z) (by rw[e];exact hd)
  refine kx x C _ (some d) _ q2 hm (I1.ext.trans s2) ⟨[v1,v2],λz=>na d z rfl,?_,by rw[hk];rfl,(bP.cons r1<|.cons r3 .nil).mono λb o n z=>⟨λw=>n (.inl w),s2 b o z⟩⟩
  rw[j0,hk];rfl
theorem d80 {st:Stmt}{ps:List Str}{φ:ΦX}(F:Fun K x qual st f fd)(S:b9 N ps (aJ st))
  (len: ∀ds Q Ex,φ ds Q Ex->ds.length=ps.length) {t:USX}
  (der: ∀(cdv:Value) (A:Around) (outer:List Env) (s:Shared) (H:Hp) (E:XK),i8 k (A.deeper<|envOfC qual (aJ st) s.heap.objs.size f cdv)->a71 (v9 (CXr P w base) P w K mg base N qual (aJ st) f cdv A outer s H E) E (eG st) t)
  (rd: ∀ds Q Ex,φ ds Q Ex->t Ex {nx:=λ_=>Q (.pu .non),rt:=Q} (init N ds)) :
  tX P w K mg base (CXr P w base) (k+1) f fd ps (spX K mg φ):=by
 obtain⟨oc,od,kV,doc,pm,an,cdv,ct,osl,rfl,lk,hcd⟩:=F.ex;refine d22 lk hcd S (λvs H Q E h=> ?_) λA outer s H vs Q E hr h=> ?_
 .obtain⟨A,ds,Q0,Ex,_,r,h,_⟩:=h;rw[<-r.length];exact len ds Q0 Ex h
 .obtain⟨A',ds,Q0,Ex,hA,r,h,q,qx⟩:=h;refine⟨_,der cdv A outer s H E hr,⟨H,A'⟩,init N ds,_,Ex,bV1 hA r,rd ds Q0 Ex h,⟨λρ σ H' z I=> ?_,λb v H' z s r=>q b v H' z s r,λ_ _ _ z=>z.elim,λ_ _ _ z=>z.elim⟩,qx⟩
  exact q _ _ H' z I.ext (show Rep _ _ _ _ _ by simp only[Rep])
theorem FnX.mk' {st:Stmt}{ps:List Str}{φ:ΦX}(F:Fun K x qual st f fd)(m:mg x=some (.ref f))(b:Binds K fd ps [])(S:b9 N ps (aJ st))
  (len: ∀ds Q Ex,φ ds Q Ex->ds.length=ps.length) {t:USX}
  (der: ∀(cdv:Value) (A:Around) (outer:List Env) (s:Shared) (H:Hp) (E:XK),i8 k (A.deeper<|envOfC qual (aJ st) s.heap.objs.size f cdv)->a71 (v9 (CXr P w base) P w K mg base N qual (aJ st) f cdv A outer s H E) E (eG st) t)
  (rd: ∀ds Q Ex,φ ds Q Ex->t Ex {nx:=λ_=>Q (.pu .non),rt:=Q} (init N ds)):FnX P w K mg base x ps (k+1) φ:=
 ⟨f,fd,d80 F S len der rd,b,F.kp,m⟩
end
end M
section
namespace L2
section
variable {X:Cx}{pins:List (Addr×Obj)}{σ:St}{H:Hp}{s:Shared}{h':Heap}{e:Addr}
theorem Inv.past (I:Inv X pins σ H s)(p:bK9 (frs X.stack) e s.heap h')(hstk:X.stack=X.env::X.outer)(hfr:X.env.frame=some X.env.locals)(hex:X.ex=[])(gs: ∀b o,X.s₀.heap.get? b=some o-> ∃o',g.get? b=some o')(gp: ∀q∈X.pn++pins,∃o',g.get? q.1=some o')(ne:g.get? e=none)(nt: ∀T,Tr s.heap e T->g.get? T=none)(he:H e=none)(ht: ∀T,Tr s.heap e T->H T=none):Inv X pins σ H {s with heap:=h'}:=by
 have none0: ∀b,g.get? b=none->X.s₀.heap.get? b=none:=λb q=>by
  cases r:X.s₀.heap.get? b with
  | none=>rfl
  | some o=>obtain⟨o',q'⟩:=gs b o r;rw[q]at q';cases q'
 have fm: ∀b∈frs X.stack,b=X.env.locals\/b∈X.fs:=λb hb=>by
  rw[hstk]at hb;unfold Cx.fs;unfold frs at hb⊢;rw[kC,hfr]at hb;exact bE.mp hb
 have hL:X.s₀.heap.get? X.env.locals=none:=lF I.ok.above;have hd: ∀b∈X.fs,∀o,s.heap.get? b=some o-> ∀vs,o.data≠ .fields vs:=λb hb o q=>by
  have fl:=I.stack;rw[hstk]at fl;obtain⟨_,o',q',n⟩:=fl.mem (b:=b) (by
   unfold Cx.fs frs at hb;rw[kC,hfr];exact bE.mpr (.inr hb))
  rw[q]at q';cases q';exact n
 have hb0:=I.base;rw[hex]at hb0;have un:=hb0.past p fm hL (none0 e ne) (λT q=>none0 T (nt T q)) hd
 have cellS: ∀c v,s.heap.IsCell c v->h'.IsCell c v:=λc v ⟨o,q1,q2⟩=>by
  obtain⟨sl,q3⟩:=p.slot c o q1 (λvs z=>by rw[q2]at z;cases z)
  exact⟨_,q3,q2⟩
 refine⟨I.ok,I.os,I.bare,by rw[hex];exact un,?_,λx c q=> ?_,I.free,I.freeC,λq hq=> ?_,I.hok.past p I.stkFree he ht,I.len⟩
 .obtain⟨m,hn,hl⟩:=I.loc;refine⟨m,p.slot.ns hn,λi x v a b c=> ?_⟩
  obtain⟨u,r,lo⟩:=hl i x v a b c;refine⟨u,r,?_⟩;rcases lo with z| ⟨z1,c,z2,z3⟩
  .exact .inl z
  .exact .inr ⟨z1,c,z2,cellS c _ z3⟩
 .obtain⟨v,z⟩:=I.cell x c q;exact⟨v,cellS c v z⟩
 .obtain⟨z1,z2,z3,z4,z5⟩:=I.pin q hq;obtain⟨o',g1⟩:=gp q hq;refine⟨p.keep q.1 q.2 z1 (λz=> ?_) (λz=>by rw[z,ne]at g1;cases g1) (λz=>by rw[nt _ z]at g1;cases g1),z2,z3,z4,z5⟩
  rcases fm _ z with y|y
  .exact z3 y
  .exact z4 y
end
noncomputable abbrev Cx.inX (X:Cx)(e:Addr):Cx:={X with A:=X.A.mark (some<|.ref e),calm:=false,xe:=λ_ _=>False}
theorem Cx.Ok.inX {X:Cx}(ok:X.Ok)(e:Addr):(X.inX e).Ok:=
 ⟨ok.mod,ok.kind,ok.glob,ok.blt,ok.above,ok.inj,ok.has,ok.cab,(λz=>by cases z),ok.frames,ok.stk,ok.exf,ok.bs,ok.bsz,ok.noex,ok.exfs,ok.funs,ok.frf⟩
section
variable {X:Cx}{pins:List (Addr×Obj)}{σ:St}{H:Hp}{s:Shared}{e:Addr}
theorem Inv.inX (I:Inv X pins σ H s)(e:Addr):Inv (X.inX e) pins σ H s:=⟨I.ok.inX e,I.os,I.bare,I.base,I.loc,I.cell,I.free,I.freeC,I.pin,I.hok,I.len⟩
theorem Cx.Ok.outX {X:Cx}{Y:Cx}(okY:Y.Ok){e:Addr}(ok:(X.inX e).Ok)(hd:X.calm=true->X.A.handled=none):X.Ok:=
 ⟨ok.mod,ok.kind,ok.glob,ok.blt,ok.above,ok.inj,ok.has,ok.cab,hd,ok.frames,ok.stk,ok.exf,ok.bs,ok.bsz,ok.noex,ok.exfs,ok.funs,ok.frf⟩
theorem Inv.outX (I:Inv (X.inX e) pins σ H s)(hd:X.calm=true->X.A.handled=none):Inv X pins σ H s:=⟨I.ok.outX I.ok hd,I.os,I.bare,I.base,I.loc,I.cell,I.free,I.freeC,I.pin,I.hok,I.len⟩
theorem SP.outX {D:bK4}{f:Flow}(h:SP (X.inX e) pins D f s')(hd:X.calm=true->X.A.handled=none):SP X pins D f s':=by
 cases f with
 | next=>obtain⟨σ',H',I,q⟩:=h;exact⟨σ',H',I.outX hd,q⟩
 | brk=>obtain⟨σ',H',I,q⟩:=h;exact⟨σ',H',I.outX hd,q⟩
 | cont=>obtain⟨σ',H',I,q⟩:=h;exact⟨σ',H',I.outX hd,q⟩
 | ret u=>obtain⟨v,σ',H',I,r,q⟩:=h;exact⟨v,σ',H',I.outX hd,r,q⟩
theorem d81 {M:Model}{hp:Heap}{gn:Array GenState}{dr:Drawn}{tn:Nat}{os:OsState}{Q:Bool->Shared->Prop}
  {nm qn:Str} {N:Addr} {bs bm:List Value} {hdd:Bool} {sn:List Str} {sub:List Value} {ab:Bool} {col:Option Bool} {dd:Option Addr} {k0 k1 k2 k3 k5:Option Value} {newId:String}
  {nm' qn':Str} {N':Addr} {bs' bm':List Value} {hdd':Bool} {sn':List Str} {sub':List Value} {ab':Bool} {col':Option Bool} {dd':Option Addr} {k0' k1' k2' k3' k5':Option Value} {newId':String}
  (hC:hp.get? C=some (excClassObj nm qn C N bs bm hdd sn sub ab col dd k0 k1 k2 k3 k5 newId)) (hR:hp.get? R=some (excClassObj nm' qn' R N' bs' bm' hdd' sn' sub' ab' col' dd' k0' k1' k2' k3' k5' newId'))
  (he:hp.get? e=some oe) (hcl:oe.cls= .ref C) (hb:bm'.contains (.type "BaseException")=true) (hr:(Value.ref C::bm).contains (.ref R)=true) (hq:Q true ⟨hp,gn,dr,tn,os⟩) :
  wpAny M A (excMatches (.ref e)<|.ref R) Q E ⟨hp,gn,dr,tn,os⟩:=by
 have t1:(Value.ref R::bm').contains (.type "BaseException")=true:=by rw[aO2,hb,Bool.or_true]
 have t2:=tc_notTuple;unfold excMatches
 repeat (first
  | (with_reducible refine nY he ?_;rw[hcl])
  | with_reducible refine nY hR ?_
  | (with_reducible refine zX hR ?_;rw[t1])
  | (with_reducible refine zX hC ?_;rw[hr])
  | wp_step)
 exact hq
end
theorem bQ5.past {fs:List Addr}{e:Addr}(n:bQ5 g e h)(p:bK9 fs e h h')(gh: ∀b o,g.get? b=some o-> ∃o',h.get? b=some o')(hf: ∀b∈fs,∀o,h'.get? b=some o-> ∀vs,o.data≠ .fields vs):bQ5 g e h':=by
 refine⟨n.he,λT q=> ?_⟩
 rcases p.tr T q with z|z|z|z
 .obtain⟨o,vs,q1,q2⟩:=p.rcd T q;exact absurd q2 (hf T z o q1 vs)
 .rw[z];exact n.he
 .exact n.ht T z
 .cases r:g.get? T with
  | none=>rfl
  | some o=>obtain⟨o',q'⟩:=gh T o r;rw[z]at q';cases q'
theorem bC3 {fs:List Addr}{e:Addr}(n:bQ5 g e h)(p:bK9 fs e h h')(gh: ∀b o,g.get? b=some o-> ∃o',h.get? b=some o')(hf: ∀b∈fs,∀o,h.get? b=some o-> ∀vs,o.data≠ .fields vs): ∀b o,g.get? b=some o-> ∃o',h'.get? b=some o':=λb o q=>by
 obtain⟨o',q'⟩:=gh b o q
 by_cases c:b∈fs
 .obtain⟨sl,z⟩:=p.slot b o' q' (hf b c o' q');exact⟨_,z⟩
 .exact⟨o',p.keep b o' q' c (λz=>by rw[z,n.he]at q;cases q) λz=>by rw[n.ht b z]at q;cases q⟩
theorem dN4 {l:List Env}(f:h.FunFrames base l): ∀b∈frs l,∀o,h.get? b=some o-> ∀vs,o.data≠ .fields vs:=λb hb o q=>by
 obtain⟨_,o',q',n⟩:=f.mem (b:=b) hb;rw[q]at q';cases q';exact n
def aT9 (CX:CXT)(X:Cx)(E:XK)(pins:List (Addr×Obj))(σ:St):Prop:= ∀(H:Hp) (s:Shared) (e:Value) (s':Shared),Inv X pins σ H s->CX X.stack H s E e s'->X.xe e s'
def b05 (K:Frag)(R C:Addr)(bmB:List Value)(newId:String):Prop:=(excIn K C bmB newId=true\/ ∃fI,aJ5 K C fI bmB newId=true)/\ ∃cd,clsIn K C=some cd/\cd.mro.contains (.ref R)=true
theorem underX (X:K.In h)(u:b05 K R C bmB newId): ∃(nm q:Str) (N:Addr) (bs bm:List Value) (hd:Bool) (sn:List Str) (sub:List Value) (ab:Bool) (col:Option Bool) (dd:Option Addr) (k0 k1 k2 k3 k5:Option Value),
  h.get? C=some (excClassObj nm q C N bs bm hd sn sub ab col dd k0 k1 k2 k3 k5 newId)/\(Value.ref C::bm).contains (.ref R)=true:=by
 obtain⟨a,cd,hc,hr⟩:=u;have has: ∃(nm q:Str) (N:Addr) (bs bm:List Value) (hd:Bool) (sn:List Str) (sub:List Value) (ab:Bool) (col:Option Bool) (dd:Option Addr) (k0 k1 k2 k3 k5:Option Value),h.get? C=some (excClassObj nm q C N bs bm hd sn sub ab col dd k0 k1 k2 k3 k5 newId):=by
  rcases a with a| ⟨fI,a⟩
  .obtain⟨bm,⟨⟨nm,qn,N,bs,hdd,sn,sub,ab,col,dd,k0,k1,k2,k3,k5,mN,hC,_⟩,_⟩⟩:=bW7 X a;exact⟨nm,qn,N,bs,bm,hdd,sn,sub,ab,col,dd,k0,k1,k2,k3,k5,hC⟩
  .obtain⟨bm,⟨⟨nm,qn,N,bs,hdd,sn,sub,ab,col,dd,k0,k1,k2,k3,k5,mN,hC,_⟩,_⟩⟩:=c56 X a;exact⟨nm,qn,N,bs,bm,hdd,sn,sub,ab,col,dd,k0,k1,k2,k3,k5,hC⟩
 obtain⟨nm,qn,N,bs,bm,hdd,sn,sub,ab,col,dd,k0,k1,k2,k3,k5,hC⟩:=has;refine⟨nm,qn,N,bs,bm,hdd,sn,sub,ab,col,dd,k0,k1,k2,k3,k5,hC,?_⟩;unfold clsIn at hc;split at hc
 .rename_i look
  have same:=X _ _ look;rw[hC]at same;cases hc
  injection same with same
  injection same with _ _ same _
  injection same with same
  rw[<-same]at hr;exact hr
 .cases hc
section
variable {X:Cx}
def tTry (K:Frag)(R:Addr)(bmB:List Value)(newId:String)(tb:XK->TS)(th:TS):TS:=λD σ H=> ∃E,tb E D σ H/\ ∀C o H',E (.ref C) o H'->b05 K R C bmB newId/\th D σ H'
theorem ps_try {body:List Stmt}{b0:Stmt}{suite:List Stmt}{r:Str}{rp hpos pos:Pos}{R:Addr}{B newId initId:String}{bmB:List Value}{tb:XK->TS}{th:TS}(FB:ExcBaseFacts B newId initId bmB)(hstk:X.stack=X.env::X.outer)(hfr:X.env.frame=some X.env.locals)(hex:X.ex=[])(hc:X.calm=true)
  (hbody: ∀(xe:Value->Shared->Prop) (E:XK) (pins:List (Addr×Obj)) (s:Shared) (σ:St) (H:Hp) (D:bK4),Inv (X.wish xe) pins σ H s->aT9 (CXr X.prog X.w X.base) (X.wish xe) E pins σ->tb E D σ H->wpAny (model X.prog X.w) X.A (execs body X.env) (SP (X.wish xe) pins D) xe s)
  (hsuite: ∀a,PSs (X.inX a) (b0::suite) th) (hg:Gl X r) (hm:X.mg r=some (.ref R)) (hR:excIn X.K R bmB newId=true) (hd:⇑((r==("__debug__":Str))=false)) :
  PS X (.Try body [.ExceptHandler (some<|.Name r rp) none (b0::suite) hpos] [] [] pos) (tTry X.K R bmB newId tb th):=by
 rintro pins s σ H D I ⟨E,hb,hx⟩;refine wpAny_Try_except ?_;have goX:aT9 (CXr X.prog X.w X.base) (X.wish λe s1=>wpAny (model X.prog X.w) X.A (noteFrame e X.env) (λ_ s2=>wpAny (model X.prog X.w) X.A (setFlight e none) (λ_ s3=>wpAny (model X.prog X.w) X.A (handleBy e X.env [.ExceptHandler (some<|.Name r rp) none (b0::suite) hpos]) (SP X pins D) X.xe s3) X.xe s2) X.xe s1) E pins σ:=by
  rintro H1 s1 e s' J ⟨a,C,o',H',rfl,ho,hbr,un,hok,⟨⟨a0,fl⟩,fe,ft⟩,nw,_,hE⟩;have J0:=J.unwish;have J1:Inv X pins σ H' s':=J0.call' ho un hok hbr (λb z=>absurd z ae)
  obtain⟨under,hth⟩:=hx C o' H' hE;have fl':FlyingW X.base X.stack a (.ref C) a0 s'.heap:=fl;have frs':=J1.ok.frames;have g0: ∀b o,s1.heap.get? b=some o-> ∃o',s'.heap.get? b=some o':=λb o q=>un.there b o q ae
  have gs: ∀b o,X.s₀.heap.get? b=some o-> ∃o',s1.heap.get? b=some o':=λb o q=>J0.base.there b o q (by rw[hex];simp)
  have gp: ∀q∈X.pn++pins,∃o',s1.heap.get? q.1=some o':=λq hq=>⟨_,(J0.pin q hq).1⟩
  show wpAny _ _ (noteFrame (.ref a) X.env) _ _ s'
  rw[hstk]at fl' frs';refine d73 frs' hfr fl' λh2 held p2=> ?_
  rw[<-hstk]at p2 held fl';have J2:=J1.past (g:=s1.heap) p2 hstk hfr hex gs gp nw.he nw.ht fe ft;have n2:=nw.past p2 g0 (dN4 held.2.2.1);have g2:=bC3 nw p2 g0 (dN4 fl'.2.2.1);have t2:=b92 J1.hok p2 J1.stkFree fe ft;refine c53 held λh3 fl3 p3=> ?_
  have J3:=J2.past (g:=s1.heap) p3 hstk hfr hex gs gp n2.he n2.ht fe t2;have n3:=n2.past p3 g2 (dN4 fl3.2.2.1);have g3:=bC3 n2 p3 g2 (dN4 held.2.2.1);have t3:=b92 J2.hok p3 J2.stkFree fe t2;obtain⟨oe,he,hcl⟩:=fl3.there;obtain⟨nm,qn,N,bs,bm,hdd,sn,sub,ab,col,dd,k0,k1,k2,k3,k5,hC,hin⟩:=underX J3.kIn under
  obtain⟨bm',⟨⟨nm',qn',N',bs',hdd',sn',sub',ab',col',dd',k0',k1',k2',k3',k5',mN',hRo,_⟩,tl'⟩⟩:=bW7 J3.kIn hR;refine wpAny_handleBy_cons (codeAny_handlers_test<|wJ (X:=X.inX a) (J3.inX a) hg hm ?_ hd) (by intro q;cases q)
  refine d81 hC hRo he hcl (tl'.hasType FB.hasBase) hin ?_
  refine codeAny_handlers_suite (c53 fl3 λh4 fl4 p4=> ?_)
  have J4:=J3.past (g:=s1.heap) p4 hstk hfr hex gs gp n3.he n3.ht fe t3;exact bF (hsuite a pins _ σ H' D (J4.inX a) hth) (λf s2 q=>q.outX λ_=>J4.ok.hd hc) λ_ _ z=>z.elim
 refine bF (hbody _ E pins s σ H D (I.wish _) goX hb) (λf s1 q=> ?_) λ_ _ z=>z
 have q':=q.unwish;cases f with
 | next=>exact nZ q'
 | ret v=>exact q'
 | brk=>exact q'
 | cont=>exact q'
end
section
variable {X:Cx}{CX:CXT}{k:Nat}{f C:Addr}{fd:FuncData}{ps:List Str}{sp:Sp}{dvs:List V}{ds:List Value}{E:XK}{x:Str}{p pos:Pos}{e:Expr}{es:List Expr}{t:TA}
theorem cW4 {pins:List (Addr×Obj)}{σ:St}{H:Hp}{s:Shared}{Q:VK}{us:List Value}{vs:List V}(M:Mk X.K C f)(F:tX X.prog X.w X.K X.mg X.base CX k f fd ps sp)(hr:i8 (k+1) X.A)(hb:Binds X.K fd ps [])
  (hx:aT9 CX X E pins σ) (I:Inv X pins σ H s) (r:Vals vs us)
  (h: ∀x dx,H x=none->H dx=none->dx≠x->sp (.ref x::vs) (upd (upd H dx<|.own x) x<|.ins C dx []) (λv H2=>v= .non/\Q (.ref x) H2) E) :
  wpAny (model X.prog X.w) X.A (call (.ref C) us) (EP X pins σ Q) X.xe s:=by
 have hq:=h (s.heap.objs.size+1) s.heap.objs.size (I.hok.fresh<|v4 _) (I.hok.fresh<|aG _) (bL<|qZ _);have I2:=Inv.made (C:=C) I;have r2:Vals (V.ref (s.heap.objs.size+1)::vs) (Value.ref (s.heap.objs.size+1)::us):= .cons rfl r;have hl:(Value.ref (s.heap.objs.size+1)::us++[]).length=ps.length:=by
  have e:=r2.length;rw[F.len _ _ _ _ hq]at e;rw[kG];exact e.symm
 have bd:=hb (s:={s with heap:=(s.heap.push {cls:= .type "dict",data:= .dict #[]}).push (instObj C s.heap.objs.size)}) (Value.ref (s.heap.objs.size+1)::us) I2.kIn hl;rw[kG]at bd;refine v7 (c24 (f:=f) I.kIn M.makes M.init (gP.mp M.fn) (rC (F.run _ X.stack _ _ ⟨Value.ref (s.heap.objs.size+1)::us,[]⟩ (Value.ref (s.heap.objs.size+1)::us) _ _ E (hr.make C us [])
  (I2.env0.make C us []) bd r2 hq) λr s' hq'=> ?_))
 cases r with
 | error e=>exact hx _ _ e s' I2 hq'
 | ok fl=>
  cases fl with
  | ret u=>
   obtain⟨v,H',I3,rv,ev,q3⟩:=I2.after hq';subst ev;exact⟨rv,⟨V.ref<|s.heap.objs.size+1,H',I3,rfl,q3⟩⟩
  | next=>exact False.elim hq'
  | brk=>exact False.elim hq'
  | cont=>exact False.elim hq'
theorem dN5 {σ:St}{H:Hp}{Q:VK}(M:Mk X.K C f)(F:tX X.prog X.w X.K X.mg X.base CX k f fd ps sp)(hr:i8 (k+1) X.A)(hg:Gl X x)(hm:X.mg x=some (.ref C))(hb:Binds X.K fd ps [])(hx:aT9 CX X E pins σ)
  (ha:PA X (e::es) t) (I:Inv X pins σ H s) (h:cM3 C sp [] E t σ H Q) (hdb:(x==("__debug__":Str))=false) (he:starEach (e::es) X.env=(false,eval e X.env)::starEach es X.env) (hpl:(backTo pos<|starEach es X.env).any (·.1)=false) :
  wpAny (model X.prog X.w) X.A (eval (.Call (.Name x p) (e::es) [] pos) X.env) (EP X pins σ Q) X.xe s:=by
 refine qR (wJ I hg hm ?_ hdb)
 refine aN9 (h₀:=X.base) I.ok.mod.kin M.kp (thn (ha pos pins s σ H _ I h) λus s1 ⟨vs,H1,I1,r,q⟩=>⟨I1.kIn,?_⟩) he hpl
 exact cW4 M F hr hb hx I1 r λx dx a b c=>by have:=q x dx a b c;rw[kG]at this;exact this
end
end L2
namespace M
section
variable {X:Cx}{e:Expr}{es:List Expr}{pos:Pos}{te:UE}{K:Frag}{A:AS}{H:Hp}
def bC4 (f:Str)(t:UE):UE:=λρ Q=>t ρ λb ρ1=>match b.d with
 | .obj _ ks l=>(match(ks.zip l).lookup f with
  | some d=>Q (.pu d) ρ1
  | none=>False)
 | _=>False
theorem bP.field {f:Str}{d:D}: ∀{ks:List Str} {l:List D} {vs:List V},bP K A H l vs->(ks.zip l).lookup f=some d-> ∃v,(ks.zip vs).lookup f=some v/\Rep K A H d v/\f∈ks
 | [],_,_,_,h=>by simp at h
 | _::_,[],_,_,h=>by simp at h
 | q::ks,a::l,vs,r,h=>by
  obtain⟨v,vr,rfl,r1,r2⟩:=r.uncons;rw[aO1,cX]at h;rw[aO1,cX];cases c:f==q with
  | true=>
   rw[c]at h;cases h;exact⟨v,rfl,r1,by rw[gP.mp c];simp⟩
  | false=>
   rw[c]at h;obtain⟨w,h1,h2,h3⟩:=bP.field r2 h;exact⟨w,h1,h2,dS _ h3⟩
theorem b06 {f:Str}(he:PU X e te)(hb:↥(attributeBase e f X.env (eval e X.env)=eval e X.env)):PU X (.Attribute e f pos) (bC4 f te):=
 jP (pe_fld he hb) λσ H Q ⟨C,ρ,Q0,I,h,k⟩=>⟨C,ρ,_,I,h,λb ρ1 v H1 q fz s r=>by
  have rr:=r.rep λa z=>I.avF fz z
  cases ed:b.d with
  | obj C' ks l=>
   rw[ed]at rr q;dsimp only at q;cases el:(ks.zip l).lookup f with
   | none=>rw[el]at q;exact q.elim
   | some d=>
    rw[el]at q;simp only[Rep]at rr;obtain⟨a,dx,vs,rfl,n,c,hl,rl,ok⟩:=rr;obtain⟨w,h1,h2,h3⟩:=rl.field el;exact⟨a,C',dx,ks.zip vs,w,rfl,c,ok.1,ok.2 f h3,h1,k _ ρ1 w H1 q fz s h2⟩
  | _=>rw[ed]at q;exact q.elim⟩
abbrev ΦM:=List D->(List D->Prop)->XP->Prop
noncomputable def spI (K:Frag)(mg:Str->Option Value)(C:Addr)(ks:List Str)(φ:ΦM):Sp:=λvs H Q E=> ∃(x dx:Addr) (vs':List V) (A:AS) (ds:List D) (Q0:List D->Prop) (Ex:XP),vs=V.ref x::vs'/\H x=some (.ins C dx [])/\H dx=some (.own x)/\ ¬A x/\ ¬A dx/\(∀a,A a->H a≠none)/\bP K (λb=>A b\/b=x) H ds vs'/\φ ds Q0 Ex/\
 (∀l ws H',Q0 l->(∀b o,b≠x->H b=some o->H' b=some o)->H' x=some (.ins C dx<|ks.zip ws)->ks.length=ws.length->bP K (λb=>A b\/b=x) H' l ws->Q .non H')/\
 ∀n Cl es o H',Ex n es->mg n=some (.ref Cl)->(∀b o,b≠x->H b=some o->H' b=some o)->XR K A H' n es o->E (.ref Cl) o H'
structure MkX (P:Program)(w:World)(K:Frag)(mg:Str->Option Value)(base:Heap)(x:Str)(k:Nat)(ks:List Str)(φ:ΦM):Prop where
 ex: ∃C f fd ps,Mk K C f/\OkC K C ks/\tX P w K mg base (CXr P w base) k f fd ps (spI K mg C ks φ)/\Binds K fd ps []/\mg x=some (.ref C)
theorem dV0 {φ:ΦM}{t:UA}{E:XK}{C0:C0}{ρ:Ev}{σ:L2.St}{Q:VK}{Q0:Ev->List D->Prop}{Ex:Ev->XP}(ok:OkC X.K C ks)(I:EOk X.K C0 ρ σ H)(h:t ρ λds ρ1=>φ ds (Q0 ρ1) (Ex ρ1))
  (kq: ∀l ρ1 v H',Q0 ρ1 l->Frz ρ ρ1->iC H H'->Rep X.K (Av C0 ρ1 σ) H' (.obj C ks l) v->Q v H') (kx: ∀n Cl ρ1 es o H',Ex ρ1 n es->X.mg n=some (.ref Cl)->EOk X.K C0 ρ1 σ H'->XR X.K (Av C0 ρ1 σ) H' n es o->E (.ref Cl) o H') :
  cM3 C (spI X.K X.mg C ks φ) [] E (lA X.K t) σ H Q:=by
 refine⟨C0,ρ,_,I,h,λds ρ1 vs H1 q f s r x dx nx nd ne=> ?_⟩
 have I1:=(I.frz f).same s;have hA: ∀a,Av C0 ρ1 σ a->H1 a≠none:=λa z=>I1.avSome z
 have s3:iC H1 (upd (upd H1 dx<|.own x) x<|.ins C dx []):=λb o z=>by
  rw[cE<|dF z nx,cE<|dF z nd];exact z
 have back: ∀H',(∀b o,b≠x->upd (upd H1 dx<|.own x) x (.ins C dx []) b=some o->H' b=some o)->iC H1 H':=λH' z b o q'=>z b o (dF q' nx) (s3 b o q')
 rw[kG];refine⟨x,dx,vs,Av C0 ρ1 σ,ds,Q0 ρ1,Ex ρ1,rfl,j0,by rw[cE ne];exact j0,λz=>hA x z nx,λz=>hA dx z nd,λa z q'=> ?_,r.mono<|nJ.fresh s3 nx,q,λl ws H' q0 kp hx hl rl=>⟨rfl,?_⟩,λn Cl es o H' ex hm kp xr=> ?_⟩
 .cases e':H1 a with
  | none=>exact hA a z e'
  | some o=>rw[s3 a o e']at q';cases q'
 .refine kq l ρ1 _ H' q0 f (s.trans<|back H' kp) ?_
  simp only[Rep];exact⟨x,dx,ws,rfl,λz=>hA x z nx,hx,hl,rl.mono<|.sub (.refl _) λa z=> .inl z,ok⟩
 .exact kx n Cl ρ1 es o H' ex hm (I1.same<|back H' kp) xr
def d82 (ks:List Str)(φ:ΦM)(t:UA):UE:=λρ Q=>t ρ λds ρ1=>φ ds (λl=> ∀C,Q (.pu<|.obj C ks l) ρ1) λ_ _=>False
theorem dN6 {φ:ΦM}{t:UA}(F:MkX X.prog X.w X.K X.mg X.base x k ks φ)(hr:i8 (k'+1) X.A)(hk:k<=k')(hg:Gl X x)(ha:PUA X (e::es) t)(hdb:⇑((x==("__debug__":Str))=false))
  (he:↥(starEach (e::es) X.env=(false,eval e X.env)::starEach es X.env)) (hpl:↥((backTo pos<|starEach es X.env).any (·.1)=false)):PU X (.Call (.Name x p) (e::es) [] pos) (d82 ks φ t):=by
 obtain⟨C,f,fd,ps,M,ok,G,b,m⟩:=F.ex;have hp:wZ (CXr X.prog X.w X.base) X (λ_ _ _=>False):=by
  rintro pins σ H s e s' I ⟨_,_,_,_,_,_,_,_,_,_,_,_,z⟩;exact z.elim
 refine jP (dJ4 M (G.mono hk) hr hg m b .nil hp ha hdb he hpl) λσ H Q ⟨C0,ρ,Q0,I,h,k⟩=> ?_
 exact dV0 (Q0:=λρ1 l=> ∀C,Q0 (.pu<|.obj C ks l) ρ1) (Ex:=λ_ _ _=>False) ok I h (λl ρ1 v H' q f s r=>k _ ρ1 v H' (q C) f s r) λn Cl ρ1 es o H' z=>z.elim
def d83 (i:Nat)(ks:List Str)(φ:ΦM)(t:UA)(names:List Str)(th:US):US:=λE ρ=>t ρ λds ρ1=>φ ds (λl=> ∀C,E.nx<|ρ1.set i<|some<|.pu<|.obj C ks l) λn _=>n∈names/\th E ρ1
theorem dN7 {φ:ΦM}{r:Str}{apos rp hpos:Pos}{t:UA}{b0:Stmt}{suite:List Stmt}{th:US}{B:String}(i:Nat)(names:List Str)(FB:ExcBaseFacts B newId initId bmB)(F:MkX X.prog X.w X.K X.mg X.base x k ks φ)(hr:i8 (k'+1) X.A)(hk:k<=k')(hstk:X.stack=X.env::X.outer)(hfr:X.env.frame=some X.env.locals)(hex:X.ex=[])(hc:X.calm=true)
  (hg:Gl X x) (ha: ∀xe,PUA (X.wish xe) (e::es) t) (hN:X.N.Nodup) (hi:X.N[i]? =some y) (hy:Loc X.env.scope y) (hsuite: ∀a,sW (X.inX a) (b0::suite) th) (hgr:Gl X r) (hmr:X.mg r=some (.ref R)) (hR:excIn X.K R bmB newId=true) (hu: ∀n∈names,∀C,X.mg n=some (.ref C)->b05 X.K R C bmB newId)
  (hl: ∀pins σ H s,Inv X pins σ H s->i<σ.length) (hdb:⇑((x==("__debug__":Str))=false)) (hd:⇑((r==("__debug__":Str))=false))
  (he:↥(starEach (e::es) X.env=(false,eval e X.env)::starEach es X.env)) (hpl:↥((backTo cpos<|starEach es X.env).any (·.1)=false)) (hs:↥(swapsWith (.Call (.Name x p) (e::es) [] cpos) (some<|.Name y py) apos.line X.env=pure false)) (hf:X.fn y=true\/X.env.scope.names.lookup y=some .local:=by walk_at "z") :
  PUS X (.Try [.Assign [.Name y py] (.Call (.Name x p) (e::es) [] cpos) apos] [.ExceptHandler (some<|.Name r rp) none (b0::suite) hpos] [] [] pos) (d83 i ks φ t names th):=by
 obtain⟨C,f,fd,ps,M,ok,G,b,m⟩:=F.ex;intro pins s σ H D J q;refine ps_try (R:=R) (tb:=λE=>dI4 (cM3 C (spI X.K X.mg C ks φ) [] E<|lA X.K t) (a67 i)) (th:=lS X.K th) FB hstk hfr hex hc (λxe E pins s σ H D I pa h=> ?_) hsuite hgr hmr hR hd pins s σ H D J ?_
 .refine uT (wpAny_Assign_Name (thn (dN5 (X:=X.wish xe) M (G.mono hk) hr hg m b pa (ha xe) I h hdb he hpl) λv s1 ⟨y',H1,I1,r1,q1⟩=> ?_) hs)
  exact yL (X:=X.wish xe) I1 hN hi hy r1 (λs2 I2=>nZ ⟨_,H1,I2,q1⟩) hf
 .obtain⟨C0,ρ,D0,I,h,k⟩:=q;refine⟨λcls _ H'=> ∃n Cl ρ1,cls=Value.ref Cl/\X.mg n=some (.ref Cl)/\n∈names/\th D0 ρ1/\EOk X.K C0 ρ1 σ H',?_,?_⟩
  .exact dV0 (Q0:=λρ1 l=> ∀C,D0.nx<|ρ1.set i<|some<|.pu<|.obj C ks l) (Ex:=λρ1 n _=>n∈names/\th D0 ρ1) ok I h
    (λl ρ1 v H' q f s1 r=>k.nx _ _ _ (q C) ((I.frz f).store s1 (show vA X.K (Av C0 ρ1 σ) H H' (.pu<|.obj C ks l) v from r)<|hl pins σ H s J)) λn Cl ρ1 es o H' z hm' I' _=>⟨n,Cl,ρ1,rfl,hm',z.1,z.2,I'⟩
  .rintro Cl o H' ⟨n,Cl',ρ1,e1,hm',hn,ht,I'⟩;cases e1;exact⟨hu n hn Cl hm',C0,ρ1,D0,I',ht,k⟩
end
section
variable {K:Frag}{C:C0}{ρ ρ':Ev}{σ:L2.St}{H H':Hp}
theorem EOk.poke {x:Addr}{o:HO}(I:EOk K C ρ σ H)(ax:C.A0 x)(hx: ∀vs,C.H0 x≠some (.lst vs)):EOk K ⟨λb=>if b=x then some o else C.H0 b,C.A0⟩ ρ σ (upd H x o):=by
 have ne: ∀a,C.H0 a=none->a≠x:=λa z e=>by subst e;exact I.a0 a ax z
 have P:nJ (Av C ρ σ) H (Av ⟨λb=>if b=x then some o else C.H0 b,C.A0⟩ ρ σ) (upd H x o):=λb u nb e=>⟨nb,by rw[cE λz=>nb (by subst z;exact .inl ax)];exact e⟩
 refine⟨I.len,?_,?_,I.inj,?_,?_,?_⟩
 .intro i d h;obtain⟨v,h1,h2⟩:=I.pu i d h;exact⟨v,h1,h2.mono P⟩
 .intro i l h;obtain⟨a,vs,h1,h2,h3,h4⟩:=I.ow i l h;have na:=ne a h3;exact⟨a,vs,h1,by rw[cE na];exact h2,by show(if a=x then some o else C.H0 a)=none;rw[a9 na];exact h3,h4.mono P⟩
 .intro i l h;obtain⟨a,vs,h1,h2,h3,h4⟩:=I.bo i l h;have na:a≠x:=λz=>by subst z;exact hx vs h3
  exact⟨a,vs,h1,h2,by show(if a=x then some o else C.H0 a)=_;rw[a9 na];exact h3,h4.mono P⟩
 .intro b u h
  by_cases c:b=x
  .subst c;have h':(if b=b then some o else C.H0 b)=some u:=h;rw[aA rfl]at h';rw[j0];exact h'
  .have h':(if b=x then some o else C.H0 b)=some u:=h;rw[a9 c]at h';rw[cE c];exact I.ext b u h'
 .intro a z;show(if a=x then some o else C.H0 a)≠none;split
  .simp
  .exact I.a0 a z
theorem bC5 {x Cl:Addr}{fs:List (Str×V)}{f:Str}{te:UE}{Q0:B->Ev->Prop}{D:bK4}(I:EOk K C ρ σ H)(ax:C.A0 x)(hx:H x=some (.ins Cl dx fs))(h0:ρ[0]? =some (some<|.pu<|.adr x))(cl:Cls K Cl)(na:a89 K Cl f)(hf:fs.length<1000)(h:te ρ Q0)
  (k: ∀b ρ1 w H',Q0 b ρ1->ρ1[0]? =some (some<|.pu<|.adr x)->(∀a o,a≠x->H a=some o->H' a=some o)->H' x=some (.ins Cl dx<|wF f w fs)->(∃C1:C0,C1.A0=C.A0/\EOk K C1 ρ1 σ H')->Rep K C.A0 H' b.d w->(∀d v,Rep K C.A0 H d v->Rep K C.A0 H' d v)->D.nx σ H') :
  d17 K (aP6 0) (lE K te) f D σ H:=by
 refine⟨C,ρ,Q0,I,h,λb ρ1 w H1 q fz s r=> ?_⟩
 have I1:=(I.frz fz).same s;have h1:ρ1[0]? =some (some<|.pu<|.adr x):=by
  rcases fz.2 0 with z| ⟨l,z,_⟩
  .rw[z];exact h0
  .rw[h0]at z;cases z
 obtain⟨v,e1,e2⟩:=I1.pu 0 _ h1;simp only[Rep]at e2;subst e2;have hx1:=s _ _ hx;have nl: ∀vs,C.H0 x≠some (.lst vs):=λvs z=>by
  have:=I.ext x _ z;rw[hx]at this;cases this
 have P:nJ C.A0 H1 C.A0 (upd H1 x<|.ins Cl dx<|wF f w fs):=nJ.upd ax;refine⟨.ref x,e1,x,Cl,dx,fs,rfl,hx1,cl,na,hf,k b ρ1 w _ q h1 (λa o ne e=>by rw[cE ne];exact s a o e) j0 ⟨⟨λb=>if b=x then some (.ins Cl dx<|wF f w fs)else C.H0 b,C.A0⟩,rfl,I1.poke (o:= .ins Cl dx (wF f w fs)) ax nl⟩ ?_ λd v r'=> ?_⟩
 .exact((r.rep λa z=>I.avF fz z).mono<|.sub (.refl _) λa z=> .inl z).mono P
 .exact(r'.mono<|.same s).mono P
end
section
variable {X:Cx}{E:XK}{st:Stmt}{sts:List Stmt}{t u:USX}{tS:TS}
theorem dN8 (h1:bW8 X E st t)(h2:PSs X sts tS):PSs X (st::sts) (λD=>lSX X.K X.mg E t {D with nx:=tS D}):=yM h1 h2
theorem b93 (h1:bW8 X E st t)(h2:PSs X sts (λD=>lSX X.K X.mg E u {D with nx:=tS D})):PSs X (st::sts) (λD=>lSX X.K X.mg E (λEx=>aX (t Ex) (u Ex)) {D with nx:=tS D}):=
 bA5 (yM h1 h2) λD σ H ⟨C,ρ,D0,Ex,I,h,k,kx⟩=>⟨C,ρ,{D0 with nx:=u Ex D0},Ex,I,h,⟨λρ' σ' H' q I'=>⟨C,ρ',D0,Ex,I',q,k,kx⟩,k.rt,k.bk,k.ct⟩,kx⟩
def tS3 (K:Frag)(f1 f2 f3:Str)(t1 t2 t3:UE):TS:=tSeq (d17 K (aP6 0) (lE K t1) f1) (tSeq (d17 K (aP6 0) (lE K t2) f2)<|d17 K (aP6 0) (lE K t3) f3)
end
theorem d84 {Cl:Addr}{ps:List Str}{φ:ΦM}{f3:Str}{t1 t2 t3:UE}(F:Fun K x qual st f fd)(S:b9 N ps (aJ st))(ok:OkC K Cl [f1,f2,f3])(n1:f1≠f2)(n2:f1≠f3)(n3:f2≠f3)
  (len: ∀ds Q Ex,φ ds Q Ex->ds.length+1=ps.length) (hN:N≠[]) {t:USX}
  (der: ∀(cdv:Value) (A:Around) (outer:List Env) (s:Shared) (H:Hp) (E:XK),i8 k (A.deeper<|envOfC qual (aJ st) s.heap.objs.size f cdv)->
   PSs (v9 (CXr P w base) P w K mg base N qual (aJ st) f cdv A outer s H E) (eG st) (λD=>lSX K mg E t {D with nx:=tS3 K f1 f2 f3 t1 t2 t3 D}))
  (rd: ∀a ds Q Ex,φ ds Q Ex->t Ex {nx:=λρ=>ρ[0]? =some (some<|.pu<|.adr a)/\t1 ρ λb1 ρ1=>t2 ρ1 λb2 ρ2=>t3 ρ2 λb3 _=>Q [b1.d,b2.d,b3.d],rt:=λ_=>False} (init N (.adr a::ds))) :
  tX P w K mg base (CXr P w base) (k+1) f fd ps (spI K mg Cl [f1,f2,f3] φ):=by
 obtain⟨oc,od,kV,doc,pm,an,cdv,ct,osl,rfl,lk,hcd⟩:=F.ex;refine d22 lk hcd S (λvs H Q E h=> ?_) λA outer s H vs Q E hr h=> ?_
 .obtain⟨x,dx,vs',A,ds,Q0,Ex,rfl,_,_,_,_,_,r,h,_⟩:=h;have:=len ds Q0 Ex h;rw[fL,<-r.length];exact this
 .obtain⟨x,dx,vs',A',ds,Q0,Ex,rfl,hx,hdx,nx,nd,hA,r,h,q,qx⟩:=h;have hA2: ∀a,(A' a\/a=x)->H a≠none:=λa z=>by
   rcases z with z|rfl
   .exact hA a z
   .rw[hx];simp
  have r2:bP K (λb=>A' b\/b=x) H (.adr x::ds) (.ref x::vs'):= .cons (by simp only[Rep]) r
  refine⟨_,der cdv A outer s H E hr,⟨H,λb=>A' b\/b=x⟩,init N (.adr x::ds),_,Ex,bV1 hA2 r2,rd x ds Q0 Ex h,⟨λρ σ H' z I=> ?_,λ_ _ _ z=>z.elim,λ_ _ _ z=>z.elim,λ_ _ _ z=>z.elim⟩,λn Cl' es o H' ex hm sm xr=>qx n Cl' es o H' ex hm (λb o _ e=>sm b o e) (xr.mono<|.sub (.refl _) λa z=> .inl z)⟩
  obtain⟨z0,z⟩:=z;have hx':H' x=some (.ins Cl dx []):=I.ext x _ hx;refine bC5 (C:=⟨H,λb=>A' b\/b=x⟩) I (.inr rfl) hx' z0 ok.1 (ok.2 f1 ae) ac z ?_
  rintro b1 ρ1 w1 H1 z1 z0 k1 x1 ⟨C1,a1,I1⟩ r1 m1;refine bC5 (C:=C1) I1 (by rw[a1];exact .inr rfl) x1 z0 ok.1 (ok.2 f2 ae) (show 1<1000 by decide) z1 ?_
  rintro b2 ρ2 w2 H2 z2 z0 k2 x2 ⟨C2,a2,I2⟩ r2 m2;refine bC5 (C:=C2) I2 (by rw[a2,a1];exact .inr rfl) x2 z0 ok.1 (ok.2 f3 ae) (by simp[wF,n1]) z2 ?_
  rintro b3 ρ3 w3 H3 z3 z0 k3 x3 ⟨C3,a3,I3⟩ r3 m3;rw[a1]at m2 r2;rw[a2,a1]at m3 r3;refine q [b1.d,b2.d,b3.d] [w1,w2,w3] H3 z3 (λb o ne e=>k3 b o ne (k2 b o ne<|k1 b o ne<|I.ext b o e)) ?_ rfl (.cons (m3 _ _<|m2 _ _ r1)<|.cons (m3 _ _ r2)<|.cons r3 .nil)
  rw[x3];simp[wF,n1,n2,n3]
def bX2 (s:Stmt):List Stmt:=match s with
 | .ClassDef _ _ _ b _ _ _ _ _ _ _=>b
 | _=>[]
section
variable {P:Program}{w:World}{K:Frag}{mg:Str->Option Value}{base:Heap}
theorem cO4 {an:Option Addr}{osl:Array (Option Value)}{kV doc pm cdv ct:Value}{nm:Str}{x0 x1 x2:Str}{p1 p3 p4 p5 p6 p7 p8:Pos}
  (l:K.lookup fI=some ⟨.type "function",od,.func<|fnOf nm qual (jQ st) (eG st) (aJ st) .none kV doc pm an cdv ct,osl⟩) (c:codeIn K cdv qual=true) (k:keepIn K (.ref fI)=true)
  (hb:eG st=[.Assign [.Attribute (.Name x0 p1) f1 p2] (.Name x1 p3) p4,.Assign [.Attribute (.Name x0 p5) f2 p6] (.Name x2 p7) p8]) (S:b9 [x0,x1,x2] [x0,x1,x2] (aJ st))
  (l0:(aJ st).names.lookup x0=some .local) (l1:(aJ st).names.lookup x1=some .local) (l2:(aJ st).names.lookup x2=some .local) (d0:(x0==("__debug__":Str))=false) (d1:(x1==("__debug__":Str))=false) (d2:(x2==("__debug__":Str))=false)
  (bd: ∀(kV doc pm:Value) (an:Option Addr) (cdv ct:Value) (us:List Value),us.length=[x0,x1,x2].length->bindArgs (fnOf nm qual (jQ st) (eG st) (aJ st) .none kV doc pm an cdv ct) ⟨us,[]⟩=pure ([x0,x1,x2].zip us))
  {cd:ClassData} (hc:clsIn K C=some cd) (hm:vD cd.mro=true) (hd:cd.hasDict=true) (sa:findIn K (.ref C) "__setattr__"=some (some<|.builtin "object.__setattr__")) (n1:findIn K (.ref C) f1=some none) (n2:findIn K (.ref C) f2=some none) :
  c55 K C fI (fnOf nm qual (jQ st) (eG st) (aJ st) .none kV doc pm an cdv ct) f1 f2:=
 ⟨⟨_,od,nm,qual,jQ st,aJ st,kV,doc,pm,an,cdv,ct,osl,x0,x1,x2,p1,p2,p3,p4,p5,p6,p7,p8,by rw[hb],l,rfl,c,S,l0,l1,l2,d0,d1,d2,(bA3 (st:=st) l c k).binds bd⟩,⟨cd,hc,hm,hd⟩,sa,n1,n2⟩
theorem b07 {cd:ClassData}(h:excIn K C bmB newId=true\/ ∃fI,aJ5 K C fI bmB newId=true)(hc:clsIn K C=some cd)(hm:cd.mro.contains (.ref R)=true):b05 K R C bmB newId:=⟨h,cd,hc,hm⟩
theorem Fn.mkA {ps:List Str}(F:Fun K y qual st f fd)(m:mg x=some (.ref f))(b:Binds K fd ps [])(S:b9 N ps (aJ st))
  (len: ∀ds Q,φ ds Q->ds.length=ps.length) {t:US}
  (der: ∀(cdv:Value) (A:Around) (outer:List Env) (s:Shared) (H:Hp) (E:XK),i8 k (A.deeper<|envOfC qual (aJ st) s.heap.objs.size f cdv)->sW (v9 CX0 P w K mg base N qual (aJ st) f cdv A outer s H E).nox (eG st) t)
  (rd: ∀ds Q,φ ds Q->t {nx:=λ_=>Q (.pu .non),rt:=Q} (init N ds)):Fn P w K mg base x ps (k+1) φ:=
 ⟨f,fd,bV2 F S len λcdv A outer s H E hr=>⟨t,der cdv A outer s H E hr,rd⟩,b,F.kp,m⟩
end
end M
end
end
open L2
section
open PySem L2 M
local macro_rules| `(tactic| left)=> `(tactic| simp only[aX,bV,dQ,sJ,iU,fO,uOp,uC,aF,b40,b7,c31,uV,uIx,gIx,nL,qD,aU,aC,aR,n6,iT,aS8,qE,sK,iV,M.gSub,fS,aI5,pX,b63,gI2,yP,lQ,isB,B.d,cU4,uOr,cU5,cM9,d30,dG,fT,cU6,c34,uSl,pH,mQ,gSl,cF5,gMax,gMin,dL,aG0,cU7,g1,g2,dK7,b42,uIf,cG1,dL6,aT2,dL1,tP,a94,dL2,bind_some,Option.bind_none,Option.map_some,Option.map_none,Option.join,uJ,List.getElem?_cons_succ,b99,bA0,fL,qV,gJ,o9,oB,aO5,aM1,cU,fM,reduceCtorEq,cF2,qC,eK,qB,c44,gSlT,kM,bA8,cN7,c46,dM1,cN8,iN,cO0,bQ2,bK8,D.isN,cG7,bX1,aT8,bX0,cG9])
namespace M
variable {j g x r b m a c z w s q a' b' c' P y:Int}{i k last t0 n e U:Nat}{ui:UI}{tb:US}{ρ:Ev}{ws l ns p:List Int}{xs:List ((Nat×(Nat->Int))×Nat)}{js:List Nat}{cap:List (Option Nat)}{te:UE}{Q:B->Ev->Prop}{t:Nat->Nat->Int}{f v u:Nat->Int}{F:Nat×(Nat->Int)}{R:(Nat->Int)->Prop}{C:Addr}
def aA1:Φ:=λds Q=> ∃c k p:Int,ds=[.int c,.int k,.int p]/\0<=k/\k<4294967296/\0<p/\ ∀r:Int,0<=r->r<p->Q (.pu<|.int r)
def bC6:US:=(aX (bV 3<|uOp pX (uOp fS (uOp iV (uOp iV (uOp iV (aF 0)<|uOp fS (uOp fS (uC<|.int 7)<|aF 1)<|aF 1)<|uOp fS (uC<|.int 13)<|aF 1)<|uC<|.int 5)<|uC<|.int 48271)<|uC<|.int 2147483647)<|aX (bV 3<|uOp pX (uOp fS (aF 3)<|aF 3)<|uC<|.int 2147483629)<|dQ<|uOp pX (uOp fS (aF 3)<|uC<|.int 39373)<|aF 2)
theorem eO (i:Int)(h:0<j):i.fmod j=i%j:=Int.fmod_eq_emod_of_nonneg i (Int.le_of_lt h)
theorem kO (i:Int)(h:0<j):i.fdiv j=i/j:=Int.fdiv_eq_ediv_of_nonneg i (Int.le_of_lt h)
theorem cmR {i:Int}(h1: -18446744073709551616<j)(h2:j<18446744073709551616):cD9 i j\/(Sm i/\Sm j):= .inl (.inr ⟨h1,h2⟩)
theorem cmL {i:Int}(h1: -18446744073709551616<i)(h2:i<18446744073709551616):cD9 i j\/(Sm i/\Sm j):= .inl (.inl ⟨h1,h2⟩)
theorem d85: ∀ds Q,aA1 ds Q->bC6 {nx:=λ_=>Q (.pu .non),rt:=Q} (init ["c","k","p","f"] ds):=by
 rintro ds Q ⟨c,k,p,rfl,h0,h1,hp,h⟩;unfold bC6;show(aX _ _:US) _ [some<|.pu<|.int c,some<|.pu<|.int k,some<|.pu<|.int p,none];left;rw[eO _ (by decide:(0:Int)<2147483647),eO _ (by decide:(0:Int)<2147483629),eO _ hp]
 refine⟨cmL ac ac,cmR aa aa,cmL ac ac,cmR ac ac,ac,cmR aa aa,ac,cmR ac ac,aa,?_⟩
 exact h _ (cA _ aa) (bZ _ hp)
theorem cF {g:UG}{D:UD}(n:Nat)(it:Nat->M.D)(ρ1:Ev)(hui: ∀Q:Nat->(Nat->M.D)->Ev->Prop,Q n it ρ1->ui ρ Q)(Pv:Nat->Ev->Prop)(h0:Pv 0 ρ1)
  (hs: ∀i ρ,i<n->Pv i ρ->g (.pu<|it i) ρ λρ2=>tb {D with nx:=Pv (i+1),ct:=Pv (i+1),bk:=D.nx} ρ2) (hd: ∀ρ,Pv n ρ->D.nx ρ):nA ui g tb D ρ:=hui _ ⟨Pv,h0,hs,hd⟩
theorem cO5 (h:i<ws.length):atI (ws.map D.int) (0+(i:Int))=some (.int ws[i]):=by
 rw[bW];exact cG (by rw[bS,aV h];rfl)
def Below (xs ws:List Int):Prop:=xs.length=ws.length/\ ∀(j:Nat) (x w:Int),xs[j]? =some x->ws[j]? =some w->0<=x/\x<w
theorem cpl {i:Int}(h1:0<=j)(h2:j<=1000000)(h3:i.natAbs<2^64):dI7 i j:=⟨h1,h2,h3⟩
def sN:Φ:=λds Q=> ∃(c:Int) (ws:List Int) (p:Int),ds=[.int c,.lst<|ws.map .int,.int p]/\ws.length<=1000/\0<p/\(∀w∈ws,0<w/\w<18446744073709551616)/\ ∀xs:List Int,Below xs ws->Q (.ow<|xs.map .int)
def bC7:US:=(aX (bV 3<|uC<|.int 0)<|aX (iU (fO<|uOp (yP λi j=>decide (j<=i)) (aF 0)<|uOp b63 (uC<|.int 10)<|uC<|.int 18) (bV 3<|uOp M.gSub (aF 0)<|uOp b63 (uC<|.int 10)<|uC<|.int 18) fT)<|aX (bV 4<|n6 aR)<|aX (nA (kM<|aC (nL<|b7 1) aR) (dG 5)<|iU (fO<|uOp (yP λi j=>decide (j<i)) (aF 3)<|uC<|.int 1) (aX (aS8 4<|uOp pX (aF 3)<|uIx (b7 1)<|aF 5)<|bV 3<|uOp aI5 (aF 3)<|uIx (b7 1)<|aF 5)<|aS8 4<|uOp pX (aU aA1<|aC (aF 0)<|aC (aF 5)<|aC (aF 2) aR)<|uIx (b7 1)<|aF 5)<|sJ 4)
theorem c57 {i:Int}(h1: -18446744073709551616<i)(h2:i<18446744073709551616):Sm i:=by
 unfold Sm;have h3:i.natAbs<18446744073709551616:=aa
 exact bG h3 af
theorem bC8 {xs:List Int}(h: ∀(j:Nat) (x w:Int),xs[j]? =some x->ws[j]? =some w->0<=x/\x<w)(hl:xs.length<ws.length)(h0:0<=x)(h1:x<ws[xs.length]) :
  ∀(j:Nat) (y w:Int),(xs++[x])[j]? =some y->ws[j]? =some w->0<=y/\y<w:=by
 intro j y w e1 e2
 by_cases hj:j<xs.length
 .rw[iF hj]at e1;exact h j y w e1 e2
 .rw[jC ad]at e1
  by_cases hj':j=xs.length
  .subst hj';simp at e1;subst e1;rw[aV hl]at e2;cases e2;exact⟨h0,h1⟩
  .have:j-xs.length≠0:=ad
   cases e:j-xs.length with
   | zero=>lia
   | succ n=>rw[e]at e1;simp at e1
theorem d86: ∀ds Q,sN ds Q->bC7 {nx:=λ_=>Q (.pu .non),rt:=Q} (init ["c","w","p","l","f","k"] ds):=by
 rintro ds Q ⟨c,ws,p,rfl,hlen,hp,hw,h⟩;unfold bC7;have tail: ∀left:Int,(aX (bV 4<|n6 aR) (aX (nA (kM<|aC (nL<|b7 1) aR) (dG 5)<|iU (fO<|uOp (yP λi j=>decide (j<i)) (aF 3)<|uC<|.int 1) (aX (aS8 4<|uOp pX (aF 3)<|uIx (b7 1)<|aF 5)<|bV 3<|uOp aI5 (aF 3)<|uIx (b7 1)<|aF 5)<|aS8 4<|uOp pX (aU aA1<|aC (aF 0)<|aC (aF 5)<|aC (aF 2) aR)<|uIx (b7 1)<|aF 5)<|sJ 4):US)
   {nx:=λ_=>Q (.pu .non),rt:=Q} [some<|.pu<|.int c,some<|.pu<|.lst<|ws.map .int,some<|.pu<|.int p,some<|.pu<|.int left,none,none]:=by
  intro left;rw[aX];left;refine⟨ac,?_⟩
  refine cF ws.length (λi=> .int (0+i)) [some<|.pu<|.int c,some<|.pu<|.lst<|ws.map .int,some<|.pu<|.int p,some<|.pu<|.int left,some<|.ow [],none] ?_
   (λi ρ=> ∃(l:Int) (xs:List Int) (kk:Option B),ρ=[some<|.pu<|.int c,some<|.pu<|.lst<|ws.map .int,some<|.pu<|.int p,some<|.pu<|.int l,some<|.ow<|xs.map .int,kk]/\xs.length=i/\ ∀(j:Nat) (x w:Int),xs[j]? =some x->ws[j]? =some w->0<=x/\x<w)
   ⟨left,[],none,rfl,rfl,λj x w e=>by simp at e⟩ ?_ ?_
  .intro Q q;simp only[kM];left;rw[aO];refine⟨⟨ad,ad⟩,?_⟩
   rw[eH];exact q
  .rintro i ρ hi ⟨l,xs,kk,rfl,hl,hb⟩;subst hl;obtain⟨w0,w1⟩:=hw _ (eJ hi);left;refine⟨ac,?_⟩
   by_cases hc:1<l
   .rw[aA hc];simp only[cO5 hi];rw[eO _ w0,kO _ w0];refine⟨ad,?_,⟨ad,c57 ad w1⟩,_,xs++[l%ws[xs.length]],_,by rw[cJ];rfl,ae,bC8 hb hi (cA _ ad)<|bZ _ w0⟩
    rw[aO];exact bG hi (aM hlen ac)
   .rw[a9 hc];refine⟨c,(0+(xs.length:Int)),p,rfl,ad,ad,hp,λr r0 r1=> ?_⟩
    simp only[cO5 hi];rw[eO _ w0];refine⟨ad,?_,l,xs++[r%ws[xs.length]],_,by rw[cJ];rfl,ae,bC8 hb hi (cA _ ad)<|bZ _ w0⟩
    rw[aO];exact bG hi (aM hlen ac)
  .rintro ρ ⟨l,xs,kk,rfl,hl,hb⟩;left;exact h xs ⟨hl,hb⟩
 show(aX _ _:US) _ [some<|.pu<|.int c,some<|.pu<|.lst<|ws.map .int,some<|.pu<|.int p,none,none,none]
 refine(show dI7 10 18/\(if decide ((10:Int)^(18:Int).toNat<=c)=true then _ else _)from⟨cpl ac ac ac,?_⟩)
 split
 .exact⟨cpl ac ac ac,tail _⟩
 .exact tail _
theorem aU0 {d:D}{l:List D}:atI (d::l) 0=some d:=cG (j:=0) rfl
theorem d87 {ys:List Int}(h:i< (ys.map D.int).length): ∃z,(ys.map D.int).getD i .non= .int z:=by
 rw[aO]at h;exact⟨ys[i],by rw[aQ,bS,aV h];rfl⟩
theorem aU1 (k:Nat)(z:Int):(replicate k [D.int z]).flatten=(replicate k z).map .int:=by
 induction k with
 | zero=>rfl
 | succ k ih=>rw[kD,nX,ih,kD];rfl
def aU2:Φ:=λds Q=> ∃(ns:List Int) (k:Int),ds=[.rol<|ns.map .int,.int k]/\ns.length<=63/\0<=k/\k<4294967296/\ ∀r:Int,Q (.pu<|.int r)
def bX3:US:=(aX (iU (fO<|uOp (lQ false) (nL<|b7 0)<|uC<|.int 0) (dQ<|uOp fS (uC<|.int 7919)<|uOp iV (aF 1)<|uC<|.int 1) fT)<|aX (iU (fO<|uOp (yP λi j=>decide (i<j)) (aF 1)<|nL<|b7 0) (dQ<|uIx (b7 0)<|aF 1) fT)<|dQ<|uOp iV (uIx (b7 0)<|uOp pX (aF 1)<|nL<|b7 0)<|uOp fS (uC<|.int 104729)<|aF 1)
theorem d88 {k:Int}(h0:0<=k)(h1:k<ns.length): ∃z,atI (ns.map D.int) k=some (.int z):=by
 obtain⟨i,rfl⟩: ∃i:Nat,k=(i:Int):=⟨k.toNat,ad⟩
 have hi:i<ns.length:=ad
 exact⟨ns[i],cG (by rw[bS,aV hi];rfl)⟩
theorem dN9: ∀ds Q,aU2 ds Q->bX3 {nx:=λ_=>Q (.pu .non),rt:=Q} (init ["s","k"] ds):=by
 rintro ds Q ⟨ns,k,rfl,hl,k0,k1,h⟩;unfold bX3;show(aX _ _:US) _ [some<|.pu<|.rol<|ns.map .int,some<|.pu<|.int k];left;rw[aO];split
 .exact⟨cmL ac ac,h _⟩
 .split
  .obtain⟨z,hz⟩:=d88 (ns:=ns) k0 ad
   rw[hz];exact h z
  .refine⟨ad,?_⟩
   rw[eO _ ad]
   obtain⟨z,hz⟩:=d88 (ns:=ns) (k:=k%ns.length) (cA _ ad) (bZ _ ad)
   rw[hz];exact⟨cmL ac ac,h _⟩
def aU3:Φ:=λds Q=> ∃i:Int,ds=[.int i]/\Q (.pu<|.bl true)
def bC9:US:=(dQ<|cM9 (aU cU7<|aC (aF 0)<|aC (uC<|.ty "int") aR)<|d30<|aU cU7<|aC (aF 0)<|aC (uC<|.ty "bool") aR)
theorem d89: ∀ds Q,aU3 ds Q->bC9 {nx:=λ_=>Q (.pu .non),rt:=Q} (init ["f"] ds):=by
 rintro ds Q ⟨i,rfl,h⟩;unfold bC9;show(dQ _:US) _ [some<|.pu<|.int i];left
 simpa using h
theorem bD0:bootBuiltins "abs"=some (.builtin "abs"):=af
theorem bt_max:bootBuiltins "max"=some (.builtin "max"):=af
theorem bt_min:bootBuiltins "min"=some (.builtin "min"):=af
theorem sD:bootBuiltins "isinstance"=some (.builtin "isinstance"):=af
theorem bt_int:bootBuiltins "int"=some (.type "int"):=af
theorem dO0:bootBuiltins "bool"=some (.type "bool"):=af
theorem eT:bootBuiltins "tuple"=some (.type "tuple"):=af
theorem b94:bootBuiltins "list"=some (.type "list"):=af
theorem dO1: ∀ds Q,bP2 ds Q->ds.length=1:=by rintro ds Q ⟨i,rfl,_⟩;rfl
theorem j6 (t:UE)(D:UD)(ρ:Ev):dQ t D ρ=t ρ (λb _=>D.rt b):=rfl
theorem eU (φ:Φ)(t:UA)(ρ:Ev)(Q:B->Ev->Prop):aU φ t ρ Q=t ρ λds ρ1=>φ ds λb=>Q b ρ1:=rfl
theorem eP (t:UE)(u:UA)(ρ:Ev)(Q:List D->Ev->Prop):aC t u ρ Q=t ρ λx ρ1=>u ρ1 λxs ρ2=>Q (x.d::xs) ρ2:=rfl
theorem aZ (t u:US)(D:UD)(ρ:Ev):aX t u D ρ=t {D with nx:=u D} ρ:=rfl
theorem sE (i:Nat)(t:UE)(D:UD)(ρ:Ev):bV i t D ρ=t ρ λb ρ1=>D.nx (ρ1.set i<|some b):=rfl
theorem fG (n:Nat)(it:Nat->D)(ρ1:Ev)(hui: ∀Q:Nat->(Nat->D)->Ev->Prop,Q n it ρ1->ui ρ Q)(hn:n<=1000000)
  (G:Option B->List D->Ev) (x0:Option B) (h0:tP (a94 ρ1 js) cap last=G x0 []) (h1: ∀x l b,(G x l).set t0 (some b)=G (some b) l) (h1': ∀x l,t0< (G x l).length) (h2: ∀x l (Q:List D->Prop),Q l->qE (G x l) last Q) (h3: ∀x l l',(G x l).set last (some<|.ow l')=G x l')
  (f:Nat->D) (hte: ∀i l (Q':B->Ev->Prop),i<n->Q' (.pu<|f i) (G (some<|.pu<|it i) l)->te (G (some<|.pu<|it i) l) Q') (hq:Q (.ow<|(List.range n).map f) (a94 ρ1 js)) :
  gG js cap last ui (dG t0) (λρ Q=>Q true ρ) te ρ Q:=by
 refine hui _ ⟨λi ρ'=> ∃x,ρ'=G x ((List.range i).map f),⟨x0,h0⟩,?_,?_⟩
 .rintro i ρ' hi ⟨x,rfl⟩;refine⟨h1' _ _,?_⟩;rw[h1];dsimp only;rw[aA rfl];refine hte i _ _ hi (h2 _ _ _ ⟨?_,some<|.pu<|it i,?_⟩)
  .rw[aO,uQ];exact bG hi (aM hn ac)
  .rw[h3,cB,cJ];rfl
 .rintro ρ' ⟨x,rfl⟩;exact h2 _ _ _ hq
noncomputable def aS (r:List Int):D:= .tup (r.map .int)
noncomputable def cW5 (t:List (List Int)):D:= .tup (t.map aS)
theorem cH7 (l:List D)(i:Nat)(h:i<=l.length):cutD l none (some (i:Int))=l.take i:=by
 unfold cutD;rw[HT.sIx_none,HT.sIx_nat,o8 h];simp
theorem aA2 (l:List D)(i:Nat)(h:i<=l.length):cutD l (some (i:Int)) none=l.drop i:=by
 unfold cutD;rw[HT.sIx_none,HT.sIx_nat,o8 h];rw[zR (by rw[uU];exact aG _)]
def a35:Φ:=λds Q=> ∃(t:List (List Int)) (i:Nat),ds=[cW5 t,.int (i:Int)]/\i<t.length/\2<=t.length/\t.length<=1000/\(∀r∈t,1<=r.length)/\Q (.pu<|cW5<|(t.eraseIdx i).map List.tail)
def a36:US:=(dQ<|aU dL<|aC (gG [] [none,none] 1 (iN<|uOp iV (uSl (b7 0) mQ<|pH<|aF 1)<|uSl (b7 0) (pH<|uOp iV (aF 1)<|uC<|.int 1) mQ) (dG 0) (λρ Q=>Q true ρ)<|uSl (b7 0) (pH<|uC<|.int 1) mQ) aR)
theorem d90 {t:List (List Int)}(hi:i<t.length):cutD (t.map aS) none (some (i:Int))++cutD (t.map aS) (some<|(i:Int)+1) none=(t.eraseIdx i).map aS:=by
 have hl:(t.map aS).length=t.length:=aO _;have e1:cutD (t.map aS) none (some (i:Int))=(t.take i).map aS:=by rw[cH7 _ _ ad,oC]
 have e2:cutD (t.map aS) (some<|(i:Int)+1) none=(t.drop<|i+1).map aS:=by
  have:=aA2 (t.map aS) (i+1) ad
  rw[map_drop]
  exact_mod_cast this
 rw[e1,e2,<-cJ,<-List.eraseIdx_eq_take_drop_succ]
theorem cH8 {t:List (List Int)}(hi:i<t.length)(h1000:t.length<=1000)(hr: ∀r∈t,1<=r.length)(hui: ∀Q':Nat->(Nat->D)->Ev->Prop,Q' ((t.eraseIdx i).map aS).length (λk=>((t.eraseIdx i).map aS).getD k .non) ρ->ui ρ Q')(h:Q (.ow<|((t.eraseIdx i).map List.tail).map aS) ρ) :
  gG [] [none,none] 1 ui (dG 0) (λρ Q=>Q true ρ) (uSl (b7 0) (pH<|uC<|.int 1) mQ) ρ Q:=by
 have le:(t.eraseIdx i).length=t.length-1:=aL4 hi;refine fG (t0:=0) ((t.eraseIdx i).map aS).length (λk=>((t.eraseIdx i).map aS).getD k .non) ρ hui (by rw[aO];lia)
  (λx l=>[x,some<|.ow l]) none rfl (λ_ _ _=>rfl) (λ_ _=>cO _) (λ_ _ _ q=>q) (λ_ _ _=>rfl) (λk=>aS (((t.eraseIdx i).getD k []).tail)) ?_ ?_
 .intro k l Q' hk q;rw[aO]at hk;have ek:((t.eraseIdx i).map aS).getD k .non=aS ((t.eraseIdx i).getD k []):=by
   rw[aQ,aQ,bS,aV hk];rfl
  have hm:1<=((t.eraseIdx i).getD k []).length:=by
   rw[aQ,aV hk];exact hr _ (aL8<|eJ hk)
  rw[ek]at q⊢;generalize (t.eraseIdx i).getD k []=r at hm q;simp only[aS]at q⊢;left;have lr:(r.map D.int).length=r.length:=aO _;have ec:cutD (r.map D.int) (some 1) none=r.tail.map D.int:=by
   have:=aA2 (r.map D.int) 1 ad
   rw[show((1:Nat):Int)=1 from rfl]at this
   rw[this,<-map_drop,List.drop_one]
  refine⟨?_,by rw[ec];exact q⟩
  rw[lr];have:HT.sIx r.length 0 (some 1)=min 1 r.length:=HT.sIx_nat r.length 0 1;rw[this];lia
 .have em:(List.range ((t.eraseIdx i).map aS).length).map (λk=>aS (((t.eraseIdx i).getD k []).tail))=((t.eraseIdx i).map List.tail).map aS:=by
   rw[aO];apply lK
   .simp
   .intro k h1 h2;simp at h1;simp[h1,aQ]
  rw[em];exact h
theorem bX4: ∀ds Q,a35 ds Q->a36 {nx:=λ_=>Q (.pu .non),rt:=Q} (init ["t","i"] ds):=by
 rintro ds Q ⟨t,i,rfl,hi,h2,h1000,hr,h⟩;unfold a36;show(dQ _:US) _ [some<|.pu<|cW5 t,some<|.pu<|.int (i:Int)];have hl:(t.map aS).length=t.length:=aO _;rw[j6,eU,eP];refine cH8 hi h1000 hr (λQ' q=> ?_) ?_
 .simp only[iN,cW5];left;rw[<-bY,d90 hi];refine⟨?_,?_,aM (show _<=2000 by rw[aO,aL4 hi];lia) ac,q⟩
  .rw[hl,HT.sIx_none,HT.sIx_nat];lia
  .rw[hl,HT.sIx_none];have:HT.sIx t.length 0 (some<|(i:Int)+1)=min (i+1) t.length:=by exact_mod_cast HT.sIx_nat t.length 0 (i+1)
   rw[this];lia
 .left
  exact h
noncomputable def gD:Nat->List (List Int)->Int
 | 0,_=>0
 | n+1,t=>if t.length=1 then(t.getD 0 []).getD 0 0 else((List.range t.length).map λi=>(if i%2=0 then 1 else -1)*(t.getD i []).getD 0 0*gD n ((t.eraseIdx i).map List.tail)).sum
structure Sq (n:Nat)(t:List (List Int)):Prop where
 pos:1<=t.length
 le:t.length<=n
 row: ∀r∈t,r.length=t.length
 small: ∀r∈t,∀x∈r,x.natAbs<2^2000
def hG (n:Nat):Φ:=λds Q=> ∃t:List (List Int),ds=[cW5 t]/\Sq n t/\Q (.pu<|.int<|gD n t)
def bD1 (hG:Φ):US:=(aX (iU (fO<|uOp (lQ false) (nL<|b7 0)<|uC<|.int 1) (dQ<|uIx (uV<|uIx (b7 0)<|uC<|.int 0)<|uC<|.int 0) fT)<|aX (bV 1<|uC<|.int 0)<|aX (bV 2<|uC<|.int 1)<|aX (nA (kM<|aC (nL<|b7 0) aR) (dG 3)<|aX (c34 1 (gI2 λi j Q=>Q (.pu<|.int<|i+j))<|uOp fS (uOp fS (aF 2)<|uIx (uV<|uIx (b7 0)<|aF 3)<|uC<|.int 0)<|aU hG<|aC (aU a35<|aC (aF 0)<|aC (aF 3) aR) aR)<|bV 2<|sK<|aF 2)<|sJ 1)
theorem aG3 (n:Nat): ∀ds Q,hG n ds Q->ds.length=1:=by rintro ds Q ⟨a,rfl,_⟩;rfl
theorem Sq.less {t:List (List Int)}(h:Sq (n+1) t)(h2:t.length≠1)(hi:i<t.length):Sq n ((t.eraseIdx i).map List.tail):=by
 have le:(t.eraseIdx i).length=t.length-1:=aL4 hi;have hp:=h.pos;have hl:=h.le;refine⟨by rw[aO];lia,by rw[aO];lia,λr hr=> ?_,λr hr x hx=> ?_⟩
 .obtain⟨r',hr',rfl⟩:=fB.mp hr;rw[aO,List.length_tail,h.row r'<|aL8 hr',le]
 .obtain⟨r',hr',rfl⟩:=fB.mp hr;exact h.small r' (aL8 hr') x (List.mem_of_mem_tail hx)
theorem aG4 (f:Nat->Int)(b:Nat): ∀n:Nat,(∀i,i<n->(f i).natAbs<=b)->(((List.range n).map f).sum).natAbs<=n*b
 | 0,_=>ae
 | n+1,h=>by
  rw[cB,cJ,aP5];have h1:=aG4 f b n λi hi=>h i (lJ hi)
  have h2:=h n (qZ n);have h3:((List.map f [n]).sum)=f n:=ae
  rw[h3,Nat.succ_mul];omega
theorem bQ8: ∀(n:Nat) (t:List (List Int)),n<=4->Sq n t->(gD n t).natAbs<=2^(2010*n)
 | 0,t,_,h=>by have:=h.pos;have:=h.le;lia
 | n+1,t,hn,h=>by
  have entry: ∀i,i<t.length->((t.getD i []).getD 0 0).natAbs<=2^2000:=λi hi=>by
   have eg:t.getD i []=t[i]:=by rw[aQ,aV hi];rfl
   rw[eg];have hr:=h.row _ (eJ hi);have hp:=h.pos;have h0:0< (t[i]).length:=ad
   rw[aQ,aV h0];exact oG (h.small _ (eJ hi) _<|eJ h0)
  unfold gD;split
  .have:=entry 0 (by have:=h.pos;lia)
   exact aM this (lH ac ad)
  .rename_i h1
   refine aM (aG4 _ (2^2000*2^(2010*n)) _ λi hi=> ?_) ?_
   .rw[dW,dW];have e1:(if i%2=0 then(1:Int)else -1).natAbs=1:=by split<;>rfl
    rw[e1,one_mul];exact i4 (entry i hi) (bQ8 n _ ad<|h.less h1 hi)
   .have hl:=h.le;have e:2^(2010*(n+1))=2^10*(2^2000*2^(2010*n)):=by
     rw[<-i5,<-i5];congr 1;lia
    rw[e];exact qO _ ad
theorem Sm.pow {i:Int}(h:i.natAbs<=2^k)(hk:k<9000):Sm i:=qU h (Nat.pow_lt_pow_right ac hk)
theorem cO6 {t:List (List Int)}(h:i<t.length):atI (t.map aS) (0+(i:Int))=some (aS<|t.getD i []):=by
 rw[bW];refine cG ?_;rw[bS,aV h,aQ,aV h];rfl
theorem bD2 {r:List Int}(h:0<r.length):atI (r.map D.int) 0=some (.int<|r.getD 0 0):=by
 refine cG (j:=0) ?_
 rw[bS,aV h,aQ,aV h];rfl
theorem aU4 (n:Nat)(hn:n<4): ∀ds Q,hG (n+1) ds Q->bD1 (hG n) {nx:=λ_=>Q (.pu .non),rt:=Q} (init ["t","o","s","i"] ds):=by
 rintro ds Q ⟨t,rfl,sq,h⟩;have hp:=sq.pos;have hle:=sq.le;have lt:(t.map aS).length=t.length:=aO _;have lrow: ∀i,i<t.length->0< (t.getD i []).length:=λi hi=>by
  rw[aQ,aV hi];have:=sq.row _ (eJ hi);show 0< (t[i]).length
  lia
 unfold bD1;show(aX _ _:US) _ [some<|.pu<|.tup<|t.map aS,none,none,none];left;rw[lt];split
 .rename_i h1
  have h1':t.length=1:=ad
  have:=cO6 (t:=t) (i:=0) ad
  rw[show(0:Int)+((0:Nat):Int)=0 from rfl]at this
  rw[this];simp only[aS];rw[bD2<|lrow 0 ad]
  unfold gD at h;rw[aA h1']at h;exact h
 .rename_i h1
  have h1':t.length≠1:=ad
  unfold gD at h;rw[a9 h1']at h;refine cF t.length (λi=> .int (0+i)) [some<|.pu<|.tup<|t.map aS,some<|.pu<|.int 0,some<|.pu<|.int 1,none] ?_ (λi ρ=> ∃x,ρ=[some<|.pu<|.tup<|t.map aS,some<|.pu<|.int ((List.range i).map λi=>(if i%2=0 then 1 else -1)*(t.getD i []).getD 0 0*gD n ((t.eraseIdx i).map List.tail)).sum,some<|.pu<|.int<|if i%2=0 then 1 else -1,x]) ?_ ?_ ?_
  .intro Q' q;simp only[kM];left;rw[lt];refine⟨⟨ad,ad⟩,?_⟩
   rw[eH];exact q
  .exact⟨none,rfl⟩
  .rintro i ρ hi ⟨x,rfl⟩;left;refine⟨ac,?_⟩
   rw[cO6 hi];simp only[aS];rw[bD2<|lrow i hi];have sg:Sm (if i%2=0 then(1:Int)else -1):=by split<;>exact c57 ac ac
   have eg:t.getD i []=t[i]:=by rw[aQ,aV hi];rfl
   have en:((t.getD i []).getD 0 0).natAbs<=2^2000:=by
    have h0:=lrow i hi;rw[eg]at h0⊢;rw[aQ,aV h0];exact oG (sq.small _ (eJ hi) _<|eJ h0)
   have se:Sm ((t.getD i []).getD 0 0):=Sm.pow en ac
   refine⟨.inr ⟨sg,se⟩,t,i,by rw[bW];rfl,hi,ad,ad,λr hr=>by rw[sq.row r hr];exact hp,?_⟩
   refine⟨_,rfl,sq.less h1' hi,?_⟩
   have sd:Sm (gD n<|(t.eraseIdx i).map List.tail):=Sm.pow (bQ8 n _ ad<|sq.less h1' hi) ad
   have sp:Sm ((if i%2=0 then(1:Int)else -1)*(t.getD i []).getD 0 0):=by
    refine Sm.pow (k:=2000) ?_ ac
    rw[dW];have e1:(if i%2=0 then(1:Int)else -1).natAbs=1:=by split<;>rfl
    rw[e1,one_mul];exact en
   left
   refine⟨.inr ⟨sp,sd⟩,some<|.pu<|.int<|0+(i:Int),?_⟩
   have e2: -(if i%2=0 then(1:Int)else -1)=(if(i+1)%2=0 then 1 else -1):=by
    by_cases q:i%2=0
    .rw[aA q,a9 ad]
    .rw[a9 q,aA ad];rfl
   rw[e2,cB,cJ,aP5];simp
  .rintro ρ ⟨x,rfl⟩;left;exact h
noncomputable def lX (p:List Int)(k:Nat)(sums:List Int):Int:=
 -(((List.range<|min (k-1)<|p.length-1).map λi=>p.getD (p.length-1-(i+1)) 0*sums.getD (k-(i+1)) 0).sum+(if k<=p.length-1 then(k:Int)*p.getD (p.length-1-k) 0 else 0))
noncomputable def fF (p:List Int):Nat->List Int
 | 0=>[((p.length-1:Nat):Int)]
 | k+1=>fF p k++[lX p (k+1)<|fF p k]
theorem vE (p:List Int): ∀k,(fF p k).length=k+1
 | 0=>rfl
 | k+1=>by unfold fF;rw[bY,vE p k];rfl
structure b95 (p:List Int):Prop where
 lo:3<=p.length
 hi:p.length<=5
 small: ∀x∈p,x.natAbs<=499
theorem gS {b:Nat}(h: ∀x∈l,x.natAbs<=b)(i:Nat):(l.getD i 0).natAbs<=b:=by
 rw[aQ];cases e:l[i]? with
 | none=>exact cK _
 | some x=>exact h x (zV e)
theorem a37 {p:List Int}(hp:b95 p): ∀k,k<=6-> ∀x∈fF p k,x.natAbs<=2^(15*k+3)
 | 0,_,x,hx=>by
  have:=hp.hi;have e:x=((p.length-1:Nat):Int):=by simpa[fF]using hx
  rw[e,Int.natAbs_natCast];have:(2:Nat)^(15*0+3)=8:=rfl;omega
 | k+1,hk,x,hx=>by
  have ih:=a37 hp k aa
  have ep:(2:Nat)^(15*(k+1)+3)=32768*2^(15*k+3):=by
   rw[show 15*(k+1)+3=15+(15*k+3)by omega,i5]
  have hb:8<=2^(15*k+3):=by
   rw[i5];have:1<=2^(15*k):=Nat.one_le_two_pow;omega
  unfold fF at hx;rcases cP.mp hx with hx|hx
  .have:=ih x hx;omega
  .have e:x=lX p (k+1) (fF p k):=by simpa using hx
   rw[e];unfold lX;rw[oA];have hl:=hp.hi;have s1:=aG4 (λi=>p.getD (p.length-1-(i+1)) 0*(fF p k).getD (k+1-(i+1)) 0) (499*2^(15*k+3)) (min (k+1-1)<|p.length-1) λi _=>by
    rw[dW];exact i4 (gS hp.small _) (gS ih _)
   have s2:(if k+1<=p.length-1 then((k+1:Nat):Int)*p.getD (p.length-1-(k+1)) 0 else 0).natAbs<=4*499:=by
    split
    .rw[dW,Int.natAbs_natCast];exact i4 aa (gS hp.small _)
    .exact cK _
   have s3:min (k+1-1) (p.length-1)*(499*2^(15*k+3))<=4*(499*2^(15*k+3)):=qO _ aa
   have s4:=a00 (((List.range<|min (k+1-1)<|p.length-1).map λi=>p.getD (p.length-1-(i+1)) 0*(fF p k).getD (k+1-(i+1)) 0).sum) (if k+1<=p.length-1 then((k+1:Nat):Int)*p.getD (p.length-1-(k+1)) 0 else 0)
   omega
def vF:Φ:=λds Q=> ∃(p:List Int) (m:Nat),ds=[aS p,.int (m:Int)]/\b95 p/\1<=m/\m<=7/\Q (.ow<|(fF p<|m-1).map .int)
def vG:US:=(aX (bV 2<|uOp M.gSub (nL<|b7 0)<|uC<|.int 1)<|aX (bV 3<|n6<|aC (aF 2) aR)<|aX (nA (bA8<|aC (uC<|.int 1)<|aC (aF 1) aR) (dG 4)<|aX (bV 5<|aU dL6<|aC (gG [2,4] [none,some 0,some 2,some 3,some 4,none] 5 (bA8<|aC (uC<|.int 1)<|aC (uOp iV (aU gMin<|aC (uOp M.gSub (aF 4)<|uC<|.int 1)<|aC (aF 2) aR)<|uC<|.int 1) aR) (dG 0) (λρ Q=>Q true ρ)<|uOp fS (uIx (b7 1)<|uOp M.gSub (aF 2)<|aF 0)<|uIx (b7 3)<|uOp M.gSub (aF 4)<|aF 0) aR)<|aX (iU (fO<|uOp (yP λi j=>decide (i<=j)) (aF 4)<|aF 2) (c34 5 (gI2 λi j Q=>Q (.pu<|.int<|i+j))<|uOp fS (aF 4)<|uIx (b7 0)<|uOp M.gSub (aF 2)<|aF 4) fT)<|aS8 3<|sK<|aF 5)<|sJ 3)
theorem aA3 (h:k<ns.length):atI (ns.map D.int) (k:Int)=some (.int<|ns.getD k 0):=by
 refine cG ?_
 rw[bS,aV h,aQ,aV h];rfl
theorem bD3: ∀ds Q,vF ds Q->vG {nx:=λ_=>Q (.pu .non),rt:=Q} (init ["p","m","n","s","k","t"] ds):=by
 rintro ds Q ⟨p,m,rfl,hp,m1,m7,h⟩;have hlo:=hp.lo;have hhi:=hp.hi;have lp:(p.map D.int).length=p.length:=aO _;unfold vG;show(aX _ _:US) _ [some<|.pu<|.tup<|p.map .int,some<|.pu<|.int (m:Int),none,none,none,none];rw[aZ,sE];left;rw[lp];refine⟨ac,?_⟩
 have en:(p.length:Int)-1=((p.length-1:Nat):Int):=ad
 rw[en];refine cF (m-1) (λi=> .int (1+i)) [some<|.pu<|.tup<|p.map .int,some<|.pu<|.int (m:Int),some<|.pu<|.int ((p.length-1:Nat):Int),some<|.ow<|(fF p 0).map .int,none,none] ?_
  (λi ρ=> ∃x4 x5,ρ=[some<|.pu<|.tup<|p.map .int,some<|.pu<|.int (m:Int),some<|.pu<|.int ((p.length-1:Nat):Int),some<|.ow<|(fF p i).map .int,x4,x5]) ⟨none,none,rfl⟩ ?_ ?_
 .intro Q' q;simp only[bA8];left;refine⟨ad,?_⟩
  rw[show((m:Int)-1).toNat=m-1 by lia]
  exact q
 .rintro i ρ hi ⟨x4,x5,rfl⟩;have bn:=a37 hp i ad
  refine⟨by show 4<6;decide,?_⟩
  dsimp only[List.set_cons_succ,List.set_cons_zero];rw[aZ,sE,eU,eP];refine fG (t0:=0) (min i<|p.length-1) (λj=> .int (1+j)) [some<|.pu<|.tup<|p.map .int,some<|.pu<|.int (m:Int),some<|.pu<|.int ((p.length-1:Nat):Int),some<|.ow<|(fF p i).map .int,some<|.pu<|.int<|1+(i:Int),x5] ?_ ad
   (λx l=>[x,some<|.pu<|.tup<|p.map .int,some<|.pu<|.int ((p.length-1:Nat):Int),some<|.bo<|(fF p i).map .int,some<|.pu<|.int<|1+(i:Int),some<|.ow l]) none rfl (λ_ _ _=>rfl) (λ_ _=>cO _) (λ_ _ _ q=>q) (λ_ _ _=>rfl)
   (λj=> .int (p.getD (p.length-1-(j+1)) 0*(fF p i).getD (i+1-(j+1)) 0)) ?_ ?_
  .intro Q' q;simp only[bA8];left;have e:(if((p.length-1:Nat):Int)<1+(i:Int)-1 then((p.length-1:Nat):Int)else 1+(i:Int)-1)=((min i (p.length-1):Nat):Int):=by split<;>lia
   rw[e];refine⟨ad,?_⟩
   rw[show(((min i (p.length-1):Nat):Int)+1-1).toNat=min i (p.length-1)by lia]
   exact q
  .intro j l Q' hj q;have hj1:j<i:=ad
   have hj2:j<p.length-1:=ad
   left
   rw[show((p.length-1:Nat):Int)-(1+(j:Int))=((p.length-1-(j+1):Nat):Int)by lia,show 1+(i:Int)-(1+(j:Int))=((i+1-(j+1):Nat):Int)by lia]
   rw[aA3 ad,aA3 (by rw[vE];lia)]
   exact⟨.inr ⟨Sm.pow (k:=9) (aM (gS hp.small _) ac) ac,Sm.pow (gS bn _) ad⟩,q⟩
  .have es:((List.range<|min i<|p.length-1).map λj=>D.int (p.getD (p.length-1-(j+1)) 0*(fF p i).getD (i+1-(j+1)) 0))=((List.range<|min i<|p.length-1).map λj=>p.getD (p.length-1-(j+1)) 0*(fF p i).getD (i+1-(j+1)) 0).map D.int:=by
    rw[jJ];rfl
   rw[es];generalize hT:((List.range<|min i<|p.length-1).map λj=>p.getD (p.length-1-(j+1)) 0*(fF p i).getD (i+1-(j+1)) 0)=T
   left
   rw[bP6];dsimp only;have last: ∀z:Int,z= -(lX p (i+1)<|fF p i)->(fF p i).map D.int++[D.int<|-z]=(fF p<|i+1).map D.int:=λz hz=>by
    rw[hz]
    conv=>rhs;unfold fF
    rw[cJ];simp
   have lz:((fF p i).map D.int).length<sizeLine:=by
    rw[aO,vE];exact bG (show _<100 by lia) ac
   by_cases hk:i+1<=p.length-1
   .rw[aA ad]
    rw[show((p.length-1:Nat):Int)-(1+(i:Int))=((p.length-1-(i+1):Nat):Int)by lia,aA3 ad]
    have hz1:T.sum+(1+(i:Int))*p.getD (p.length-1-(i+1)) 0= -(lX p (i+1)<|fF p i):=by
     unfold lX;rw[Int.neg_neg,aA hk,<-hT];rw[show i+1-1=i from rfl,show((i+1:Nat):Int)=1+(i:Int)by lia]
    dsimp only;rw[last _ hz1];exact⟨.inr ⟨c57 ad ad,Sm.pow (k:=9) (aM (gS hp.small _) ac) ac⟩,lz,_,_,rfl⟩
   .rw[a9 ad]
    have hz1:T.sum= -(lX p (i+1)<|fF p i):=by
     unfold lX;rw[Int.neg_neg,a9 hk,<-hT,dY];rfl
    rw[last _ hz1];exact⟨lz,_,_,rfl⟩
 .rintro ρ ⟨x4,x5,rfl⟩;left;exact h
theorem cH9: ∀ds Q,¬hG 0 ds Q:=by
 rintro ds Q ⟨t,rfl,sq,_⟩;have:=sq.pos;have:=sq.le;omega
theorem d91 (t:UE)(D:UD)(ρ:Ev):aT2 t D ρ=t ρ (λ_ ρ1=>D.nx ρ1):=rfl
structure eV (p:List Int):Prop where
 ok:b95 p
 one: ∃q,p=q++[1]
noncomputable def c58 (c:Int):Bool:=decide ((if c<0 then -c else c)<=499)
noncomputable def dO2 (p:List Int):Bool:=decide (3<=p.length)&&(decide (p.length<=5)&&(decide (p.getD (p.length-1) 0=1)&&p.all c58))
theorem b08: ∀(q:List Int) (x:Int),(q++[x]).getD ((q++[x]).length-1) 0=x:=λq x=>by
 rw[bY,aQ,jC ae]
 simp
theorem d92 (p:List Int):dO2 p=true↔eV p:=by
 unfold dO2;simp only[dU,gJ,eI];constructor
 .rintro⟨h1,h2,h3,h4⟩;refine⟨⟨h1,h2,λx hx=> ?_⟩,?_⟩
  .have:=a01 (h4 x hx);split at this<;>lia
  .rcases List.eq_nil_or_concat p with rfl| ⟨q,x,rfl⟩
   .simp at h1
   .rw[List.concat_eq_append]at h3⊢;rw[b08]at h3;exact⟨q,by rw[h3]⟩
 .intro h;refine⟨h.ok.lo,h.ok.hi,?_,λx hx=>iJ ?_⟩
  .obtain⟨q,rfl⟩:=h.one;exact b08 q 1
  .have:=h.ok.small x hx;split<;>lia
theorem cW6 (h:0<p.length):atI (p.map D.int) (-1)=some (.int<|p.getD (p.length-1) 0):=by
 rcases List.eq_nil_or_concat p with rfl| ⟨q,x,rfl⟩
 .simp at h
 .rw[List.concat_eq_append,b08,cJ];exact d25 _ _
def pJ:Φ:=λds Q=> ∃p:List Int,ds=[aS p]/\p.length<=1000/\Q (.pu<|.bl<|dO2 p)
def vI:US:=(dQ<|aU cG1<|aC (gG [] [none,none] 1 (iN<|aF 0) (dG 0) (λρ Q=>Q true ρ)<|uOp (yP λi j=>decide (i<=j)) (aU cF5<|aC (aF 0) aR)<|uC<|.int 499) aR)
def pK:US:=(aX (iU (uOr (fO<|uOp (yP λi j=>decide (i<j)) (nL<|b7 0)<|uC<|.int 3)<|uOr (fO<|uOp (yP λi j=>decide (j<i)) (nL<|b7 0)<|uC<|.int 5)<|fO<|uOp (lQ true) (uIx (b7 0)<|sK<|uC<|.int 1)<|uC<|.int 1) (dQ<|uC<|.bl false) fT) vI)
theorem aU5: ∀ds Q,pJ ds Q->pK {nx:=λ_=>Q (.pu .non),rt:=Q} (init ["r"] ds):=by
 rintro ds Q ⟨p,rfl,hn,h⟩;have lp:(p.map D.int).length=p.length:=aO _;unfold pK;simp only[aS];show(aX _ _:US) _ [some<|.pu<|.tup<|p.map .int];rw[aZ];left;rw[lp];unfold dO2 at h
 by_cases h3:(p.length:Int)<3
 .rw[aA h3];rw[gK ad]at h
  exact h
 rw[a9 h3];rw[iJ<|show 3<=p.length by lia,Bool.true_and]at h
 by_cases h5:(5:Int)< (p.length:Int)
 .rw[aA h5];rw[gK<|show ¬p.length<=5 by lia]at h
  exact h
 rw[a9 h5];rw[iJ<|show p.length<=5 by lia,Bool.true_and]at h
 rw[cW6 ad]
 dsimp only
 by_cases h1:p.getD (p.length-1) 0=1
 .rw[iJ h1,Bool.true_and]at h;rw[a9 λz=>z h1]
  unfold vI;rw[j6,eU,eP];refine fG (t0:=0) p.length (λk=>(p.map D.int).getD k .non) [some<|.pu<|.tup<|p.map .int] ?_ ad (λx l=>[x,some<|.ow l]) none rfl (λ_ _ _=>rfl) (λ_ _=>cO _) (λ_ _ _ q=>q) (λ_ _ _=>rfl) (λk=> .bl (c58<|p.getD k 0)) ?_ ?_
  .intro Q' q;simp only[iN];left;rw[lp];exact q
  .intro k l Q' hk q;have ek:(p.map D.int).getD k .non= .int (p.getD k 0):=by
    rw[aQ,bS,aQ,aV hk];rfl
   rw[ek]at q⊢;left;exact q
  .have e:((List.range p.length).map λk=>D.bl (c58<|p.getD k 0))=(p.map c58).map D.bl:=by
    rw[jJ];refine lK ae λi h1 h2=> ?_
    simp at h1
    simp[h1]
   rw[e];left;rw[a30];show Q (.pu<|.bl<|(p.map c58).all id);rw[List.all_map];exact h
 .rw[gK h1]at h;rw[aA h1];exact h
def i7:Φ:=λds Q=> ∃p:List Int,ds=[aS p]/\eV p/\Q (.pu .non)
def nB:US:=(iU (cU5<|fO<|aU pJ<|aC (aF 0) aR) (λ_ _=>False) fT)
theorem aI6: ∀ds Q,i7 ds Q->nB {nx:=λ_=>Q (.pu .non),rt:=Q} (init ["r"] ds):=by
 rintro ds Q ⟨p,rfl,hp,h⟩;have hi:=hp.ok.hi;unfold nB;show(iU _ _ _:US) _ [some<|.pu<|aS p];left;refine⟨p,rfl,ad,?_⟩
 rw[(d92 p).mpr hp]
 simpa using h
noncomputable def eE (p:List Int):List (List Int):=(List.range<|p.length-1).map λi=>((fF p<|2*(p.length-1)-2).drop i).take (p.length-1)
def a38:Φ:=λds Q=> ∃p:List Int,ds=[aS p]/\eV p/\Q (.pu<|.int<|gD 4<|eE p)
def a39:US:=(aX (aT2<|aU i7<|aC (aF 0) aR)<|aX (bV 1<|uOp M.gSub (nL<|b7 0)<|uC<|.int 1)<|aX (bV 2<|aU vF<|aC (aF 0)<|aC (uOp M.gSub (uOp fS (uC<|.int 2)<|aF 1)<|uC<|.int 1) aR)<|dQ<|aU (hG 4)<|aC (aU dL<|aC (gG [1] [none,some 2,some 1,none] 3 (kM<|aC (aF 1) aR) (dG 0) (λρ Q=>Q true ρ)<|aU dL<|aC (uSl (b7 1) (pH<|aF 0)<|pH<|uOp iV (aF 0)<|aF 2) aR) aR) aR)
theorem cW7 (hp:b95 p):Sq 4 (eE p):=by
 have hlo:=hp.lo;have hhi:=hp.hi;have bn:=a37 hp (2*(p.length-1)-2) aa
 have nl:=vE p (2*(p.length-1)-2);have hl:(eE p).length=p.length-1:=by unfold eE;simp
 refine⟨aa,aa,λr hr=> ?_,λr hr x hx=> ?_⟩
 .unfold eE at hr;obtain⟨i,hi,rfl⟩:=fB.mp hr;have:=dN.mp hi;rw[hl,a03,uU,nl];omega
 .unfold eE at hr;obtain⟨i,hi,rfl⟩:=fB.mp hr;refine qU (bn x<|List.mem_of_mem_drop<|List.mem_of_mem_take hx) ?_;exact Nat.pow_lt_pow_right ac aa
theorem dO3 (l:List D)(i n:Nat)(h:i+n<=l.length):cutD l (some (i:Int)) (some ((i+n:Nat):Int))=(l.drop i).take n:=by
 unfold cutD;rw[HT.sIx_nat,HT.sIx_nat,o8<|show i<=l.length by lia,o8 h]
 congr 1
 lia
theorem bX5: ∀ds Q,a38 ds Q->a39 {nx:=λ_=>Q (.pu .non),rt:=Q} (init ["p","n","s"] ds):=by
 rintro ds Q ⟨p,rfl,hp,h⟩;have hlo:=hp.ok.lo;have hhi:=hp.ok.hi;have lp:(p.map D.int).length=p.length:=aO _;have en:(p.length:Int)-1=((p.length-1:Nat):Int):=ad
 have nl:=vE p (2*(p.length-1)-2);have fin:(dQ (aU (hG 4)<|aC (aU dL<|aC (gG [1] [none,some 2,some 1,none] 3 (kM<|aC (aF 1) aR) (dG 0) (λρ Q=>Q true ρ)<|aU dL<|aC (uSl (b7 1) (pH<|aF 0)<|pH<|uOp iV (aF 0)<|aF 2) aR) aR) aR):US) {nx:=λ_=>Q (.pu .non),rt:=Q}
   [some<|.pu<|.tup<|p.map .int,some<|.pu<|.int ((p.length-1:Nat):Int),some<|.ow<|(fF p<|2*(p.length-1)-2).map .int]:=by
  rw[j6,eU,eP,eU,eP];refine fG (t0:=0) (p.length-1) (λi=> .int (0+i)) [some<|.pu<|.tup<|p.map .int,some<|.pu<|.int ((p.length-1:Nat):Int),some<|.ow<|(fF p<|2*(p.length-1)-2).map .int] ?_ ad
   (λx l=>[x,some<|.bo<|(fF p<|2*(p.length-1)-2).map .int,some<|.pu<|.int ((p.length-1:Nat):Int),some<|.ow l]) none rfl (λ_ _ _=>rfl) (λ_ _=>cO _) (λ_ _ _ q=>q) (λ_ _ _=>rfl)
   (λi=>aS (((fF p<|2*(p.length-1)-2).drop i).take<|p.length-1)) ?_ ?_
  .intro Q' q;simp only[kM];left;refine⟨ad,?_⟩
   rw[eH];exact q
  .intro i l Q' hi q;left;have e:cutD ((fF p<|2*(p.length-1)-2).map D.int) (some<|0+(i:Int)) (some<|0+(i:Int)+((p.length-1:Nat):Int))=(((fF p<|2*(p.length-1)-2).drop i).take<|p.length-1).map D.int:=by
    rw[bW,show(i:Int)+((p.length-1:Nat):Int)=((i+(p.length-1):Nat):Int)by lia,dO3 _ _ _ (by rw[aO,nl];lia),oC,map_drop]
   rw[e];exact q
  .simp only[dL,g1,B.d,aR,qD];refine⟨eE p,?_,cW7 hp.ok,h⟩;unfold cW5 eE;rw[jJ];rfl
 unfold a39;show(aX _ _:US) _ [some<|.pu<|.tup<|p.map .int,none,none];rw[aZ,d91,eU,eP];simp only[aF,b40,aR,B.d,uJ];refine⟨p,rfl,hp,?_⟩;rw[aZ,sE];simp only[uOp,nL,b7,c31,uC,qD,M.gSub,gI2,B.d,uJ,lp,bA0,b99,en];rw[aZ,sE,eU];simp only[aC,aR,uOp,aF,b40,uC,M.gSub,fS,gI2,B.d,uJ,List.getElem?_cons_succ];refine⟨cmL ac ac,?_⟩
 refine⟨p,2*(p.length-1)-1,?_,hp.ok,ad,ad,?_⟩
 .rw[show(2:Int)*((p.length-1:Nat):Int)-1=((2*(p.length-1)-1:Nat):Int)by lia];rfl
 .rw[show 2*(p.length-1)-1-1=2*(p.length-1)-2 by lia]
  exact fin
noncomputable def one4 (e d c b:Int):Int:=12*e-3*b*d+c*c
noncomputable def two4 (e d c b:Int):Int:=72*c*e+9*b*c*d-27*d*d-27*b*b*e-2*c*c*c
noncomputable def dO4:List Int->Int
 | [c0,c1,_]=>c1*c1-4*c0
 | [d,c,b,_]=>b*b*c*c-4*c*c*c-4*b*b*b*d-27*d*d+18*b*c*d
 | [e,d,c,b,_]=>(4*one4 e d c b*one4 e d c b*one4 e d c b-two4 e d c b*two4 e d c b).fdiv 27
 | _=>0
theorem eV.cases {p:List Int}(h:eV p):(∃a b:Int,p=[a,b,1]/\a.natAbs<=499/\b.natAbs<=499)\/(∃a b c:Int,p=[a,b,c,1]/\a.natAbs<=499/\b.natAbs<=499/\c.natAbs<=499)\/
  ∃a b c d:Int,p=[a,b,c,d,1]/\a.natAbs<=499/\b.natAbs<=499/\c.natAbs<=499/\d.natAbs<=499:=by
 obtain⟨q,rfl⟩:=h.one;have lo:=h.ok.lo;have hi:=h.ok.hi;have sm: ∀x∈q,x.natAbs<=499:=λx hx=>h.ok.small x (uL _ hx)
 rw[bY,aM7]at lo hi
 match q,lo,hi,sm with
 | [a,b],_,_,sm=>exact .inl ⟨a,b,rfl,sm a ae,sm b ae⟩
 | [a,b,c],_,_,sm=>exact .inr (.inl ⟨a,b,c,rfl,sm a ae,sm b ae,sm c ae⟩)
 | [a,b,c,d],_,_,sm=>exact .inr (.inr ⟨a,b,c,d,rfl,sm a ae,sm b ae,sm c ae,sm d ae⟩)
 | [],lo,_,_=>simp at lo
 | [_],lo,_,_=>simp at lo
 | _::_::_::_::_::_,_,hi,_=>simp at hi
noncomputable def cW8 (a b c:Int):Int:=1*a*c+(-1*b*b+0)
noncomputable def dO5 (s t u v w:Int):Int:=1*s*cW8 u v w+(-1*t*(1*t*w+(-1*v*u+0))+(1*u*(1*t*v+(-1*u*u+0))+0))
theorem hk2 (c b:Int):gD 4 (eE [c,b,1])=cW8 2 (-(0+1*b)) (-((b* -(0+1*b)+0)+2*c)):=by kernel_rfl
theorem id2 (c0 c1:Int):gD 4 (eE [c0,c1,1])=c1*c1-4*c0:=by
 rw[hk2];unfold cW8;grind
noncomputable def bX6 (b:Int):Int:= -(0+1*b)
noncomputable def bX7 (c b:Int):Int:= -((b*bX6 b+0)+2*c)
noncomputable def c59 (d c b:Int):Int:= -((b*bX7 c b+(c*bX6 b+0))+3*d)
noncomputable def hkNd (d c b:Int):Int:= -((b*c59 d c b+(c*bX7 c b+(d*bX6 b+0)))+0)
theorem hk3 (d c b:Int):gD 4 (eE [d,c,b,1])=dO5 3 (bX6 b) (bX7 c b) (c59 d c b) (hkNd d c b):=by kernel_rfl
theorem id3 (d c b:Int):gD 4 (eE [d,c,b,1])=b*b*c*c-4*c*c*c-4*b*b*b*d-27*d*d+18*b*c*d:=by
 rw[hk3];unfold dO5 cW8 hkNd c59 bX7 bX6;grind
noncomputable def dO6 (e d c b:Int):Int:= -((b*c59 d c b+(c*bX7 c b+(d*bX6 b+0)))+4*e)
noncomputable def hkMe (e d c b:Int):Int:= -((b*dO6 e d c b+(c*c59 d c b+(d*bX7 c b+(e*bX6 b+0))))+0)
noncomputable def hkMf (e d c b:Int):Int:= -((b*hkMe e d c b+(c*dO6 e d c b+(d*c59 d c b+(e*bX7 c b+0))))+0)
noncomputable def hkD4 (s0 s1 s2 s3 s4 s5 s6:Int):Int:=1*s0*dO5 s2 s3 s4 s5 s6+(-1*s1*(1*s1*cW8 s4 s5 s6+(-1*s3*(1*s2*s6+(-1*s5*s3+0))+(1*s4*(1*s2*s5+(-1*s4*s3+0))+0)))+(1*s2*(1*s1*(1*s3*s6+(-1*s5*s4+0))+(-1*s2*(1*s2*s6+(-1*s5*s3+0))+(1*s4*(1*s2*s4+(-1*s3*s3+0))+0)))+(-1*s3*(1*s1*(1*s3*s5+(-1*s4*s4+0))+(-1*s2*(1*s2*s5+(-1*s4*s3+0))+(1*s3*(1*s2*s4+(-1*s3*s3+0))+0)))+0)))
theorem hk4 (e d c b:Int):gD 4 (eE [e,d,c,b,1])=hkD4 4 (bX6 b) (bX7 c b) (c59 d c b) (dO6 e d c b) (hkMe e d c b) (hkMf e d c b):=by kernel_rfl
theorem id4 (e d c b:Int):27*gD 4 (eE [e,d,c,b,1])=4*(12*e-3*b*d+c*c)*(12*e-3*b*d+c*c)*(12*e-3*b*d+c*c)-(72*c*e+9*b*c*d-27*d*d-27*b*b*e-2*c*c*c)*(72*c*e+9*b*c*d-27*d*d-27*b*b*e-2*c*c*c):=by
 rw[hk4];unfold hkD4 dO5 cW8 hkMf hkMe dO6 c59 bX7 bX6;grind
noncomputable def rts3 (a b c:Int):List Int:=[-(a*b*c),a*b+a*c+b*c,-a-b-c]
noncomputable def sqIn (rs:List Int)(i:Nat)(t:Int):Nat->Int
 | 0=>t
 | j+1=>sqIn rs i t j*(rs.getD i 0-rs.getD j 0)*(rs.getD i 0-rs.getD j 0)
noncomputable def sqK (rs:List Int):Nat->Int
 | 0=>1
 | i+1=>sqIn rs i (sqK rs i) i
noncomputable def okR (q rs:List Int):Bool:=(q.all λx=>decide (x.natAbs<=499))&&decide (dO4 (q++[1])=sqK rs rs.length)
noncomputable def sh3 (a b c s:Int):List Int:=[a+s*b+s*s*c+s*s*s,b+2*s*c+3*s*s,c+3*s]
noncomputable def sh4 (a b c d s:Int):List Int:=[a+s*b+s*s*c+s*s*s*d+s*s*s*s,b+2*s*c+3*s*s*d+4*s*s*s,c+3*s*d+6*s*s,d+4*s]
noncomputable def dO7 (row:List Int)(r:Int):Nat->List Int
 | 0=>0::row
 | k+1=>(dO7 row r k).set k ((dO7 row r k).getD k 0-r*row.getD k 0)
noncomputable def dV1 (rs:List Int):List Int:=rs.foldl (λrow r=>dO7 row r row.length) [1]
theorem fr3 (a b c:Int):dV1 [a,b,c]=rts3 a b c++[1]:=by
 simp[dV1,dO7,rts3]
 grind
noncomputable def b09 (row:List Int)(s:Int):Nat->List Int
 | 0=>row
 | k+1=>(b09 row s k).set (row.length-2-k) ((b09 row s k).getD (row.length-2-k) 0+s*(b09 row s k).getD (row.length-1-k) 0)
noncomputable def shK (p:List Int)(s:Int):Nat->List Int
 | 0=>p
 | low+1=>b09 (shK p s low) s (p.length-1-low)
theorem she3 (a b c s:Int):shK [a,b,c,1] s 3=sh3 a b c s++[1]:=by
 simp[shK,b09,sh3]
 grind
theorem she4 (a b c d s:Int):shK [a,b,c,d,1] s 4=sh4 a b c d s++[1]:=by
 simp[shK,b09,sh4]
 grind
theorem bD4 {t1:Nat}(n:Nat)(i1 i2:Nat->D)(ρ1:Ev)(hui: ∀Q:Nat->(Nat->D)->Ev->Prop,Q n (λi=> .tup [i1 i,i2 i]) ρ1->ui ρ Q)(hn:n<=1000000)
  (G:Option B->Option B->List D->Ev) (x0 y0:Option B) (h0:tP (a94 ρ1 js) cap last=G x0 y0 []) (h1: ∀x y l b c,((G x y l).set t0<|some b).set t1 (some c)=G (some b) (some c) l) (h1': ∀x y l,t0< (G x y l).length/\t1< (G x y l).length)
  (h2: ∀x y l (Q:List D->Prop),Q l->qE (G x y l) last Q) (h3: ∀x y l l',(G x y l).set last (some<|.ow l')=G x y l')
  (f:Nat->D) (hte: ∀i l (Q':B->Ev->Prop),i<n->Q' (.pu<|f i) (G (some<|.pu<|i1 i) (some<|.pu<|i2 i) l)->te (G (some<|.pu<|i1 i) (some<|.pu<|i2 i) l) Q') (hq:Q (.ow<|(List.range n).map f) (a94 ρ1 js)) :
  gG js cap last ui (qC<|eK t0<|eK t1 qB) (λρ Q=>Q true ρ) te ρ Q:=by
 refine hui _ ⟨λi ρ'=> ∃x y,ρ'=G x y ((List.range i).map f),⟨x0,y0,h0⟩,?_,?_⟩
 .rintro i ρ' hi ⟨x,y,rfl⟩;refine⟨(h1' _ _ _).1,by rw[eZ];exact(h1' _ _ _).2,rfl,?_⟩
  rw[h1];dsimp only;rw[aA rfl];refine hte i _ _ hi (h2 _ _ _ _ ⟨?_,some<|.pu<|i1 i,some<|.pu<|i2 i,?_⟩)
  .rw[aO,uQ];exact bG hi (aM hn ac)
  .rw[h3,cB,cJ];rfl
 .rintro ρ' ⟨x,y,rfl⟩;exact h2 _ _ _ _ hq
noncomputable def rwF (n:Nat)(f:Nat->Int):List Int:=(List.range n).map f
theorem aG5 (n:Nat)(f:Nat->Int):(rwF n f).length=n:=by simp[rwF]
theorem aU6 (h:i<n):(rwF n f)[i]? =some (f i):=by simp[rwF,h]
theorem bC (n:Nat)(f:Nat->Int):((rwF n f).map D.int).length=n:=by simp[rwF]
theorem gH (h:i<n):((rwF n f).map D.int)[i]? =some (.int<|f i):=by simp[rwF,h]
theorem nN (h:i<n):((rwF n f).map D.int).getD i .non= .int (f i):=by rw[aQ,gH h];rfl
theorem oM (h:i<n):atI ((rwF n f).map D.int) (i:Int)=some (.int<|f i):=cG (gH h)
theorem aU7 {j:Nat}{v:Int}(h:j<n):((rwF n f).map D.int).set j (.int v)=(rwF n λx=>if x=j then v else f x).map D.int:=by
 apply qY
 intro k
 by_cases hk:k<n
 .rw[gH hk]
  by_cases e:j=k
  .subst e;rw[iM (by rw[bC];exact hk),aA rfl]
  .rw[get_set_ne e,gH hk,a9 λz=>e z.symm]
 .rw[fW (by rw[eZ,bC];omega),fW (by rw[bC];omega)]
theorem kR {g:Nat->Int}(h: ∀i,i<n->f i=g i):rwF n f=rwF n g:=by
 unfold rwF;apply kE;intro i hi;exact h i (dN.mp hi)
theorem bX8 (r:List Int):r=rwF r.length (λj=>r.getD j 0):=by
 apply qY
 intro k
 by_cases hk:k<r.length
 .rw[aU6 hk,aV hk,aQ,aV hk];rfl
 .rw[fW aa,fW (by rw[aG5];omega)]
theorem vJ (n:Nat)(f:Nat->Int):(List.range n).map (λk=>D.int (f k))=(rwF n f).map D.int:=by
 unfold rwF;rw[jJ];rfl
noncomputable def tbF (n m:Nat)(t:Nat->Nat->Int):List D:=(List.range n).map λi=>aS (rwF m<|t i)
theorem j7 (n m:Nat)(t:Nat->Nat->Int):(tbF n m t).length=n:=by simp[tbF]
theorem aG6 {m:Nat}(h:i<n):(tbF n m t)[i]? =some (aS<|rwF m<|t i):=by simp[tbF,h]
theorem bD5 {m:Nat}(h:i<n):atI (tbF n m t) (i:Int)=some (aS<|rwF m<|t i):=cG (aG6 h)
theorem aU8 (n m:Nat)(t:Nat->Nat->Int)(f:Nat->Int):tbF n m t++[aS<|rwF m f]=tbF (n+1) m (λi=>if i=n then f else t i):=by
 unfold tbF;rw[cB,cJ]
 congr 1
 .apply kE
  intro i hi;have:=dN.mp hi;show _=aS (rwF m<|if i=n then f else t i);rw[a9 aa]
 .simp
theorem d93 (h:i<n):ixN n (i:Int)=some i:=by
 unfold ixN;have h2:(i:Int)< (n:Int):=aa
 simp[h,h2]
theorem cI0 (g:D->D->(B->Prop)->Prop)(ta tb:UE)(ρ:Ev)(Q:B->Ev->Prop):uOp g ta tb ρ Q=ta ρ λx ρ1=>tb ρ1 λy ρ2=>g x.d y.d λb=>Q b ρ2:=rfl
theorem dO8 (c:UT)(t u:US)(E:UD)(ρ:Ev):iU c t u E ρ=c ρ λb ρ1=>if b=true then t E ρ1 else u E ρ1:=rfl
theorem cO7 {d:D}(h:ρ[i]? =some (some<|.pu d)):aF i ρ Q=Q (.pu d) ρ:=by unfold aF b40;rw[h]
theorem c60: ∀r:List Int,pdL (r.map D.int)=some (r.map PyData.int)
 | []=>by simp[pdL]
 | a::r=>by simp[pdL,pd,c60 r]
theorem cI1 (r:List Int):pd (aS r)=some (.tuple<|r.map .int):=by simp[aS,pd,c60]
theorem bD6: ∀r:List Int,PyData.depthAll (r.map PyData.int)=0
 | []=>by simp[PyData.depthAll]
 | a::r=>by simp[PyData.depthAll,PyData.depth,bD6 r]
theorem dO9 (r:List Int):(PyData.tuple<|r.map .int).depth<=60:=by simp[PyData.depth,bD6]
theorem cO8 (a b:List Int):(PyData.tuple<|a.map .int).eqv (.tuple<|b.map .int)=decide (a=b):=by simp only[PyData.eqv];exact PySem.W.ked_eqvAll a b
theorem d94 {neg:Bool}{a b:List Int}{Q:B->Prop}(h:Q (.pu<|.bl<|neg ^^ decide (a=b))):bV8 neg (aS a) (aS b) Q:=⟨_,_,cI1 a,cI1 b,dO9 a,by rw[cO8];exact h⟩
noncomputable def gX (f:Nat->Int):Nat->Nat
 | 0=>0
 | n+1=>if f n=0 then gX f n else n+1
theorem a40 (f:Nat->Int): ∀n,gX f n<=n
 | 0=>aG _
 | n+1=>by
  unfold gX;split
  .have:=a40 f n;lia
  .exact aG _
theorem bQ9 (f:Nat->Int): ∀n,gX f n=0\/f (gX f n-1)≠0
 | 0=> .inl rfl
 | n+1=>by
  unfold gX;split
  .exact bQ9 f n
  .rename_i h
   exact .inr (by simpa using h)
theorem bR0 (f:Nat->Int): ∀n m,gX f n<=m->m<n->f m=0
 | n+1,m,h1,h2=>by
  unfold gX at h1;split at h1
  .rename_i h
   by_cases e:m=n
   .rw[e];exact h
   .exact bR0 f n m h1 ad
  .lia
theorem tZ {f:Nat->Int}{k:Nat}: ∀{n:Nat},k<=n->(∀m,k<=m->m<n->f m=0)->(k=0\/f (k-1)≠0)->gX f n=k
 | 0,h,_,_=>by have:k=0:=ad
               rw[this];rfl
 | n+1,h,hz,hl=>by
  unfold gX
  by_cases e:k=n+1
  .subst e;rw[a9];rcases hl with h0|h0
   .lia
   .simpa using h0
  .rw[aA<|hz n ad ad]
   exact tZ ad (λm h1 h2=>hz m h1 ad) hl
theorem bD7 {f g:Nat->Int}: ∀{n:Nat},(∀m,m<n->f m=g m)->gX f n=gX g n
 | 0,_=>rfl
 | n+1,h=>by
  unfold gX;rw[h n<|qZ n,bD7 λm hm=>h m (lJ hm)]
theorem c61 (n k:Nat)(f:Nat->Int)(h:k<=n):(rwF n f).take k=rwF k f:=by
 unfold rwF;rw[<-oC,List.take_range,o8 h]
def aA4:Φ:=λds Q=> ∃(n:Nat) (f:Nat->Int),ds=[aS<|rwF n f]/\n<=1000/\Q (.pu<|aS<|rwF (gX f n) f)
def bD8:US:=(aX (bV 1<|nL<|b7 0)<|aX (aZ5 (cU4 (fO<|uOp (yP λi j=>decide (j<i)) (aF 1)<|uC<|.int 0)<|fO<|uOp (lQ false) (uIx (b7 0)<|uOp M.gSub (aF 1)<|uC<|.int 1)<|uC<|.int 0)<|c34 1 (gI2 λi j Q=>Q (.pu<|.int<|i-j))<|uC<|.int 1)<|dQ<|c44 (aF 0) mQ<|pH<|aF 1)
theorem d95: ∀ds Q,aA4 ds Q->bD8 {nx:=λ_=>Q (.pu .non),rt:=Q} (init ["r","s"] ds):=by
 rintro ds Q ⟨n,f,rfl,hn,h⟩;unfold bD8;simp only[aS];show(aX _ _:US) _ [some<|.pu<|.tup<|(rwF n f).map .int,none];rw[aZ];left;rw[bC];refine⟨λm ρ=>ρ=[some<|.pu<|.tup<|(rwF n f).map .int,some<|.pu<|.int (m:Int)]/\m<=n/\gX f m=gX f n,⟨n,rfl,aG _,rfl⟩,?_⟩
 rintro m ρ ⟨rfl,hm,hc⟩;left;have fin:gX f m=m->Q (.pu<|.tup<|cutD ((rwF n f).map D.int) none<|some (m:Int)):=λe=>by
  rw[cH7 _ _ (by rw[bC];exact hm),<-oC,c61 _ _ _ hm]
  rw[<-hc,e]at h;exact h
 split
 .rename_i h0
  obtain⟨m',rfl⟩: ∃m',m=m'+1:=⟨m-1,ad⟩
  rw[show((m'+1:Nat):Int)-1=(m':Int)by lia,oM<|show m'<n by lia]
  dsimp only;split
  .rename_i h1
   refine⟨m',ad,?_,ad,?_⟩
   .simp
   .rw[<-hc];show _=if f m'=0 then gX f m' else m'+1;rw[aA h1]
  .rename_i h1
   refine fin ?_
   show(if f m'=0 then gX f m' else m'+1)=m'+1
   rw[a9 h1]
 .have:m=0:=ad
  subst this;exact fin rfl
noncomputable def shF (b:Nat->Int)(n m:Nat):Int:=if n<=m then b (m-n)else 0
noncomputable def divS (b:Nat->Int)(d n:Nat)(f:Nat->Int):Nat->Int:=λm=>f m-f (n+d)*shF b n m
noncomputable def divL (b:Nat->Int)(d:Nat):Nat->(Nat->Int)->Nat->Int
 | 0,f=>f
 | n+1,f=>divL b d n (divS b d n f)
noncomputable def divQ (b:Nat->Int)(d:Nat):Nat->(Nat->Int)->Nat->Int
 | 0,_=>λ_=>0
 | n+1,f=>λx=>if x=n then f (n+d)else divQ b d n (divS b d n f) x
structure d96 (L d a e:Nat)(f b:Nat->Int):Prop where
 L9:L<=100
 d9:d<=100
 one:b d=1
 beyond: ∀j,d<j->b j=0
 fb: ∀m,m<L->(f m).natAbs<=2^a
 bb: ∀j,(b j).natAbs<=2^e
 room:a+(e+1)*L<8000
 e8:e<8000
theorem cI2 {b:Nat->Int}{d a L:Nat}(hn:n+d<L)(hf: ∀m,m<L->(f m).natAbs<=2^a)(hb: ∀j,(b j).natAbs<=2^e): ∀m,m<L->(divS b d n f m).natAbs<=2^(a+(e+1)):=by
 intro m hm;unfold divS;have h1:=hf m hm;have h2:=hf (n+d) hn;have h3:(shF b n m).natAbs<=2^e:=by
  unfold shF;split
  .exact hb _
  .simp
 have h4:(f (n+d)*shF b n m).natAbs<=2^a*2^e:=by rw[dW];exact i4 h2 h3
 have h5:=a02 (f m) (f (n+d)*shF b n m);have e1:2^(a+(e+1))=2^a*2^e+2^a*2^e:=by rw[<-oE,a18,i5];lia
 have h6:2^a<=2^a*2^e:=Nat.le_mul_of_pos_right _ (Nat.pow_pos ac)
 lia
theorem bR1 (k:Nat):(replicate k [D.int 0]).flatten=(rwF k λ_=>0).map .int:=by
 rw[aU1]
 congr 1
 apply lK<;>simp[rwF]
def gT:Φ:=λds Q=> ∃(L d a e:Nat) (f b:Nat->Int),ds=[aS<|rwF L f,aS<|rwF (d+1) b]/\d96 L d a e f b/\
 Q (.pu<|.tup [aS<|rwF (gX (divQ b d (L-d) f)<|L-d)<|divQ b d (L-d) f,aS<|rwF (gX (divL b d (L-d) f) L)<|divL b d (L-d) f])
def wL:US:=(dQ<|iT<|aC (aU aA4<|aC (aU dL<|aC (aF 5) aR) aR)<|aC (aU aA4<|aC (aU dL<|aC (aF 4) aR) aR) aR)
def wM:US:=(aX (nA (c46<|aC (aF 3) aR) (dG 6)<|aX (bV 7<|uIx (b7 4)<|uOp iV (aF 6)<|aF 2)<|aX (b42 5 (aF 7)<|aF 6)<|nA (cN8<|aC (aF 1) aR) (qC<|eK 8<|eK 9 qB)<|d55 4 (λi j=>i-j) (uOp iV (aF 6)<|aF 8)<|uOp fS (aF 7)<|aF 9) wL)
def rM:US:=(aX (bV 2<|uOp M.gSub (nL<|b7 1)<|uC<|.int 1)<|aX (bV 3<|aU gMax<|aC (uC<|.int 0)<|aC (uOp M.gSub (nL<|b7 0)<|aF 2) aR)<|aX (bV 4<|aU aG0<|aC (aF 0) aR)<|aX (bV 5<|uOp fS (n6<|aC (uC<|.int 0) aR)<|aF 3) wM)
theorem b10: ∀ds Q,gT ds Q->rM {nx:=λ_=>Q (.pu .non),rt:=Q} (init ["f","g","d","s","l","q","a","m","j","c"] ds):=by
 rintro ds Q ⟨L,d,a,e,f,b,rfl,ok,h⟩;have L9:=ok.L9;have d9:=ok.d9;have room:=ok.room;unfold rM;simp only[aS]at h⊢;show(aX _ _:US) _ [some<|.pu<|.tup<|(rwF L f).map .int,some<|.pu<|.tup<|(rwF (d+1) b).map .int,none,none,none,none,none,none,none,none];left;rw[bC,bC];obtain⟨N,hN⟩: ∃N:Nat,N=L-d:=⟨_,rfl⟩;have e1:((d+1:Nat):Int)-1=(d:Int):=ad
 have e2:(if(L:Int)-(d:Int)>0 then(L:Int)-(d:Int)else 0)=(N:Int):=by split<;>lia
 rw[e1,e2,eH,bR1];refine⟨ac,⟨ad,ad,aM (show 1*N<=100 by lia) ac⟩,?_⟩
 unfold wM;rw[aZ];rw[<-hN]at h;refine cF N (λk=> .int (((N:Int))-1-k)) [some<|.pu<|.tup<|(rwF L f).map .int,some<|.pu<|.tup<|(rwF (d+1) b).map .int,some<|.pu<|.int (d:Int),some<|.pu<|.int (N:Int),some<|.ow<|(rwF L f).map .int,some<|.ow<|(rwF N λ_=>0).map .int,none,none,none,none] ?_
  (λk ρ=> ∃g q z6 z7 z8 z9,ρ=[some<|.pu<|.tup<|(rwF L f).map .int,some<|.pu<|.tup<|(rwF (d+1) b).map .int,some<|.pu<|.int (d:Int),some<|.pu<|.int (N:Int),some<|.ow<|(rwF L g).map .int,some<|.ow<|(rwF N q).map .int,z6,z7,z8,z9]/\
   divL b d (N-k) g=divL b d N f/\(∀x,x<N->divQ b d N f x=if x<N-k then divQ b d (N-k) g x else q x)/\ ∀m,m<L->(g m).natAbs<=2^(a+(e+1)*k))
  ⟨f,λ_=>0,none,none,none,none,rfl,rfl,λx hx=>by rw[uZ,aA hx],λm hm=>by simpa using ok.fb m hm⟩ ?_ ?_
 .intro Q' q;left;refine⟨⟨ad,ad⟩,?_⟩
  rw[eH];exact q
 .rintro k ρ hk ⟨g,q,z6,z7,z8,z9,rfl,hL,hQ,hb⟩;obtain⟨i,hi⟩: ∃i:Nat,i=N-1-k:=⟨_,rfl⟩;have ei:(N:Int)-1-(k:Int)=(i:Int):=ad
  have hiN:i<N:=ad
  have hid:i+d<L:=ad
  rw[ei];have c1:(i:Int)+(d:Int)=((i+d:Nat):Int):=ad
  left
  rw[c1,oM hid];dsimp only;rw[bC,d93 hiN];dsimp only;rw[aU7 hiN];refine⟨ae,?_⟩
  have smg:Sm (g<|i+d):=Sm.pow (hb _ hid) (by
   have:(e+1)*k<=(e+1)*L:=uO _ ad
   lia)
  refine cF (d+1) (λj=> .tup [.int (j:Int),((rwF (d+1) b).map D.int).getD j .non]) [some<|.pu<|.tup<|(rwF L f).map .int,some<|.pu<|.tup<|(rwF (d+1) b).map .int,some<|.pu<|.int (d:Int),some<|.pu<|.int (N:Int),some<|.ow<|(rwF L g).map .int,some<|.ow<|(rwF N λx=>if x=i then g (i+d)else q x).map .int,some<|.pu<|.int (i:Int),some<|.pu<|.int<|g<|i+d,z8,z9] ?_
   (λj ρ=> ∃z8 z9,ρ=[some<|.pu<|.tup<|(rwF L f).map .int,some<|.pu<|.tup<|(rwF (d+1) b).map .int,some<|.pu<|.int (d:Int),some<|.pu<|.int (N:Int),some<|.ow<|(rwF L λm=>if m<i+j then divS b d i g m else g m).map .int,some<|.ow<|(rwF N λx=>if x=i then g (i+d)else q x).map .int,some<|.pu<|.int (i:Int),some<|.pu<|.int<|g<|i+d,z8,z9]) ⟨z8,z9,?_⟩ ?_ ?_
  .intro Q' qq;left;rw[bC];exact qq
  .have:(rwF L λm=>if m<i+0 then divS b d i g m else g m)=rwF L g:=by
    apply kR
    intro m hm
    by_cases c:m<i+0
    .rw[aA c];unfold divS shF;rw[a9 ad]
     lia
    .rw[a9 c]
   rw[this]
  .rintro j ρ hj ⟨z8,z9,rfl⟩;rw[nN hj];have hij:i+j<L:=ad
   have c2:(i:Int)+(j:Int)=((i+j:Nat):Int):=ad
   simp only[d55];left;rw[c2,bC];refine⟨ae,ae,trivial,_,i+j,g<|i+j,rfl,d93 hij,by rw[gH hij,a9 ad],.inr ⟨smg,Sm.pow (ok.bb j) (by have:=ok.e8;lia)⟩,_,rfl,some<|.pu<|.int (j:Int),some<|.pu<|.int<|b j,?_⟩
   rw[aU7 hij];have:(rwF L λx=>if x=i+j then g (i+j)-g (i+d)*b j else if x<i+j then divS b d i g x else g x)=rwF L λm=>if m<i+(j+1)then divS b d i g m else g m:=by
    apply kR
    intro m hm
    by_cases c:m=i+j
    .subst c;rw[aA rfl,aA ad]
     unfold divS shF;rw[aA ad,show i+j-i=j by lia]
    .rw[a9 c]
     by_cases c3:m<i+j
     .rw[aA c3,aA ad]
     .rw[a9 c3,a9 ad]
   rw[this]
  .rintro ρ ⟨z8,z9,rfl⟩;have eg:(rwF L λm=>if m<i+(d+1)then divS b d i g m else g m)=rwF L (divS b d i g):=by
    apply kR
    intro m hm
    by_cases c:m<i+(d+1)
    .rw[aA c]
    .rw[a9 c];unfold divS shF;rw[aA ad,ok.beyond _ ad]
     lia
   rw[eg];have en:N-k=i+1:=ad
   have en2:N-(k+1)=i:=ad
   rw[en]at hL hQ;refine⟨_,_,_,_,_,_,rfl,by rw[en2];exact hL,λx hx=> ?_,?_⟩
   .rw[en2,hQ x hx]
    by_cases c:x<i
    .rw[aA c,aA ad]
     show(if x=i then _ else divQ b d i (divS b d i g) x)=_
     rw[a9 ad]
    .rw[a9 c]
     by_cases c2:x=i
     .subst c2;rw[aA ad,aA rfl]
      show(if x=x then _ else _)=_
      rw[aA rfl]
     .rw[a9 ad,a9 c2]
   .have:=cI2 hid hb ok.bb;rw[show a+(e+1)*(k+1)=a+(e+1)*k+(e+1)by rw[a19];lia]
    exact this
 .rintro ρ ⟨g,q,z6,z7,z8,z9,rfl,hL,hQ,hb⟩;dsimp only;unfold wL;rw[rD]at hL hQ;have hg:g=divL b d N f:=hL;have hq: ∀x,x<N->divQ b d N f x=q x:=λx hx=>by rw[hQ x hx,a9 ad]
  left
  refine⟨N,q,rfl,ad,?_⟩
  refine⟨L,g,rfl,ad,?_⟩
  left
  refine⟨ac,?_⟩
  have e3:gX (divQ b d N f) N=gX q N:=bD7 λm hm=>hq m hm
  have e4:rwF (gX q N) (divQ b d N f)=rwF (gX q N) q:=kR λm hm=>hq m (by have:=a40 q N;lia)
  rw[e3,e4,<-hg]at h;exact h
noncomputable def conv (u b:Nat->Int):Nat->Nat->Int
 | 0,_=>0
 | n+1,m=>conv u b n m+u n*shF b n m
theorem oX {u b:Nat->Int}{d:Nat}(hb: ∀j,d<j->b j=0): ∀(n m:Nat),n+d<=m->conv u b n m=0
 | 0,m,_=>rfl
 | n+1,m,h=>by
  show conv u b n m+u n*shF b n m=0
  rw[oX hb n m ad]
  unfold shF;rw[aA ad,hb _ ad]
  lia
theorem bD9 {u b low:Nat->Int}{d:Nat}(h1:b d=1)(hb: ∀j,d<j->b j=0)(hl: ∀m,d<=m->low m=0): ∀(n:Nat),divL b d n (λm=>conv u b n m+low m)=low/\ ∀x,x<n->divQ b d n (λm=>conv u b n m+low m) x=u x
 | 0=>⟨by funext m;show 0+low m=low m;lia,λx hx=>ad⟩
 | n+1=>by
  have top:conv u b (n+1) (n+d)+low (n+d)=u n:=by
   show conv u b n (n+d)+u n*shF b n (n+d)+low (n+d)=u n
   rw[oX hb n _<|aG _,hl _ ad]
   unfold shF;rw[aA ad,show n+d-n=d by lia,h1]
   lia
  have st:divS b d n (λm=>conv u b (n+1) m+low m)=λm=>conv u b n m+low m:=by
   funext m
   show(conv u b (n+1) m+low m)-(conv u b (n+1) (n+d)+low (n+d))*shF b n m=_
   rw[top];show conv u b n m+u n*shF b n m+low m-u n*shF b n m=_
   lia
  obtain⟨i1,i2⟩:=bD9 (u:=u) h1 hb hl n;refine⟨?_,λx hx=> ?_⟩
  .show divL b d n (divS b d n _)=low
   rw[st];exact i1
  .show(if x=n then _ else divQ b d n (divS b d n _) x)=u x
   rw[st]
   by_cases c:x=n
   .rw[aA c,c];exact top
   .rw[a9 c];exact i2 x ad
theorem b47 (h:0<n):atI ((rwF n f).map D.int) (-1)=some (.int<|f<|n-1):=by
 unfold L2.atI;have e:ixN ((rwF n f).map D.int).length (-1)=some (n-1):=by
  unfold ixN;rw[bC,a9 ac,aA ad]
  congr 1
  lia
 rw[e];exact gH ad
theorem cI3 (hf: ∀m,n<=m->f m=0): ∀m,gX f n<=m->f m=0:=λm hm=>by
 by_cases c:m<n
 .exact bR0 f n m hm c
 .exact hf m ad
noncomputable def md (p:Int)(f:Nat->Int):Nat->Int:=λj=>f j%p
noncomputable def bL0 (c p:Int):Nat->Int
 | 0=>1
 | n+1=>bL0 c p n*c%p
theorem bE0 {c p:Int}(hp:2<=p): ∀n,0<=bL0 c p n/\bL0 c p n<p
 | 0=>⟨by show(0:Int)<=1;lia,by show(1:Int)<p;lia⟩
 | n+1=>⟨cA _ ad,bZ _ ad⟩
structure Pr (p:Int):Prop where
 lo:2<=p
 hi:p<200
 inv: ∀c:Int,0<c->c<p->bL0 c p (p.toNat-2)*c%p=1
def Cg (p:Int)(f g:Nat->Int):Prop:= ∀m,f m%p=g m%p
theorem Cg.divS {p:Int}{b f g:Nat->Int}{d n:Nat}(h:Cg p f g):Cg p (divS b d n f) (divS b d n g):=λm=>by
 show(f m-f (n+d)*shF b n m)%p=(g m-g (n+d)*shF b n m)%p
 have h1:=h m;have h2:f (n+d)*shF b n m%p=g (n+d)*shF b n m%p:=by rw[gO,h<|n+d,<-gO]
 rw[a20,h1,h2,<-a20]
theorem Cg.divL {p:Int}{b:Nat->Int}{d:Nat}: ∀(n:Nat) {f g:Nat->Int},Cg p f g->Cg p (divL b d n f) (divL b d n g)
 | 0,_,_,h=>h
 | n+1,_,_,h=>Cg.divL n h.divS
theorem Cg.divQ {p:Int}{b:Nat->Int}{d:Nat}: ∀(n:Nat) {f g:Nat->Int},Cg p f g->Cg p (divQ b d n f) (divQ b d n g)
 | 0,_,_,h=>λ_=>rfl
 | n+1,f,g,h=>λx=>by
  show(if x=n then f (n+d)else M.divQ b d n (M.divS b d n f) x)%p=(if x=n then g (n+d)else M.divQ b d n (M.divS b d n g) x)%p
  by_cases c:x=n
  .rw[aA c,aA c];exact h _
  .rw[a9 c,a9 c];exact Cg.divQ n h.divS x
theorem b48 {b:Nat->Int}{d:Nat}: ∀(n:Nat) (f:Nat->Int) (x:Nat),n<=x->divQ b d n f x=0
 | 0,_,_,_=>rfl
 | n+1,f,x,h=>by
  show(if x=n then f (n+d)else divQ b d n (divS b d n f) x)=0
  rw[a9 ad]
  exact b48 n _ x ad
theorem aU9 {p:Int}{u u' b b':Nat->Int}(h: ∀i j,u' i*b' j%p=u i*b j%p): ∀n,Cg p (conv u' b' n) (conv u b n)
 | 0,_=>rfl
 | n+1,m=>by
  show(conv u' b' n m+u' n*shF b' n m)%p=(conv u b n m+u n*shF b n m)%p
  have h1:=aU9 h n m;have h2:u' n*shF b' n m%p=u n*shF b n m%p:=by
   unfold shF
   by_cases c:n<=m
   .rw[aA c,aA c];exact h _ _
   .rw[a9 c,a9 c,b6,b6]
  rw[iL,h1,h2,<-iL]
theorem bE1 {b:Nat->Int}{d:Nat}(hb: ∀j,d<j->b j=0):conv u b (U+1) (U+d)=u U*b d:=by
 show conv u b U (U+d)+u U*shF b U (U+d)=_
 rw[oX hb U _<|aG _];unfold shF;rw[aA ad,show U+d-U=d by lia]
 lia
theorem d97 {p t:Int}{B0 low A:Nat->Int}{d:Nat}(hp:2<=p)(hB: ∀j,d<j->B0 j=0)(hU:U=0\/u (U-1)≠0)(uR: ∀j,0<=u j/\u j<p)(uz: ∀j,U<=j->u j=0)(lz: ∀j,d<=j->low j=0)(lR: ∀j,0<=low j/\low j<p)
  (ht:t*B0 d%p=1) (hA: ∀m,A m=(conv u B0 U m+low m)%p) (hn:U+d<=n) :
  let b:=λj=>t*B0 j%p
  let LA:=gX A n
  LA<=U+d/\(∀j,t*divQ b d (LA-d) A j%p=u j)/\(∀j,divL b d (LA-d) A j%p=low j)/\(∀m,LA<=m->divL b d (LA-d) A m%p=0):=by
 intro b LA;have b1:b d=1:=ht;have bz: ∀j,d<j->b j=0:=λj hj=>by
  show t*B0 j%p=0
  rw[hB j hj,b6,dX]
 have tc: ∀x:Int,t*(B0 d*x)%p=x%p:=λx=>by
  rw[<-gM,gO,ht,jM,jH]
 have cg:Cg p A (λm=>conv (λi=>B0 d*u i) b U m+low m):=λm=>by
  rw[hA m,jH];have:=aU9 (p:=p) (u:=u) (b:=B0) (u':=λi=>B0 d*u i) (b':=b) (λi j=>by
   show B0 d*u i*(t*B0 j%p)%p=u i*B0 j%p
   rw[gO,jH,<-gO];have e:B0 d*u i*(t*B0 j)=t*(B0 d*(u i*B0 j)):=by
    simp only[dZ,Int.mul_left_comm,gM]
   rw[e,tc]) U m
  show(conv u B0 U m+low m)%p=(conv (λi=>B0 d*u i) b U m+low m)%p
  rw[iL,<-this,<-iL]
 obtain⟨e1,e2⟩:=bD9 (u:=λi=>B0 d*u i) (low:=low) b1 bz lz U
 have Az: ∀m,U+d<=m->A m=0:=λm hm=>by
  rw[hA m,oX hB U m hm,lz m ad]
  exact dX _
 have hL:(U=0/\LA<=d)\/(0<U/\LA=U+d):=by
  have hle:LA<=U+d:=by
   rcases bQ9 A n with h|h
   .show gX A n<=U+d
    lia
   .exact zN λq=>h (Az _ (by show U+d<=LA-1;lia))
  by_cases c:U=0
  .exact .inl ⟨c,ad⟩
  .refine .inr ⟨ad,?_⟩
   refine tZ hn (λm m1 m2=>Az m m1) (.inr λq=> ?_)
   obtain⟨U',rfl⟩: ∃U',U=U'+1:=⟨U-1,ad⟩
   rw[show U'+1+d-1=U'+d by lia,hA,bE1 hB,lz _ ad,dY]at q
   have h1:=tc (u U');rw[gO,show B0 d*u U'=u U'*B0 d from dZ _ _,q,b6,dX,eX (uR _).1 (uR _).2]at h1
   rcases hU with h|h
   .lia
   .exact h (by simpa using h1.symm)
 have hN:LA-d=U:=ad
 have r: ∀j,divL b d U A j%p=low j:=λj=>by
  rw[Cg.divL U cg j,e1,eX (lR j).1 (lR j).2]
 refine⟨ad,λj=> ?_,λj=>by rw[hN];exact r j,λm hm=> ?_⟩
 .rw[hN]
  by_cases c:j<U
  .have h1:=Cg.divQ (b:=b) (d:=d) U cg j;rw[e2 j c]at h1;rw[gO,h1,<-gO];show t*(B0 d*u j)%p=u j;rw[tc,eX (uR _).1 (uR _).2]
  .rw[b48 U A j ad,uz j ad,b6,dX]
 .rw[hN];rcases hL with⟨h1,h2⟩| ⟨h1,h2⟩
  .subst h1;show A m%p=0;rw[cI3 (λm hm=>Az m ad) m hm]
   exact dX _
  .rw[r m];exact lz m ad
def jO:Φ:=λds Q=> ∃(n:Nat) (f:Nat->Int) (p:Int),ds=[aS<|rwF n f,.int p]/\n<=1000/\0<p/\Q (.pu<|aS<|rwF (gX (md p f) n)<|md p f)
def xE:US:=(dQ<|aU aA4<|aC (aU dL<|aC (gG [1] [none,some 1,none] 2 (iN<|aF 0) (dG 0) (λρ Q=>Q true ρ)<|uOp pX (aF 0)<|aF 1) aR) aR)
theorem dP0 (Q:B->Ev->Prop)(n:Nat)(f:Nat->Int)(p:Int)(hn:n<=1000)(hp:0<p)(k:Nat->D)(iW:Ev)(x0:D)(hx:x0=aS (rwF n f)\/x0= .lst ((rwF n f).map .int))(h:Q (.ow<|(rwF n<|md p f).map .int) (some (.pu x0)::some (.pu<|.int p)::iW)) :
  (gG [1] [none,some 1,none] 2 (iN<|aF 0) (dG 0) (λρ Q=>Q true ρ) (uOp pX (aF 0)<|aF 1):UE) (some (.pu x0)::some (.pu<|.int p)::iW) Q:=by
 refine fG (t0:=0) n (λk=>((rwF n f).map D.int).getD k .non) (some (.pu x0)::some (.pu<|.int p)::iW) ?_ ad (λx l=>[x,some<|.pu<|.int p,some<|.ow l]) none rfl (λ_ _ _=>rfl) (λ_ _=>cO _) (λ_ _ _ q=>q) (λ_ _ _=>rfl) (λk=> .int (md p f k)) ?_ ?_
 .intro Q' q;rcases hx with rfl|rfl
  .simp only[aS]at q⊢;left;rw[bC];exact q
  .left
   rw[bC];exact q
 .intro k l Q' hk q;rw[nN hk]at q⊢;left;refine⟨ad,?_⟩
  rw[eO _ hp];exact q
 .rw[vJ];exact h
theorem bL1: ∀ds Q,jO ds Q->xE {nx:=λ_=>Q (.pu .non),rt:=Q} (init ["r","p"] ds):=by
 rintro ds Q ⟨n,f,p,rfl,hn,hp,h⟩;unfold xE;show(dQ _:US) _ [some<|.pu<|aS<|rwF n f,some<|.pu<|.int p];rw[j6,eU,eP,eU,eP];refine dP0 _ n f p hn hp (λ_=> .non) [] _ (.inl rfl) ?_
 left
 exact⟨n,md p f,rfl,hn,h⟩
theorem aV0 {u b:Nat->Int}{U:Nat}: ∀n,(∀j,U<=j->j<n->u j=0)->U<=n-> ∀m,conv u b n m=conv u b U m
 | 0,h,h2,m=>by rw[show U=0 by lia]
 | n+1,h,h2,m=>by
  by_cases c:U=n+1
  .rw[c]
  .show conv u b n m+u n*shF b n m=_
   rw[h n ad ad,aV0 n (λj a c=>h j a ad) ad m]
   lia
theorem md_nat {p:Int}(h1:2<=p)(h2:p<200)(f:Nat->Int)(j:Nat):(md p f j).natAbs<=2^8:=by
 unfold md;have a1:=cA (f j) (show p≠0 by lia)
 have a2:=bZ (f j) (show 0<p by lia)
 show _<=256
 lia
def wN:Φ:=λds Q=> ∃(n:Nat) (f:Nat->Int) (k p:Int),ds=[aS<|rwF n f,.int k,.int p]/\n<=1000/\0<=k/\k<200/\0<p/\Q (.pu<|aS<|rwF (gX (λj=>k*f j%p) n) λj=>k*f j%p)
def aA5:US:=(dQ<|aU jO<|aC (aU dL<|aC (gG [1] [none,some 1,none] 2 (iN<|aF 0) (dG 0) (λρ Q=>Q true ρ)<|uOp fS (aF 1)<|aF 0) aR)<|aC (aF 2) aR)
theorem c62: ∀ds Q,wN ds Q->aA5 {nx:=λ_=>Q (.pu .non),rt:=Q} (init ["f","k","p"] ds):=by
 rintro ds Q ⟨n,f,k,p,rfl,hn,k0,k9,hp,h⟩;unfold aA5;show(dQ _:US) _ [some<|.pu<|aS<|rwF n f,some<|.pu<|.int k,some<|.pu<|.int p];rw[j6,eU,eP,eU,eP]
 refine fG (t0:=0) n (λi=>((rwF n f).map D.int).getD i .non) [some<|.pu<|aS<|rwF n f,some<|.pu<|.int k,some<|.pu<|.int p] ?_ ad (λx l=>[x,some<|.pu<|.int k,some<|.ow l]) none rfl (λ_ _ _=>rfl) (λ_ _=>cO _) (λ_ _ _ q=>q) (λ_ _ _=>rfl) (λi=> .int (k*f i)) ?_ ?_
 .intro Q' q;simp only[aS]at q⊢;left;rw[bC];exact q
 .intro i l Q' hk q;rw[nN hk]at q⊢;left;exact⟨cmL ad ad,q⟩
 .rw[vJ];left;exact⟨n,λi=>k*f i,p,rfl,hn,hp,h⟩
def sY:Φ:=λds Q=> ∃c p:Int,ds=[.int c,.int p]/\0<=c/\c<p/\2<=p/\p<200/\Q (.pu<|.int<|bL0 c p<|p.toNat-2)
def sZ:US:=(aX (bV 2<|uC<|.int 1)<|aX (nA (kM<|aC (uOp M.gSub (aF 1)<|uC<|.int 2) aR) (dG 3)<|bV 2<|uOp pX (uOp fS (aF 2)<|aF 0)<|aF 1)<|sJ 2)
theorem b67: ∀ds Q,sY ds Q->sZ {nx:=λ_=>Q (.pu .non),rt:=Q} (init ["c","p","v","s"] ds):=by
 rintro ds Q ⟨c,p,rfl,c0,c1,p2,p9,h⟩;unfold sZ;show(aX _ _:US) _ [some<|.pu<|.int c,some<|.pu<|.int p,none,none];left;refine cF (p.toNat-2) (λk=> .int (0+k)) [some<|.pu<|.int c,some<|.pu<|.int p,some<|.pu<|.int 1,none] ?_
  (λk ρ=> ∃z,ρ=[some<|.pu<|.int c,some<|.pu<|.int p,some<|.pu<|.int<|bL0 c p k,z]) ⟨none,rfl⟩ ?_ ?_
 .intro Q' q;left;refine⟨⟨ad,ad⟩,?_⟩
  rw[show(p-2).toNat=p.toNat-2 by lia]
  exact q
 .rintro k ρ hk ⟨z,rfl⟩;have:=bE0 (c:=c) p2 k;left;refine⟨ae,cmL ad ad,ad,some<|.pu<|.int<|0+(k:Int),?_⟩
  rw[eO _ ad]
  rfl
 .rintro ρ ⟨z,rfl⟩;left;exact h
def t7:Φ:=λds Q=> ∃(n k d:Nat) (f g:Nat->Int) (p:Int),ds=[aS<|rwF n f,aS<|rwF k g,.int p]/\n<=50/\k<=50/\Pr p/\(∀j,k<=j->g j=0)/\d<k/\(∀j,d<j->md p g j=0)/\md p g d≠0/\
 ∀t,t*md p g d%p=1->0<=t->t<p->
  let b:=λj=>t*md p g j%p
  let LA:=gX (md p f) n
  let q:=divQ b d (LA-d) (md p f)
  let r:=divL b d (LA-d) (md p f)
  Q (.pu<|.tup [aS<|rwF (gX (λj=>t*q j%p)<|gX q<|LA-d) λj=>t*q j%p,aS<|rwF (gX (md p r)<|gX r LA)<|md p r])
def yT:US:=(dQ<|iT<|aC (aU wN<|aC (aF 5)<|aC (aF 4)<|aC (aF 2) aR)<|aC (aU jO<|aC (aF 6)<|aC (aF 2) aR) aR)
def rN:US:=(aX (cF2 (aU gT<|aC (aU jO<|aC (aF 0)<|aC (aF 2) aR)<|aC (aU wN<|aC (aF 3)<|aC (aF 4)<|aC (aF 2) aR) aR)<|qC<|eK 5<|eK 6 qB) yT)
def t9:US:=(aX (bV 3<|aU jO<|aC (aF 1)<|aC (aF 2) aR)<|aX (bV 4<|aU sY<|aC (uIx (b7 3)<|sK<|uC<|.int 1)<|aC (aF 2) aR) rN)
theorem b68: ∀ds Q,t7 ds Q->t9 {nx:=λ_=>Q (.pu .non),rt:=Q} (init ["a","b","p","l","t","q","r"] ds):=by
 rintro ds Q ⟨n,k,d,f,g,p,rfl,hn,hk,pp,gz,dk,dz,d0,h⟩;have p2:=pp.lo;have p9:=pp.hi;unfold t9;show(aX _ _:US) _ [some<|.pu<|aS<|rwF n f,some<|.pu<|aS<|rwF k g,some<|.pu<|.int p,none,none,none,none];have ed:gX (md p g) k=d+1:=tZ ad (λm m1 m2=>dz m ad) (.inr<|by simpa using d0)
 have c1:=cA (g d) (show p≠0 by lia)
 have c2:=bZ (g d) (show 0<p by lia)
 have c3:0<md p g d:=by
  have:md p g d=g d%p:=rfl
  lia
 have tR:=bE0 (c:=md p g d) p2 (p.toNat-2);have ht:=pp.inv _ c3 c2;generalize et:bL0 (md p g d) p (p.toNat-2)=t at tR ht;have bA: ∀j,0<=t*md p g j%p/\t*md p g j%p<p:=λj=>⟨cA _ ad,bZ _ ad⟩
 have hc:gX (λj=>t*md p g j%p) (d+1)=d+1:=tZ (aG _) (λm a b=>ad) (.inr (by
  show t*md p g d%p≠0
  rw[ht];decide))
 have LA9:=a40 (md p f) n;have low:aS (rwF (gX (md p g) k)<|md p g)= .tup ((rwF (d+1)<|md p g).map .int):=by rw[ed];rfl
 left
 refine⟨k,g,p,rfl,ad,ad,?_⟩
 rw[low];left;rw[b47 ad]
 left
 refine⟨md p g d,p,rfl,ad,c2,p2,p9,?_⟩
 rw[et];show rN _ [some<|.pu<|aS<|rwF n f,some<|.pu<|aS<|rwF k g,some<|.pu<|.int p,some<|.pu<|aS<|rwF (d+1)<|md p g,some<|.pu<|.int t,none,none];unfold rN;left;refine⟨n,f,p,rfl,ad,ad,?_⟩
 refine⟨d+1,md p g,t,p,rfl,ad,ad,ad,ad,?_⟩
 rw[hc];refine⟨gX (md p f) n,d,8,8,md p f,λj=>t*md p g j%p,rfl,⟨ad,ad,ht,λj hj=>by
  show t*md p g j%p=0
  rw[dz j hj,b6,dX],λm _=>md_nat p2 p9 f m,λj=>by
   have:=bA j;show(t*md p g j%p).natAbs<=256
   lia,ad,ac⟩,?_⟩
 have hh:=h t ht tR.1 tR.2;have q9:=a40 (divQ (λj=>t*md p g j%p) d (gX (md p f) n-d)<|md p f) (gX (md p f) n-d)
 have r9:=a40 (divL (λj=>t*md p g j%p) d (gX (md p f) n-d)<|md p f) (gX (md p f) n)
 simp only[]at hh;left;refine⟨ae,ae,trivial,?_⟩
 unfold yT;left;refine⟨_,_,t,p,rfl,ad,ad,ad,ad,?_⟩
 refine⟨_,_,p,rfl,ad,ad,?_⟩
 left
 exact⟨ac,hh⟩
noncomputable def prB (i k:Nat):Bool:=if(2:Int)+(i:Int)=2+(k:Int)then true else !decide (((2:Int)+(i:Int))%(2+(k:Int))=0)
noncomputable def prC (i:Nat):Bool:=((List.range 13).map<|prB i).all id
noncomputable def prL:List Int:=((List.range 198).filter prC).map λi:Nat=>(2:Int)+(i:Int)
theorem c63 {c p:Nat}(hp:2<=p): ∀n,bL0 (c:Int) (p:Int) n=((c^n%p:Nat):Int)
 | 0=>by
  show(1:Int)=_
  rw[Nat.pow_zero,aP0 ad]
  rfl
 | n+1=>by
  show bL0 (c:Int) (p:Int) n*(c:Int)%(p:Int)=_
  rw[c63 hp n,<-aP4,<-aP1,a18,Nat.mod_mul_mod]
theorem pr_all:prL.all (λp=>decide (2<=p)&&decide (p<200)&&(List.range p.toNat).all λc=>decide (c=0)||decide (c^(p.toNat-2)%p.toNat*c%p.toNat=1))=true:=af
theorem aA6 {p:Int}(h:p∈prL):Pr p:=by
 have h1:=eI.mp pr_all p h;simp only[dU,gJ,eI,dN,a11]at h1;obtain⟨⟨a,b⟩,c⟩:=h1;refine⟨a,b,λx x0 x1=> ?_⟩
 obtain⟨q,rfl⟩: ∃q:Nat,p=(q:Int):=⟨p.toNat,ad⟩
 obtain⟨y,rfl⟩: ∃y:Nat,x=(y:Int):=⟨x.toNat,ad⟩
 have h2:=c y ad
 rw[eH]at h2⊢;rw[c63 ad,<-aP4,<-aP1]
 rcases h2 with h2|h2
 .lia
 .rw[h2];rfl
noncomputable def T_SMALL_PRIMES:List Int:=[2,3,5,7,11,13,17,19,23,29,31,37,41,43,47,53,59,61,67,71,73,79,83,89,97,101,103,107,109,113,127,131,137,139,149,151,157,163,167,173,179,181,191,193,197,199]
theorem tp_ok: ∀p∈T_SMALL_PRIMES,2<=p/\p<200:=af
theorem d98:T_SMALL_PRIMES.Pairwise (λa b=>a<b):=af
theorem bE2:T_SMALL_PRIMES.length=46:=rfl
def l6:Φ:=λds Q=>ds=[]/\Q (.ow<|T_SMALL_PRIMES.map .int)
def pL:US:=(dQ<|aU aG0<|aC (uC<|.tup<|T_SMALL_PRIMES.map .int) aR)
theorem aV1: ∀ds Q,l6 ds Q->pL {nx:=λ_=>Q (.pu .non),rt:=Q} (init [] ds):=by
 rintro ds Q ⟨rfl,h⟩;unfold pL;show(dQ _:US) _ [];left;exact h
theorem bX9:prL=T_SMALL_PRIMES:=af
noncomputable def ps (f:Nat->Int)(z:Int):Nat->Int
 | 0=>0
 | n+1=>ps f z n+f n*z^n
noncomputable def hor (f:Nat->Int)(n:Nat)(z:Int):Nat->Int
 | 0=>0
 | k+1=>hor f n z k*z+f (n-1-k)
theorem d99 (f:Nat->Int)(n:Nat)(z:Int): ∀k,k<=n->hor f n z k*z^(n-k)+ps f z (n-k)=ps f z n
 | 0,_=>by show(0:Int)*_+_=_;rw[cY,bW];rfl
 | k+1,h=>by
  have ih:=d99 f n z k ad
  obtain⟨m,hm⟩: ∃m,n-k=m+1:=⟨n-k-1,ad⟩
  have e1:n-(k+1)=m:=ad
  have e2:n-1-k=m:=ad
  rw[hm]at ih;show(hor f n z k*z+f (n-1-k))*z^(n-(k+1))+ps f z (n-(k+1))=_;rw[e1,e2,<-ih];show _=hor f n z k*z^(m+1)+(ps f z m+f m*z^m);rw[jK,a24];have e3:hor f n z k*z*z^m=hor f n z k*(z^m*z):=by rw[gM,dZ z]
  lia
theorem bY0 (f:Nat->Int)(n:Nat)(z:Int):hor f n z n=ps f z n:=by
 have:=d99 f n z n (aG _);rw[rD]at this;have e:hor f n z n*z^0+ps f z 0=hor f n z n:=by
  show hor f n z n*z^0+0=_
  rw[cZ,fX,dY]
 lia
theorem aG7 {f:Nat->Int}{n a b:Nat}{z:Int}(hf: ∀j,(f j).natAbs<=2^a)(hz:z.natAbs<=2^b): ∀k,(hor f n z k).natAbs<=2^(a+(b+1)*k)
 | 0=>by simp[hor]
 | k+1=>by
  show(hor f n z k*z+f (n-1-k)).natAbs<=_
  have ih:=aG7 (n:=n) hf hz k;have h1:(hor f n z k*z).natAbs<=2^(a+(b+1)*k)*2^b:=by rw[dW];exact i4 ih hz
  have h2:=hf (n-1-k);have h3:=a00 (hor f n z k*z) (f<|n-1-k);have e1:2^(a+(b+1)*(k+1))=2^(a+(b+1)*k)*2^b+2^(a+(b+1)*k)*2^b:=by
   rw[a19,<-oE,<-oE,a18,i5 2 (a+(b+1)*k) b];lia
  have h4:2^a<=2^(a+(b+1)*k)*2^b:=by
   rw[<-i5];exact lH ac ad
  lia
theorem dA0 (f g:Nat->Int)(z:Int): ∀n,ps (λj=>f j+g j) z n=ps f z n+ps g z n
 | 0=>rfl
 | n+1=>by
  show ps (λj=>f j+g j) z n+(f n+g n)*z^n=ps f z n+f n*z^n+(ps g z n+g n*z^n)
  rw[dA0 f g z n,a24]
  lia
theorem dA1 (c:Int)(f:Nat->Int)(z:Int): ∀n,ps (λj=>c*f j) z n=c*ps f z n
 | 0=>by show(0:Int)=c*0;rw[b6]
 | n+1=>by
  show ps (λj=>c*f j) z n+c*f n*z^n=c*(ps f z n+f n*z^n)
  rw[dA1 c f z n,rE,gM]
theorem aA7 {f:Nat->Int}{z:Int}{n:Nat}: ∀m,n<=m->(∀j,n<=j->j<m->f j=0)->ps f z m=ps f z n
 | 0,h,_=>by rw[show n=0 by lia]
 | m+1,h,hz=>by
  by_cases c:n=m+1
  .rw[c]
  .show ps f z m+f m*z^m=_
   rw[hz m ad ad,cY,dY]
   exact aA7 m ad λj a b=>hz j a ad
theorem bR2 (b:Nat->Int)(z:Int)(U:Nat): ∀n,n<=U->ps (shF b U) z n=0
 | 0,_=>rfl
 | n+1,h=>by
  show ps (shF b U) z n+shF b U n*z^n=0
  rw[bR2 b z U n aa]
  unfold shF;rw[a9 aa,cY]
  rfl
theorem aV2 (b:Nat->Int)(z:Int)(U:Nat): ∀m,ps (shF b U) z (U+m)=z^U*ps b z m
 | 0=>by rw[a21,bR2 b z U U<|aG _];show(0:Int)=z^U*0;rw[b6]
 | m+1=>by
  show ps (shF b U) z (U+m)+shF b U (U+m)*z^(U+m)=z^U*(ps b z m+b m*z^m)
  rw[aV2 b z U m];unfold shF;rw[aA ad,show U+m-U=m by lia,Int.pow_add,rE,Int.mul_left_comm]
theorem b96 {u b:Nat->Int}{z:Int}{V:Nat}(hb: ∀j,V<=j->b j=0): ∀U N,U+V<=N->ps (conv u b U) z N=ps u z U*ps b z V
 | 0,N,_=>by
  have:ps (conv u b 0) z N=0:=by
   have e:ps (conv u b 0) z N=ps (conv u b 0) z 0:=aA7 N (cK _) λ_ _ _=>rfl
   rw[e];rfl
  rw[this];show(0:Int)=0*_;rw[cY]
 | U+1,N,h=>by
  have e:conv u b (U+1)=λm=>conv u b U m+u U*shF b U m:=rfl
  rw[e,dA0 (conv u b U) λm=>u U*shF b U m,b96 hb U N ad,dA1]
  obtain⟨m,rfl⟩: ∃m,N=U+m:=⟨N-U,ad⟩
  rw[aV2,aA7 (n:=V) m ad λj a _=>hb j a]
  show _=(ps u z U+u U*z^U)*ps b z V
  rw[a24,gM<|u U]
structure dA2 (n a b:Nat)(f:Nat->Int)(z:Int):Prop where
 fb: ∀j,(f j).natAbs<=2^a
 zb:z.natAbs<=2^b
 room:a+(b+1)*n<8000
 b8:b<8000
 n9:n<=200
def u4:Φ:=λds Q=> ∃(n a b:Nat) (f:Nat->Int) (z:Int),ds=[aS<|rwF n f,.int z]/\dA2 n a b f z/\Q (.pu<|.int<|ps f z n)
def a41:US:=(aX (bV 2<|uC<|.int 0)<|aX (nA (cO0<|aC (aF 0) aR) (dG 3)<|bV 2<|uOp iV (uOp fS (aF 2)<|aF 1)<|aF 3)<|sJ 2)
theorem bY1: ∀ds Q,u4 ds Q->a41 {nx:=λ_=>Q (.pu .non),rt:=Q} (init ["f","z","v","c"] ds):=by
 rintro ds Q ⟨n,a,b,f,z,rfl,ok,h⟩;unfold a41;simp only[aS];show(aX _ _:US) _ [some<|.pu<|.tup<|(rwF n f).map .int,some<|.pu<|.int z,none,none];left;refine cF n (λk=>((rwF n f).map D.int).getD (n-1-k) .non) [some<|.pu<|.tup<|(rwF n f).map .int,some<|.pu<|.int z,some<|.pu<|.int 0,none] ?_
  (λk ρ=> ∃c,ρ=[some<|.pu<|.tup<|(rwF n f).map .int,some<|.pu<|.int z,some<|.pu<|.int<|hor f n z k,c]) ⟨none,rfl⟩ ?_ ?_
 .intro Q' q;left;rw[bC];exact q
 .rintro k ρ hk ⟨c,rfl⟩;rw[nN aa]
  left
  have room:=ok.room;have:(b+1)*k<=(b+1)*n:=uO _ aa
  exact⟨ae,.inr ⟨Sm.pow (aG7 ok.fb ok.zb k) aa,Sm.pow ok.zb (by have:=ok.b8;omega)⟩,_,rfl⟩
 .rintro ρ ⟨c,rfl⟩;left;rw[bY0];exact h
theorem cO9 (f g:Nat->Int)(n m:Nat):shF (λj=>f j+g j) n m=shF f n m+shF g n m:=by
 unfold shF;dsimp only;split<;>lia
theorem cP0 (c:Int)(f:Nat->Int)(n m:Nat):shF (λj=>c*f j) n m=c*shF f n m:=by
 unfold shF;dsimp only;split
 .rfl
 .rw[b6]
theorem dA3 (h:Nat->Int)(n k m:Nat):shF (shF h n) k m=shF h (n+k) m:=by
 unfold shF
 by_cases c:k<=m
 .rw[aA c]
  by_cases d:n<=m-k
  .rw[aA d,aA ad,show m-k-n=m-(n+k)by lia]
  .rw[a9 d,a9 ad]
 .rw[a9 c,a9 ad]
theorem bR3 (f g b:Nat->Int)(m:Nat): ∀n,conv (λj=>f j+g j) b n m=conv f b n m+conv g b n m
 | 0=>rfl
 | n+1=>by
  show conv (λj=>f j+g j) b n m+(f n+g n)*shF b n m=conv f b n m+f n*shF b n m+(conv g b n m+g n*shF b n m)
  rw[bR3 f g b m n,a24]
  lia
theorem aG8 (c:Int)(f b:Nat->Int)(m:Nat): ∀n,conv (λj=>c*f j) b n m=c*conv f b n m
 | 0=>by show(0:Int)=c*0;rw[b6]
 | n+1=>by
  show conv (λj=>c*f j) b n m+c*f n*shF b n m=c*(conv f b n m+f n*shF b n m)
  rw[aG8 c f b m n,rE,gM]
theorem c64 (f b:Nat->Int)(k m:Nat): ∀n,conv (shF f k) b (k+n) m=shF (conv f b n) k m
 | 0=>by
  have e: ∀j,j<=k->conv (shF f k) b j m=0:=by
   intro j
   induction j with
   | zero=>intro _;rfl
   | succ j ih=>
    intro hj;show conv (shF f k) b j m+shF f k j*shF b j m=0;rw[ih ad]
    unfold shF;rw[a9 ad,cY]
    rfl
  rw[a21,e k<|aG _];unfold shF;split<;>rfl
 | n+1=>by
  show conv (shF f k) b (k+n) m+shF f k (k+n)*shF b (k+n) m=shF (λm=>conv f b n m+f n*shF b n m) k m
  rw[c64 f b k m n,cO9,cP0,dA3,add_comm n k]
  congr 2
  unfold shF;rw[aA ad,show k+n-k=n by lia]
theorem bE3 {u b c:Nat->Int}{V:Nat}(hb: ∀j,V<=j->b j=0)(m:Nat): ∀U,conv u (conv b c V) U m=conv (conv u b U) c (U+V) m
 | 0=>by
  have e: ∀n,conv (conv u b 0) c n m=0:=by
   intro n
   induction n with
   | zero=>rfl
   | succ n ih=>
    show conv (conv u b 0) c n m+0*shF c n m=0
    rw[ih,cY];rfl
  rw[e];rfl
 | U+1=>by
  show conv u (conv b c V) U m+u U*shF (conv b c V) U m=conv (λm=>conv u b U m+u U*shF b U m) c (U+1+V) m
  rw[bR3,aG8,bE3 hb m U];have z1: ∀j,U+V<=j->j<U+1+V->conv u b U j=0:=λj h1 h2=>by
   have: ∀i,V<i+1->b i=0:=λi hi=>hb i ad
   by_cases v:V=0
   .subst v;have e:b=λ_=>0:=funext λj=>hb j (cK _)
    rw[e];have nul: ∀n,conv u (λ_=>0) n j=0:=by
     intro n
     induction n with
     | zero=>rfl
     | succ n ih=>
      show conv u (λ_=>0) n j+u n*shF (λ_=>0) n j=0
      rw[ih];unfold shF;split<;>rw[b6]<;>rfl
    exact nul U
   .exact oX (d:=V-1) (λi hi=>hb i ad) U j ad
  rw[aV0 (u:=conv u b U) (b:=c) (U:=U+V) (U+1+V) z1 ad]
  have z2: ∀j,U+V<=j->j<U+1+V->shF b U j=0:=λj h1 h2=>by
   unfold shF;rw[aA ad]
   exact hb _ ad
  rw[aV0 (u:=shF b U) (b:=c) (U:=U+V) (U+1+V) z2 ad,c64]
theorem aG9 (u f g:Nat->Int)(m:Nat): ∀n,conv u (λj=>f j+g j) n m=conv u f n m+conv u g n m
 | 0=>rfl
 | n+1=>by
  show conv u (λj=>f j+g j) n m+u n*shF (λj=>f j+g j) n m=conv u f n m+u n*shF f n m+(conv u g n m+u n*shF g n m)
  rw[aG9 u f g m n,cO9,rE]
  lia
theorem aA8 (c:Int)(k:Nat)(hu: ∀j,n<=j->u j=0)(m:Nat):conv u (λj=>if j=k then c else 0) n m=c*shF u k m:=by
 have e: ∀n,conv u (λj=>if j=k then c else 0) n m=if k<=m/\m-k<n then c*u (m-k)else 0:=by
  intro n
  induction n with
  | zero=>rw[a9 aa];rfl
  | succ n ih=>
   show conv u (λj=>if j=k then c else 0) n m+u n*shF (λj=>if j=k then c else 0) n m=_
   have sh:shF (λj=>if j=k then c else 0) n m=if n<=m/\m-n=k then c else 0:=by
    unfold shF;dsimp only
    by_cases h3:n<=m
    .rw[aA h3]
     by_cases h4:m-n=k
     .rw[aA h4,aA ⟨h3,h4⟩]
     .rw[a9 h4,a9 λz=>h4 z.2]
    .rw[a9 h3,a9 λz=>h3 z.1]
   rw[ih,sh]
   by_cases h1:k<=m/\m-k<n
   .rw[aA h1,a9<|show ¬(n<=m/\m-n=k)by omega,aA<|show k<=m/\m-k<n+1 by omega,b6,dY]
   .rw[a9 h1]
    by_cases h2:k<=m/\m-k=n
    .rw[aA<|show n<=m/\m-n=k by omega,aA<|show k<=m/\m-k<n+1 by omega,h2.2,bW,dZ]
    .rw[a9<|show ¬(n<=m/\m-n=k)by omega,a9<|show ¬(k<=m/\m-k<n+1)by omega,b6]
     rfl
 rw[e n];unfold shF
 by_cases h1:k<=m
 .rw[aA h1]
  by_cases h2:m-k<n
  .rw[aA ⟨h1,h2⟩]
  .rw[a9 aa,hu _ aa,b6]
 .rw[a9 h1,a9 aa,b6]
theorem bR4 {b:Nat->Int}{V:Nat}(hu: ∀j,U<=j->u j=0)(hb: ∀j,V<=j->b j=0)(m:Nat):conv u b U m=conv b u V m:=by
 have e: ∀n,conv u b n m=conv b (λj=>if j<n then u j else 0) V m:=by
  intro n
  induction n with
  | zero=>
   have:(λj=>if j<0 then u j else 0)=λj=>if j=0 then(0:Int)else 0:=funext λj=>ae
   rw[this,aA8 0 0 hb,cY];rfl
  | succ n ih=>
   have:(λj=>if j<n+1 then u j else 0)=λj=>(if j<n then u j else 0)+(if j=n then u n else 0):=funext λj=>by
    by_cases h1:j<n
    .rw[aA ad,aA h1,a9 ad,dY]
    .by_cases h2:j=n
     .subst h2;rw[aA ad,a9 h1,aA rfl,bW]
     .rw[a9 ad,a9 h1,a9 h2];rfl
   rw[this,aG9 b (λj=>if j<n then u j else 0) λj=>if j=n then u n else 0,aA8 _ _ hb,<-ih]
   rfl
 rw[e U]
 congr 1
 funext j
 by_cases h:j<U
 .rw[aA h]
 .rw[a9 h,hu j ad]
theorem emL (a b p:Int):a%p*b%p=a*b%p:=by rw[gO,jH,<-gO]
theorem emR (a b p:Int):a*(b%p)%p=a*b%p:=by rw[gO,jH,<-gO]
structure MP (p:Int)(n:Nat)(f:Nat->Int):Prop where
 top:f n=1
 hi: ∀j,n<j->f j=0
 rng: ∀j,0<=f j/\f j<p
noncomputable def tm (p:Int)(a b:Nat×(Nat->Int)):Nat×(Nat->Int):=(a.1+b.1,md p<|conv a.2 b.2 (a.1+1))
theorem c65 {p:Int}(u b:Nat->Int)(n m:Nat):conv (md p u) b n m%p=conv u b n m%p:=aU9 (λi j=>by show u i%p*b j%p=_;rw[emL]) n m
theorem dA4 {p:Int}(u b:Nat->Int)(n m:Nat):conv u (md p b) n m%p=conv u b n m%p:=aU9 (λi j=>by show u i*(b j%p)%p=_;rw[emR]) n m
theorem MP.tm {p:Int}{a b:Nat×(Nat->Int)}(hp:2<=p)(ha:MP p a.1 a.2)(hb:MP p b.1 b.2):MP p (M.tm p a b).1 (M.tm p a b).2:=by
 refine⟨?_,λj hj=> ?_,λj=>⟨cA _ ad,bZ _ ad⟩⟩
 .show conv a.2 b.2 (a.1+1) (a.1+b.1)%p=1
  rw[bE1 hb.hi,ha.top,hb.top];exact eX ac ad
 .show conv a.2 b.2 (a.1+1) j%p=0
  have hj':a.1+b.1<j:=hj;rw[oX (d:=b.1) hb.hi (a.1+1) j ad,dX]
theorem aA9 {p:Int}{a b c:Nat×(Nat->Int)}(hb: ∀j,b.1<j->b.2 j=0):tm p a (tm p b c)=tm p (tm p a b) c:=by
 refine kL (oE _ _ _).symm (funext λm=> ?_)
 show conv a.2 (md p<|conv b.2 c.2 (b.1+1)) (a.1+1) m%p=conv (md p<|conv a.2 b.2 (a.1+1)) c.2 (a.1+b.1+1) m%p
 rw[dA4,c65,bE3 (V:=b.1+1) (λj hj=>hb j hj) m<|a.1+1]
 rw[aV0 (u:=conv a.2 b.2 (a.1+1)) (b:=c.2) (U:=a.1+b.1+1) (a.1+1+(b.1+1)) (λj h1 h2=>oX (d:=b.1) hb (a.1+1) j ad) ad]
theorem aH0 {p:Int}{a b:Nat×(Nat->Int)}(ha: ∀j,a.1<j->a.2 j=0)(hb: ∀j,b.1<j->b.2 j=0):tm p a b=tm p b a:=by
 refine kL (add_comm _ _) (funext λm=> ?_)
 show conv a.2 b.2 (a.1+1) m%p=conv b.2 a.2 (b.1+1) m%p
 rw[bR4 (U:=a.1+1) (V:=b.1+1) (λj hj=>ha j hj) λj hj=>hb j hj]
noncomputable def pZ:Nat×(Nat->Int):=(0,λj=>if j=0 then 1 else 0)
theorem MP.one {p:Int}(hp:2<=p):MP p pZ.1 pZ.2:=⟨rfl,λj hj=>a9 (by have:0<j:=hj;lia),λj=>by show 0<=(if j=0 then(1:Int)else 0)/\(if j=0 then(1:Int)else 0)<p;split<;>lia⟩
theorem dA5 {p:Int}{a:Nat×(Nat->Int)}(ha:MP p a.1 a.2):tm p pZ a=a:=by
 refine kL (Nat.zero_add _) (funext λm=> ?_)
 show(0+(if(0:Nat)=0 then(1:Int)else 0)*shF a.2 0 m)%p=a.2 m
 rw[aA rfl,jM,bW];unfold shF;rw[aA<|cK _,uZ];exact eX (ha.rng m).1 (ha.rng m).2
noncomputable def j8 (c:Int):Nat×(Nat->Int):=(1,λj=>if j=0 then c else if j=1 then 1 else 0)
theorem MP.lin {p:Int}(hp:2<=p)(h0:0<=c)(h1:c<p):MP p (j8 c).1 (j8 c).2:=⟨rfl,λj hj=>by
  have:1<j:=hj;show(if j=0 then c else if j=1 then 1 else 0)=0;rw[a9 ad,a9 ad],λj=>by
  show 0<=(if j=0 then c else if j=1 then 1 else 0)/\(if j=0 then c else if j=1 then 1 else 0)<p
  split
  .lia
  .split<;>lia⟩
noncomputable def va (p:Int)(a:Nat×(Nat->Int))(z:Int):Int:=ps a.2 z (a.1+1)%p
theorem dV2 (p:Int)(f:Nat->Int)(z:Int): ∀n,ps (md p f) z n%p=ps f z n%p
 | 0=>rfl
 | n+1=>by
  show(ps (md p f) z n+f n%p*z^n)%p=(ps f z n+f n*z^n)%p
  rw[iL,dV2 p f z n,emL,<-iL]
theorem dV3 {p:Int}{a b:Nat×(Nat->Int)}(hb: ∀j,b.1<j->b.2 j=0)(z:Int):va p (tm p a b) z=va p a z*va p b z%p:=by
 show ps (md p<|conv a.2 b.2 (a.1+1)) z (a.1+b.1+1)%p=ps a.2 z (a.1+1)%p*(ps b.2 z (b.1+1)%p)%p
 rw[dV2,<-gO];have h:=b96 (u:=a.2) (b:=b.2) (z:=z) (V:=b.1+1) (λj hj=>hb j hj) (a.1+1) (a.1+1+(b.1+1)) (aG _)
 rw[<-h,aA7 (n:=a.1+b.1+1) (a.1+1+(b.1+1)) ad λj h1 h2=>oX (d:=b.1) hb (a.1+1) j ad]
noncomputable def hqA (c:Int)(f:Nat->Int)(n:Nat):Nat->Int
 | 0=>f n
 | k+1=>f (n-1-k)-c*hqA c f n k
noncomputable def hq (c:Int)(f:Nat->Int)(n:Nat):Nat->Int:=λj=>if j<n then hqA c f n (n-1-j)else 0
theorem cP1 (hf: ∀j,n<j->f j=0)(j:Nat)(hj:1<=j):f j=hq c f n (j-1)+c*hq c f n j:=by
 unfold hq
 by_cases h1:j<n
 .rw[aA<|show j-1<n by lia,aA h1,show n-1-(j-1)=(n-1-j)+1 by lia]
  show f j=f (n-1-(n-1-j))-c*hqA c f n (n-1-j)+c*hqA c f n (n-1-j)
  rw[show n-1-(n-1-j)=j by lia]
  lia
 .by_cases h2:j=n
  .subst h2;rw[aA<|show j-1<j by lia,a9 h1,show j-1-(j-1)=0 by lia,b6,dY]
   rfl
  .rw[a9<|show ¬j-1<n by lia,a9 h1,hf j ad,b6]
   rfl
theorem dV4 {c:Int}{f:Nat->Int}{n:Nat}(hf: ∀j,n<j->f j=0): ∀m,ps f (-c) (m+1)=f 0-c*hq c f n 0+c*hq c f n m*(-c)^m
 | 0=>by
  show 0+f 0*(-c)^0=_
  rw[cZ,fX,fX]
  lia
 | m+1=>by
  show ps f (-c) (m+1)+f (m+1)*(-c)^(m+1)=_
  rw[dV4 hf m,cP1 (c:=c) hf (m+1) ad,cN,jK]
  grind
theorem hq_at (hf: ∀j,n<j->f j=0):ps f (-c) (n+1)=f 0-c*hq c f n 0:=by
 rw[dV4 hf n];have:hq c f n n=0:=by unfold hq;rw[a9<|cQ _]
 rw[this,b6,cY,dY]
theorem dA6 (c:Int)(hu: ∀j,n<=j->u j=0)(m:Nat):conv u (j8 c).2 n m=c*u m+(if m=0 then 0 else u (m-1)):=by
 have e:(j8 c).2=λj=>(if j=0 then c else 0)+(if j=1 then 1 else 0):=funext λj=>by
  show(if j=0 then c else if j=1 then 1 else 0)=_
  by_cases h0:j=0
  .subst h0;simp
  .rw[a9 h0,a9 h0,bW]
 rw[e,aG9 u (λj=>if j=0 then c else 0) λj=>if j=1 then 1 else 0,aA8 c 0 hu,aA8 1 1 hu,jM]
 unfold shF;rw[aA<|cK _,uZ]
 congr 1
 by_cases h0:m=0
 .rw[aA h0,a9 ad]
 .rw[a9 h0,aA ad]
theorem dP1 (hf: ∀j,n<j->f j=0)(m:Nat):f m=conv (hq c f n) (j8 c).2 n m+(if m=0 then f 0-c*hq c f n 0 else 0):=by
 rw[dA6 c (λj hj=>by unfold hq;rw[a9 ad])]
 by_cases h0:m=0
 .subst h0;rw[aA rfl,aA rfl];lia
 .rw[a9 h0,a9 h0,cP1 (c:=c) hf m ad];lia
noncomputable def powT (p:Int)(a g:Nat×(Nat->Int)):Nat->Nat×(Nat->Int)
 | 0=>a
 | k+1=>tm p (powT p a g k) g
theorem MP.powT {p:Int}{a g:Nat×(Nat->Int)}(hp:2<=p)(ha:MP p a.1 a.2)(hg:MP p g.1 g.2): ∀k,MP p (M.powT p a g k).1 (M.powT p a g k).2
 | 0=>ha
 | k+1=>MP.tm hp (MP.powT hp ha hg k) hg
theorem aV3 (p:Int)(a g:Nat×(Nat->Int)): ∀k,(powT p a g k).1=a.1+g.1*k
 | 0=>rfl
 | k+1=>by
  show(powT p a g k).1+g.1=_
  rw[aV3 p a g k,a19,oE]
noncomputable def allT (p:Int)(a:Nat×(Nat->Int)):List ((Nat×(Nat->Int))×Nat)->Nat×(Nat->Int)
 | []=>a
 | x::l=>allT p (powT p a x.1 x.2) l
theorem oY (p:Int): ∀(l m:List ((Nat×(Nat->Int))×Nat)) (a:Nat×(Nat->Int)),allT p a (l++m)=allT p (allT p a l) m
 | [],m,a=>rfl
 | x::l,m,a=>oY p l m _
theorem MP.allT {p:Int}(hp:2<=p): ∀(l:List ((Nat×(Nat->Int))×Nat)) {a:Nat×(Nat->Int)},MP p a.1 a.2->(∀x∈l,MP p x.1.1 x.1.2)->MP p (M.allT p a l).1 (M.allT p a l).2
 | [],a,ha,_=>ha
 | x::l,a,ha,h=>MP.allT hp l (MP.powT hp ha (h x<|.head _) x.2) λy hy=>h y (.tail _ hy)
theorem c66 (p:Int): ∀(l:List ((Nat×(Nat->Int))×Nat)) (a:Nat×(Nat->Int)) (x:(Nat×(Nat->Int))×Nat),x∈l->a.1+x.1.1*x.2<=(allT p a l).1
 | y::l,a,x,hx=>by
  show _<=(allT p (powT p a y.1 y.2) l).1
  have mono: ∀(l:List ((Nat×(Nat->Int))×Nat)) (a:Nat×(Nat->Int)),a.1<=(allT p a l).1:=by
   intro l
   induction l with
   | nil=>intro a;exact aG _
   | cons z l ih=>intro a;exact aM (by rw[aV3];lia) (ih<|powT p a z.1 z.2)
  rcases bE.mp hx with rfl|hx
  .have:=mono l (powT p a x.1 x.2);rw[aV3]at this;exact this
  .have:=c66 p l (powT p a y.1 y.2) x hx;rw[aV3]at this
   lia
noncomputable def aB0 (x:(Nat×(Nat->Int))×Nat):D:= .tup [aS<|rwF (x.1.1+1) x.1.2,.int (x.2:Int)]
noncomputable def lnP (x:Int×Nat):(Nat×(Nat->Int))×Nat:=(j8 x.1,x.2)
structure LK (p:Int)(F:Nat×(Nat->Int))(C:Nat)(cs:List (Int×Nat))(L:Nat×(Nat->Int)):Prop where
 prod:F=tm p (allT p pZ<|cs.map lnP) L
 mp:MP p L.1 L.2
 asc:cs.Pairwise λa b=>a.1<b.1
 mem: ∀x∈cs,0<=x.1/\x.1< (C:Int)/\1<=x.2
 nr: ∀c:Nat,c<C->va p L (-(c:Int))≠0
 len:cs.length<=C
theorem cP2 {p:Int}(hp:2<=p){cs:List (Int×Nat)}(h: ∀x∈cs,0<=x.1/\x.1<p): ∀y∈cs.map lnP,MP p y.1.1 y.1.2:=by
 intro y hy;obtain⟨x,hx,rfl⟩:=fB.mp hy;exact MP.lin hp (h x hx).1 (h x hx).2
def vK:Φ:=λds Q=> ∃(n:Nat) (f:Nat->Int) (p:Int),ds=[aS<|rwF (n+1) f,.int p]/\n<=40/\Pr p/\MP p n f/\ ∀cs L,LK p (n,f) p.toNat cs L->Q (.pu<|.tup [.lst<|cs.map λx=>aB0 (lnP x),aS<|rwF (L.1+1) L.2])
def a72:US:=(dQ<|iT<|aC (aF 2)<|aC (aF 3) aR)
def a73:US:=(aX (nA (kM<|aC (aF 1) aR) (dG 4)<|aX (bV 5<|uC<|.int 0)<|aX (aZ5 (fO<|uOp (lQ false) (uOp pX (aU u4<|aC (aF 3)<|aC (sK<|aF 4) aR)<|aF 1)<|uC<|.int 0)<|aX (bV 3<|uIx (uV<|aU t7<|aC (aF 3)<|aC (iT<|aC (aF 4)<|aC (uC<|.int 1) aR)<|aC (aF 1) aR)<|uC<|.int 0)<|c34 5 (gI2 λi j Q=>Q (.pu<|.int<|i+j))<|uC<|.int 1)<|iU (fO<|uOp (yP λi j=>decide (j<i)) (aF 5)<|uC<|.int 0) (aS8 2<|iT<|aC (iT<|aC (aF 4)<|aC (uC<|.int 1) aR)<|aC (aF 5) aR) fT) a72)
def a74:US:=(aX (bV 3<|aF 0) a73)
def vL:US:=(aX (bV 2<|n6 aR) a74)
theorem dA7 {p:Int}(pp:Pr p){L:Nat×(Nat->Int)}(mp:MP p L.1 L.2)(c0:0<=c)(c1:c<p)(hz:va p L (-c)=0){t:Int}(ht:t*md p (j8 c).2 1%p=1)(t0:0<=t)(t1:t<p) :
  1<=L.1/\ ∃u:Nat->Int,MP p (L.1-1) u/\L=tm p (L.1-1,u) (j8 c)/\
   (let b:=λj=>t*md p (j8 c).2 j%p
    let LA:=gX (md p L.2) (L.1+1)
    let q:=divQ b 1 (LA-1) (md p L.2)
    rwF (gX (λj=>t*q j%p)<|gX q<|LA-1) (λj=>t*q j%p)=rwF L.1 u):=by
 have p2:=pp.lo;have mdL:md p L.2=L.2:=funext λj=>eX (mp.rng j).1 (mp.rng j).2
 have ml:=MP.lin p2 c0 c1;have mdG:md p (j8 c).2=(j8 c).2:=funext λj=>eX (ml.rng j).1 (ml.rng j).2
 have l1:1<=L.1:=by
  refine Nat.pos_of_ne_zero λz=> ?_
  unfold va at hz;rw[z]at hz;have e:ps L.2 (-c) (0+1)=L.2 0*(-c)^0:=by show 0+L.2 0*(-c)^0=_;lia
  have e2:L.2 0=1:=by have:=mp.top;rw[z]at this;exact this
  rw[e,e2,cZ,fX,eX ac ad]at hz
  cases hz
 have r0:(L.2 0-c*hq c L.2 L.1 0)%p=0:=by rw[<-hq_at mp.hi];exact hz
 have fm: ∀m,L.2 m=conv (md p<|hq c L.2 L.1) (j8 c).2 L.1 m%p:=λm=>by
  have h:=dP1 (c:=c) mp.hi m;rw[c65];have e:L.2 m%p=L.2 m:=eX (mp.rng m).1 (mp.rng m).2;rw[<-e]
  conv=>lhs;rw[h]
  by_cases h0:m=0
  .rw[aA h0,iL,r0,dY,jH]
  .rw[a9 h0,dY]
 have ut:md p (hq c L.2 L.1) (L.1-1)=1:=by
  show hq c L.2 L.1 (L.1-1)%p=1
  unfold hq;rw[aA ad,rD]
  show L.2 L.1%p=1
  rw[mp.top];exact eX ac ad
 have uz: ∀j,L.1<=j->md p (hq c L.2 L.1) j=0:=λj hj=>by
  show hq c L.2 L.1 j%p=0
  unfold hq;rw[a9 ad,dX]
 have ur: ∀j,0<=md p (hq c L.2 L.1) j/\md p (hq c L.2 L.1) j<p:=λj=>⟨cA _ ad,bZ _ ad⟩
 refine⟨l1,md p<|hq c L.2 L.1,⟨ut,λj hj=>uz j ad,ur⟩,?_,?_⟩
 .refine kL (show L.1=L.1-1+1 by lia) (funext λm=> ?_)
  show L.2 m=conv (md p<|hq c L.2 L.1) (j8 c).2 (L.1-1+1) m%p
  rw[show L.1-1+1=L.1 by lia]
  exact fm m
 .have mm:=d97 (p:=p) (t:=t) (B0:=md p (j8 c).2) (u:=md p (hq c L.2 L.1)) (low:=λ_=>0) (A:=md p L.2) (d:=1) (U:=L.1) (n:=L.1+1) p2 (λj hj=>by rw[mdG];exact ml.hi j hj) (.inr (by rw[ut];decide)) ur uz (λ_ _=>rfl) (λ_=>⟨ac,ad⟩) ht (λm=>by rw[mdL,mdG,dY];exact fm m) (aG _)
  obtain⟨_,e1,_,_⟩:=mm;have eLA:gX (md p L.2) (L.1+1)=L.1+1:=tZ (aG _) (λm h1 h2=>ad) (.inr (by rw[mdL,cN,mp.top];decide))
  rw[eLA]at e1⊢;have eu:(λj=>t*divQ (λj=>t*md p (j8 c).2 j%p) 1 (L.1+1-1) (md p L.2) j%p)=md p (hq c L.2 L.1):=funext e1
  dsimp only;rw[eu];have eq:gX (divQ (λj=>t*md p (j8 c).2 j%p) 1 (L.1+1-1)<|md p L.2) (L.1+1-1)=L.1:=by
   rw[cN];refine tZ (aG _) (λm h1 h2=>ad) (.inr λz=> ?_)
   have h:=e1 (L.1-1);rw[cN]at h;rw[z,b6,dX,ut]at h;cases h
  rw[eq,tZ (k:=L.1) (aG _) (λm h1 h2=>ad)<|.inr (by rw[ut];decide)]
theorem dA8 {p:Int}{a b:Nat×(Nat->Int)}(hb: ∀j,b.1<j->b.2 j=0)(h:va p (tm p a b) z≠0):va p a z≠0/\va p b z≠0:=by
 rw[dV3 hb]at h;refine⟨λe=>h ?_,λe=>h ?_⟩
 .rw[e,cY,dX]
 .rw[e,b6,dX]
theorem dA9 {p:Int}(pp:Pr p)(h:MP p n f)(j:Nat):(f j).natAbs<=2^8:=by
 have h1:=h.rng j;have h2:=pp.hi;have:(2:Nat)^8=256:=rfl
 lia
theorem bE4: ∀ds Q,vK ds Q->vL {nx:=λ_=>Q (.pu .non),rt:=Q} (init ["f","p","a","l","c","o"] ds):=by
 rintro ds Q ⟨n,f,p,rfl,n4,pp,mp,h⟩;have p2:=pp.lo;have p3:=pp.hi;unfold vL;show(aX _ _:US) _ [some<|.pu<|aS<|rwF (n+1) f,some<|.pu<|.int p,none,none,none,none];rw[aZ];left;refine⟨ac,?_⟩
 unfold a74;rw[aZ];left;unfold a73;rw[aZ];refine cF p.toNat (λi=> .int (0+i)) [some<|.pu<|aS<|rwF (n+1) f,some<|.pu<|.int p,some<|.ow [],some<|.pu<|aS<|rwF (n+1) f,none,none] ?_
  (λi ρ=> ∃(cs:List (Int×Nat)) (L:Nat×(Nat->Int)) (x y:Option B),ρ=[some<|.pu<|aS<|rwF (n+1) f,some<|.pu<|.int p,some<|.ow<|cs.map λx=>aB0 (lnP x),some<|.pu<|aS<|rwF (L.1+1) L.2,x,y]/\LK p (n,f) i cs L)
  ⟨[],(n,f),none,none,rfl,(dA5 (p:=p) (a:=(n,f)) mp).symm,mp,.nil,ae,ae,aG _⟩ ?_ ?_
 .intro Q' q;left;refine⟨⟨ad,ad⟩,?_⟩
  exact q
 .rintro i ρ hi ⟨cs,L,x,y,rfl,lk⟩;have hLn:L.1<=n:=by
   have:=cT Prod.fst lk.prod;have e:n=(allT p pZ<|cs.map lnP).1+L.1:=this
   lia
  have mcs:=cP2 p2 (cs:=cs) (λx hx=>⟨(lk.mem x hx).1,by have:=(lk.mem x hx).2.1;lia⟩)
  have mA:=MP.allT p2 (cs.map lnP) (MP.one p2) mcs;have mlin:=MP.lin p2 (c:=(i:Int)) ad ad
  rw[bW];left;refine⟨ae,?_⟩
  refine⟨λk ρ=> ∃(o:Nat) (L':Nat×(Nat->Int)),ρ=[some<|.pu<|aS<|rwF (n+1) f,some<|.pu<|.int p,some<|.ow<|cs.map λx=>aB0 (lnP x),some<|.pu<|aS<|rwF (L'.1+1) L'.2,some<|.pu<|.int (i:Int),some<|.pu<|.int (o:Int)]/\k=L'.1/\L'.1<=n/\(n,f)=tm p (powT p (allT p pZ<|cs.map lnP) (j8 (i:Int)) o) L'/\MP p L'.1 L'.2/\ ∀c:Nat,c<i->va p L' (-(c:Int))≠0,⟨L.1,0,L,rfl,rfl,hLn,lk.prod,lk.mp,lk.nr⟩,?_⟩
  rintro k ρ ⟨o,L',rfl,rfl,hL',e,mp',nr⟩;left;refine⟨L'.1+1,8,8,L'.2,-(i:Int),rfl,⟨dA9 pp mp',by have:(2:Nat)^8=256:=rfl;lia,ad,ac,ad⟩,?_⟩
  left
  refine⟨ad,?_⟩
  rw[eO _ ad]
  by_cases c:va p L' (-(i:Int))=0
  .rw[aA<|show ps L'.2 (-(i:Int)) (L'.1+1)%p=0 from c]
   refine⟨ac,L'.1+1,2,1,L'.2,(j8 (i:Int)).2,p,rfl,ad,ac,pp,λj hj=>mlin.hi j hj,ac,λj hj=>by show(j8 (i:Int)).2 j%p=0;rw[mlin.hi j hj,dX],by show(1:Int)%p≠0;rw[eX ac ad];decide,λt ht t0 t1=> ?_⟩
   obtain⟨l1,u,mu,eu,er⟩:=dA7 pp mp' (c:=(i:Int)) ad ad c ht t0 t1
   dsimp only at er⊢;rw[er,aU0];dsimp only;have eL:rwF L'.1 u=rwF (L'.1-1+1) u:=by rw[show L'.1-1+1=L'.1 by lia]
   rw[eL];refine⟨L'.1-1,ad,o+1,(L'.1-1,u),by rw[Int.natCast_succ],rfl,by show L'.1-1<=n;lia,?_,mu,λc' hc'=> ?_⟩
   .show(n,f)=tm p (tm p (powT p (allT p pZ<|cs.map lnP) (j8 (i:Int)) o)<|j8 (i:Int)) (L'.1-1,u)
    rw[e]
    conv=>lhs;rw[eu]
    rw[aH0 (a:=(L'.1-1,u)) (λj hj=>mu.hi j hj) mlin.hi,aA9 mlin.hi]
   .have:=nr c' hc';rw[eu]at this;exact(dA8 mlin.hi this).1
  .rw[a9<|show ¬ps L'.2 (-(i:Int)) (L'.1+1)%p=0 from c]
   have nr': ∀c:Nat,c<i+1->va p L' (-(c:Int))≠0:=λc' hc'=>by
    by_cases h1:c'<i
    .exact nr c' h1
    .rw[show c'=i by lia];exact c
   by_cases c2:(0:Int)< (o:Int)
   .rw[aA c2];refine⟨ac,ac,?_,cs++[((i:Int),o)],L',_,_,by rw[cJ];rfl,?_,mp',?_,?_,nr',?_⟩
    .rw[aO];exact qU lk.len (bG hi<|aM (show p.toNat<=200 by lia) ac)
    .rw[cJ,oY];exact e
    .rw[aN4];refine⟨lk.asc,zQ _ _,λa ha b hb=> ?_⟩
     rw[iH.mp hb];exact(lk.mem a ha).2.1
    .intro z hz;rcases cP.mp hz with hz|hz
     .have:=lk.mem z hz;exact⟨this.1,ad,this.2.2⟩
     .rw[iH.mp hz];exact⟨by show(0:Int)<=(i:Int);lia,by show(i:Int)< ((i+1:Nat):Int);lia,by show 1<=o;lia⟩
    .rw[bY];exact Nat.succ_le_succ lk.len
   .rw[a9 c2];have o0:o=0:=ad
    subst o0;exact⟨cs,L',_,_,rfl,e,mp',lk.asc,λz hz=>⟨(lk.mem z hz).1,by have:=(lk.mem z hz).2.1;lia,(lk.mem z hz).2.2⟩,nr',aO6 lk.len⟩
 .rintro ρ ⟨cs,L,x,y,rfl,lk⟩;dsimp only;unfold a72;left;exact⟨ac,h cs L lk⟩
noncomputable def quF (v u:Int):Nat×(Nat->Int):=(2,λj=>if j=0 then v else if j=1 then u else if j=2 then 1 else 0)
theorem MP.qu {p v u:Int}(hp:2<=p)(v0:0<=v)(v1:v<p)(u0:0<=u)(u1:u<p):MP p (quF v u).1 (quF v u).2:=⟨rfl,λj hj=>by
  have:2<j:=hj;show(if j=0 then v else if j=1 then u else if j=2 then 1 else 0)=0;rw[a9 ad,a9 ad,a9 ad],λj=>by
  show 0<=(if j=0 then v else if j=1 then u else if j=2 then 1 else 0)/\(if j=0 then v else if j=1 then u else if j=2 then 1 else 0)<p
  split
  .lia
  .split
   .lia
   .split<;>lia⟩
theorem dP2 (v u w s:Int):conv (quF v u).2 (quF w s).2 3 0=v*w/\conv (quF v u).2 (quF w s).2 3 1=v*s+u*w/\conv (quF v u).2 (quF w s).2 3 2=v+u*s+w/\conv (quF v u).2 (quF w s).2 3 3=u+s:=by
 refine⟨?_,?_,?_,?_⟩<;>simp[conv,shF,quF]
theorem dV5 {p:Int}(mp:MP p 4 f){v u:Int}(m1:MP p (quF v u).1 (quF v u).2)(m2:MP p (quF w s).1 (quF w s).2)(hp:2<=p) :
  ((4,f):Nat×(Nat->Int))=tm p (quF v u) (quF w s)↔f 0=v*w%p/\f 1=(v*s+u*w)%p/\f 2=(v+u*s+w)%p/\f 3=(u+s)%p:=by
 obtain⟨e0,e1,e2,e3⟩:=dP2 v u w s;have mt:=MP.tm hp m1 m2;constructor
 .intro e;have h: ∀m,f m=conv (quF v u).2 (quF w s).2 3 m%p:=λm=>congrFun (cT Prod.snd e) m
  exact⟨by rw[h 0,e0],by rw[h 1,e1],by rw[h 2,e2],by rw[h 3,e3]⟩
 .rintro⟨h0,h1,h2,h3⟩;refine kL rfl (funext λm=> ?_)
  show f m=conv (quF v u).2 (quF w s).2 3 m%p
  match m with
  | 0=>rw[h0,e0]
  | 1=>rw[h1,e1]
  | 2=>rw[h2,e2]
  | 3=>rw[h3,e3]
  | 4=>exact mp.top.trans mt.top.symm
  | m+5=>exact(mp.hi _ ad).trans (mt.hi (m+5)<|show 2+2<m+5 by lia).symm
def NoQ (p:Int)(F:Nat×(Nat->Int)):Prop:= ∀v u w s:Int,0<=v->v<p->0<=u->u<p->0<=w->w<p->0<=s->s<p->F≠tm p (quF v u) (quF w s)
def tD:Φ:=λds Q=> ∃(f:Nat->Int) (p:Int),ds=[aS<|rwF 5 f,.int p]/\Pr p/\MP p 4 f/\
 (∀v u w s:Int,0<=v->v<p->0<=u->u<p->0<=w->w<p->0<=s->s<p->((4,f):Nat×(Nat->Int))=tm p (quF v u) (quF w s)->Q (.ow [aS [v,u,1],aS [w,s,1]]))/\(NoQ p (4,f)->Q (.ow []))
def yU:US:=(dQ<|n6 aR)
def tE:US:=(aX (nA (kM<|aC (aF 1) aR) (dG 2)<|aX (bV 3<|uOp pX (uOp M.gSub (uIx (b7 0)<|uC<|.int 3)<|aF 2)<|aF 1)<|aX (bV 4<|uOp M.gSub (uIx (b7 0)<|uC<|.int 2)<|uOp fS (aF 2)<|aF 3)<|nA (kM<|aC (aF 1) aR) (dG 5)<|aX (bV 6<|uOp pX (uOp M.gSub (aF 4)<|aF 5)<|aF 1)<|iU (cU4 (fO<|uOp (lQ false) (uOp pX (uOp fS (aF 5)<|aF 6)<|aF 1)<|uIx (b7 0)<|uC<|.int 0)<|fO<|uOp (lQ false) (uOp pX (uOp iV (uOp fS (aF 2)<|aF 6)<|uOp fS (aF 5)<|aF 3)<|aF 1)<|uIx (b7 0)<|uC<|.int 1) (dQ<|n6<|aC (iT<|aC (aF 5)<|aC (aF 2)<|aC (uC<|.int 1) aR)<|aC (iT<|aC (aF 6)<|aC (aF 3)<|aC (uC<|.int 1) aR) aR) fT) yU)
def cW9 (p:Int)(f:Nat->Int)(u v:Int):Prop:=v*((f 2-u*((f 3-u)%p)-v)%p)%p=f 0/\(u*((f 2-u*((f 3-u)%p)-v)%p)+v*((f 3-u)%p))%p=f 1
theorem c67 {p:Int}(h0:0<=a)(h1:a<p)(h:x=(a+b)%p):(x-b)%p=a:=by
 rw[h,a20,jH,<-a20,Int.add_sub_cancel];exact eX h0 h1
theorem b69: ∀ds Q,tD ds Q->tE {nx:=λ_=>Q (.pu .non),rt:=Q} (init ["f","p","u","s","t","v","w"] ds):=by
 rintro ds Q ⟨f,p,rfl,pp,mp,yes,no⟩;have p2:=pp.lo;have p3:=pp.hi;have a0:atI ((rwF 5 f).map D.int) 0=some (.int<|f 0):=oM (i:=0) ac
 have a1:atI ((rwF 5 f).map D.int) 1=some (.int<|f 1):=oM (i:=1) ac
 have a2:atI ((rwF 5 f).map D.int) 2=some (.int<|f 2):=oM (i:=2) ac
 have a3:atI ((rwF 5 f).map D.int) 3=some (.int<|f 3):=oM (i:=3) ac
 unfold tE;simp only[aS];show(aX _ _:US) _ [some<|.pu<|.tup<|(rwF 5 f).map .int,some<|.pu<|.int p,none,none,none,none,none];rw[aZ];refine cF p.toNat (λi=> .int (0+i)) [some<|.pu<|.tup<|(rwF 5 f).map .int,some<|.pu<|.int p,none,none,none,none,none] ?_
  (λi ρ=> ∃x y z a b,ρ=[some<|.pu<|.tup<|(rwF 5 f).map .int,some<|.pu<|.int p,x,y,z,a,b]/\ ∀u v:Nat,u<i->v<p.toNat-> ¬cW9 p f (u:Int) (v:Int))
  ⟨none,none,none,none,none,rfl,λu v hu=>ad⟩ ?_ ?_
 .intro Q' q;left;refine⟨⟨ad,ad⟩,?_⟩
  exact q
 .rintro i ρ hi ⟨x,y,z,a,b,rfl,nh⟩;rw[bW];left;rw[a3];dsimp only;refine⟨ae,ad,?_⟩
  rw[eO _ ad,a2]
  dsimp only;have s0:=cA (f 3-(i:Int)) (show p≠0 by lia)
  have s1:=bZ (f 3-(i:Int)) (show 0<p by lia)
  generalize hS:(f 3-(i:Int))%p=S at *;refine⟨cmL ad ad,?_⟩
  refine cF p.toNat (λi=> .int (0+i)) [some<|.pu<|.tup<|(rwF 5 f).map .int,some<|.pu<|.int p,some<|.pu<|.int (i:Int),some<|.pu<|.int S,some<|.pu<|.int<|f 2-(i:Int)*S,a,b] ?_
   (λj ρ=> ∃a b,ρ=[some<|.pu<|.tup<|(rwF 5 f).map .int,some<|.pu<|.int p,some<|.pu<|.int (i:Int),some<|.pu<|.int S,some<|.pu<|.int<|f 2-(i:Int)*S,a,b]/\ ∀v:Nat,v<j-> ¬cW9 p f (i:Int) (v:Int))
   ⟨a,b,rfl,λv hv=>ad⟩ ?_ ?_
  .intro Q' q;left;refine⟨⟨ad,ad⟩,?_⟩
   exact q
  .rintro j ρ hj ⟨a,b,rfl,nj⟩;rw[bW];left;refine⟨ae,ad,?_⟩
   rw[eO _ ad]
   have w0:=cA (f 2-(i:Int)*S-(j:Int)) (show p≠0 by lia)
   have w1:=bZ (f 2-(i:Int)*S-(j:Int)) (show 0<p by lia)
   generalize hW:(f 2-(i:Int)*S-(j:Int))%p=W at *;refine⟨cmL ad ad,ad,?_⟩
   rw[eO _ ad,a0]
   dsimp only
   have step: ¬cW9 p f (i:Int) (j:Int)-> ∃a b,[some<|B.pu<|.tup<|(rwF 5 f).map .int,some<|.pu<|.int p,some<|.pu<|.int (i:Int),some<|.pu<|.int S,some<|.pu<|.int<|f 2-(i:Int)*S,some<|.pu<|.int (j:Int),some<|.pu<|.int W]=[some<|.pu<|.tup<|(rwF 5 f).map .int,some<|.pu<|.int p,some<|.pu<|.int (i:Int),some<|.pu<|.int S,some<|.pu<|.int<|f 2-(i:Int)*S,a,b]/\ ∀v:Nat,v<j+1-> ¬cW9 p f (i:Int) (v:Int):=λnh'=>⟨_,_,rfl,λv hv=>by
    by_cases h1:v<j
    .exact nj v h1
    .rw[show v=j by lia];exact nh'⟩
   by_cases c1:(j:Int)*W%p=f 0
   .rw[aA c1];refine⟨cmL ad ad,cmL ad ad,ad,?_⟩
    rw[eO _ ad,a1]
    dsimp only
    by_cases c2:((i:Int)*W+(j:Int)*S)%p=f 1
    .rw[aA c2];refine⟨ac,ac,ac,yes (j:Int) (i:Int) W S ad ad ad ad w0 w1 s0 s1<|(dV5 mp (MP.qu p2 ad ad ad ad) (MP.qu p2 w0 w1 s0 s1) p2).mpr ⟨c1.symm,by rw[<-c2,a22],?_,?_⟩⟩
     .rw[<-hW,iL,jH,<-iL];have:(j:Int)+(i:Int)*S+(f 2-(i:Int)*S-(j:Int))=f 2:=ad
      rw[this];exact(eX (mp.rng 2).1 (mp.rng 2).2).symm
     .rw[<-hS,iL,jH,<-iL];have:(i:Int)+(f 3-(i:Int))=f 3:=ad
      rw[this];exact(eX (mp.rng 3).1 (mp.rng 3).2).symm
    .rw[a9 c2];exact step λz=>c2 (by have:=z.2;unfold cW9 at z;rw[hS,hW]at this;exact this)
   .rw[a9 c1];exact step λz=>c1 (by have:=z.1;rw[hS,hW]at this;exact this)
  .rintro ρ ⟨a,b,rfl,nj⟩;refine⟨_,_,_,_,_,rfl,λu v hu hv=> ?_⟩
   by_cases h1:u<i
   .exact nh u v h1 hv
   .rw[show u=i by lia];exact nj v hv
 .rintro ρ ⟨x,y,z,a,b,rfl,nh⟩;dsimp only;unfold yU;left;refine⟨ac,no ?_⟩
  intro v u w s v0 v1 u0 u1 w0 w1 s0 s1 e;obtain⟨h0,h1,h2,h3⟩:=(dV5 mp (MP.qu p2 v0 v1 u0 u1) (MP.qu p2 w0 w1 s0 s1) p2).mp e;obtain⟨v',rfl⟩: ∃v':Nat,v=(v':Int):=⟨v.toNat,ad⟩
  obtain⟨u',rfl⟩: ∃u':Nat,u=(u':Int):=⟨u.toNat,ad⟩
  refine nh u' v' ad ad ?_
  have es:(f 3-(u':Int))%p=s:=c67 s0 s1 (by rw[h3,a22])
  have ew:(f 2-(u':Int)*s-(v':Int))%p=w:=by
   have:=c67 (x:=f 2) (b:=(v':Int)+(u':Int)*s) w0 w1 (by rw[h2,a22 w])
   rw[<-this]
   congr 1
   lia
  unfold cW9;rw[es,ew];exact⟨h0.symm,by rw[h1,a22]⟩
theorem at0 {a b:D}:atI [a,b] 0=some a:=cG (j:=0) rfl
theorem at1 {a b:D}:atI [a,b] 1=some b:=cG (j:=1) rfl
def NoR (p:Int)(F:Nat×(Nat->Int)):Prop:= ∀c:Nat,c<p.toNat->va p F (-(c:Int))≠0
def ltP (x y:(Nat×(Nat->Int))×Nat):Prop:=x.1.1<y.1.1\/(x.1.1=y.1.1/\ltL (rwF (x.1.1+1) x.1.2) (rwF (y.1.1+1) y.1.2)=true)
structure RL (p:Int)(F:Nat×(Nat->Int))(rs:List ((Nat×(Nat->Int))×Nat)):Prop where
 prod: ∀a:Nat×(Nat->Int),MP p a.1 a.2->allT p a rs=tm p a F
 mem: ∀x∈rs,MP p x.1.1 x.1.2/\2<=x.1.1/\x.1.1<=4/\1<=x.2/\x.2<=2/\NoR p x.1/\(x.1.1=4->NoQ p x.1)
 ord:rs.Pairwise ltP
 len:rs.length<=2
theorem dP3 {p:Int}(hp:2<=p){a:Nat×(Nat->Int)}(ha:MP p a.1 a.2):tm p a pZ=a:=by
 rw[aH0 ha.hi (MP.one hp).hi,dA5 ha]
theorem RL.single {p:Int}(mp:MP p F.1 F.2)(h2:2<=F.1)(h4:F.1<=4)(nr:NoR p F)(nq:F.1=4->NoQ p F):RL p F [(F,1)]:=
 ⟨λa _=>rfl,λx hx=>by rw[iH.mp hx];exact⟨mp,h2,h4,aG _,show 1<=2 by decide,nr,nq⟩,zQ _ _,show 1<=2 by decide⟩
theorem row_lt {v u:Int}(h: ¬(v=w/\u=s)):ltL [w,s,1] [v,u,1]=false->ltL [v,u,1] [w,s,1]=true:=by
 unfold ltL
 by_cases c:v=w
 .rw[aA c,aA c.symm];unfold ltL;have:u≠s:=λz=>h ⟨c,z⟩
  rw[a9 this,a9 λz=>this z.symm]
  simp only[aM1,gJ]
  lia
 .rw[a9 c,a9 λz=>c z.symm]
  simp only[aM1,gJ]
  lia
def nE:Φ:=λds Q=> ∃(n:Nat) (f:Nat->Int) (p:Int),ds=[aS<|rwF (n+1) f,.int p]/\n<=4/\Pr p/\MP p n f/\NoR p (n,f)/\ ∀rs,RL p (n,f) rs->Q (.ow<|rs.map aB0)
def sO:US:=(dQ<|gG [] [none,none] 1 (iN<|aU cG7<|aC (aF 2) aR) (dG 0) (λρ Q=>Q true ρ)<|iT<|aC (aF 0)<|aC (uC<|.int 1) aR)
def sP:US:=(aX (iU (fO<|uOp (bV8 false) (uIx (b7 2)<|uC<|.int 0)<|uIx (b7 2)<|uC<|.int 1) (dQ<|n6<|aC (iT<|aC (uIx (b7 2)<|uC<|.int 0)<|aC (uC<|.int 2) aR) aR) fT) sO)
def j9:US:=(aX (iU (fO<|uOp (lQ false) (nL<|b7 2)<|uC<|.int 0) (dQ<|n6<|aC (iT<|aC (aF 0)<|aC (uC<|.int 1) aR) aR) fT) sP)
def sQ:US:=(aX (bV 2<|uIf (fO<|uOp (lQ false) (nL<|b7 0)<|uC<|.int 5) (aU tD<|aC (aF 0)<|aC (aF 1) aR)<|n6 aR) j9)
def nF:US:=(aX (iU (fO<|uOp (lQ false) (nL<|b7 0)<|uC<|.int 1) (dQ<|n6 aR) fT) sQ)
theorem dB0 {p:Int}(pp:Pr p)(mp:MP p F.1 F.2)(h1:F.1=1)(nr:NoR p F):False:=by
 have p2:=pp.lo;have r:=mp.rng 0;refine nr (F.2 0).toNat ad ?_
 unfold va;rw[h1,show(((F.2 0).toNat:Nat):Int)=F.2 0 by lia]
 have t:F.2 1=1:=by have:=mp.top;rw[h1]at this;exact this
 show(0+F.2 0*(-F.2 0)^0+F.2 1*(-F.2 0)^1)%p=0
 rw[t,cZ,jK,cZ];have:0+F.2 0*1+1*(1* -F.2 0)=0:=ad
 rw[this,dX]
theorem aI7: ∀ds Q,nE ds Q->nF {nx:=λ_=>Q (.pu .non),rt:=Q} (init ["f","p","a"] ds):=by
 rintro ds Q ⟨n,f,p,rfl,n4,pp,mp,nr,h⟩;have p2:=pp.lo;unfold nF;simp only[aS];show(aX _ _:US) _ [some<|.pu<|.tup<|(rwF (n+1) f).map .int,some<|.pu<|.int p,none];rw[aZ];left;rw[bC]
 by_cases n0:n=0
 .rw[aA ad]
  subst n0;refine⟨ac,h [] ⟨λa ha=> ?_,ae,.nil,ac⟩⟩
  have e:((0,f):Nat×(Nat->Int))=pZ:=kL rfl (funext λj=>by
   show f j=if j=0 then 1 else 0
   by_cases c:j=0
   .rw[aA c,c];exact mp.top
   .rw[a9 c];exact mp.hi j ad)
  rw[e,dP3 p2 ha];rfl
 rw[a9 ad]
 have n1:n≠1:=λz=>dB0 pp (F:=(n,f)) mp z nr
 have alone:(n=4->NoQ p (n,f))->j9 {nx:=λ_=>Q (.pu .non),rt:=Q} [some<|.pu<|.tup<|(rwF (n+1) f).map .int,some<|.pu<|.int p,some<|.ow []]:=λnq=>by
  unfold j9;rw[aZ];left;rw[aA<|by rfl]
  exact⟨ac,ac,h [((n,f),1)]<|RL.single mp (by show 2<=n;lia) n4 nr nq⟩
 unfold sQ;rw[aZ];left;simp only[uIf,nL,b7,c31,uC,isB,B.d,qD,lQ,uJ,bC]
 by_cases c:n=4
 .subst c;rw[aA<|by rfl]
  refine⟨f,p,rfl,pp,mp,λv u w s v0 v1 u0 u1 w0 w1 s0 s1 e=> ?_,λnq=> ?_⟩
  .have m1:=MP.qu p2 v0 v1 u0 u1;have m2:=MP.qu p2 w0 w1 s0 s1;have k1:NoR p (quF v u):=λc hc=>by have:=nr c hc;rw[e]at this;exact(dA8 m2.hi this).1
   have k2:NoR p (quF w s):=λc hc=>by have:=nr c hc;rw[e]at this;exact(dA8 m2.hi this).2
   dsimp only;simp only[aS];unfold j9;rw[aZ];left;rw[a9 ac]
   unfold sP;rw[aZ];left;rw[at0,at1];dsimp only;refine d94 ?_
   by_cases c:[v,u,(1:Int)]=[w,s,1]
   .have c1:v=w:=by simp at c;exact c.1
    have c2:u=s:=by simp at c;exact c.2
    subst c1 c2;rw[iJ rfl];dsimp only;rw[aA ac]
    refine⟨ac,ac,h [(quF v u,2)] ⟨λa ha=> ?_,λx hx=> ?_,zQ _ _,show 1<=2 by decide⟩⟩
    .show tm p (tm p a<|quF v u) (quF v u)=tm p a (4,f)
     rw[e,aA9 m1.hi]
    .rw[iH.mp hx];exact⟨m1,aG _,show 2<=4 by decide,show 1<=2 by decide,aG _,k1,λz=>by cases z⟩
   .rw[gK c];dsimp only;rw[a9 ac]
    have nc: ¬(v=w/\u=s):=λz=>c (by rw[z.1,z.2])
    unfold sO;rw[j6];have fin2: ∀(v u w s:Int),MP p (quF v u).1 (quF v u).2->MP p (quF w s).1 (quF w s).2->NoR p (quF v u)->NoR p (quF w s)->((4,f):Nat×(Nat->Int))=tm p (quF v u) (quF w s)->ltL [v,u,1] [w,s,1]=true->Q (.ow [.tup [.tup<|[v,u,1].map D.int,.int 1],.tup [.tup<|[w,s,1].map D.int,.int 1]]):=λv u w s m1 m2 k1 k2 e lt=>by
     refine h [(quF v u,1),(quF w s,1)] ⟨λa ha=> ?_,λx hx=> ?_,?_,aG _⟩
     .show tm p (tm p a<|quF v u) (quF w s)=tm p a (4,f)
      rw[e,aA9 m1.hi]
     .rcases bE.mp hx with rfl|hx
      .exact⟨m1,aG _,show 2<=4 by decide,aG _,show 1<=2 by decide,k1,λz=>by cases z⟩
      .rw[iH.mp hx];exact⟨m2,aG _,show 2<=4 by decide,aG _,show 1<=2 by decide,k2,λz=>by cases z⟩
     .refine List.pairwise_cons.mpr ⟨λy hy=> ?_,zQ _ _⟩
      rw[iH.mp hy];exact .inr ⟨rfl,lt⟩
    refine fG (t0:=0) 2 (λk=>(if ltL [w,s,1] [v,u,1]=true then [D.tup<|[w,s,1].map D.int,.tup<|[v,u,1].map D.int]else [.tup<|[v,u,1].map D.int,.tup<|[w,s,1].map D.int]).getD k .non) [some<|.pu<|.tup<|(rwF (4+1) f).map .int,some<|.pu<|.int p,some<|.pu<|.lst [.tup<|[v,u,1].map D.int,.tup<|[w,s,1].map D.int]] ?_ ac (λx l'=>[x,some<|.ow l']) none rfl (λ_ _ _=>rfl) (λ_ _=>cO _) (λ_ _ _ q=>q) (λ_ _ _=>rfl)
     (λk=> .tup [(if ltL [w,s,1] [v,u,1]=true then [D.tup<|[w,s,1].map D.int,.tup<|[v,u,1].map D.int]else [.tup<|[v,u,1].map D.int,.tup<|[w,s,1].map D.int]).getD k .non,.int 1]) ?_ ?_
    .intro Q' q;left;refine⟨v,w,[u,1],[s,1],rfl,?_⟩;cases l:ltL [w,s,1] [v,u,1]
     .rw[l]at q;exact q
     .rw[l]at q;exact q
    .intro k l' Q' hk q;left;exact⟨ac,q⟩
    .cases l:ltL [w,s,1] [v,u,1]
     .exact fin2 v u w s m1 m2 k1 k2 e (row_lt nc l)
     .exact fin2 w s v u m2 m1 k2 k1 (by rw[e,aH0 m1.hi m2.hi]) l
  .exact alone λ_=>nq
 .rw[a9 (by simp;lia)]
  refine⟨ac,?_⟩
  exact alone λz=>absurd z c
structure SP (p:Int)(F:Nat×(Nat->Int))(xs:List ((Nat×(Nat->Int))×Nat)):Prop where
 prod:allT p pZ xs=F
 mem: ∀x∈xs,MP p x.1.1 x.1.2/\1<=x.1.1/\x.1.1<=4/\1<=x.2/\x.2<=4/\(2<=x.1.1->NoR p x.1)/\(x.1.1=4->NoQ p x.1)
 ord:xs.Pairwise ltP
 len:xs.length<=300
theorem SP.of {p:Int}(pp:Pr p){L:Nat×(Nat->Int)}{cs:List (Int×Nat)}{rs:List ((Nat×(Nat->Int))×Nat)}(h4:F.1<=4)(lk:LK p F p.toNat cs L)(rl:RL p L rs):SP p F (cs.map lnP++rs):=by
 have p2:=pp.lo;have p3:=pp.hi;have rg: ∀x∈cs,0<=x.1/\x.1<p:=λx hx=>⟨(lk.mem x hx).1,by have:=(lk.mem x hx).2.1;lia⟩
 have mcs:=cP2 p2 rg;have mA:=MP.allT p2 (cs.map lnP) (MP.one p2) mcs;refine⟨by rw[oY,rl.prod _ mA];exact lk.prod.symm,λx hx=> ?_,?_,?_⟩
 .rcases cP.mp hx with hx|hx
  .obtain⟨y,hy,rfl⟩:=fB.mp hx;have hd:=c66 p (cs.map lnP) pZ (lnP y) hx;have e:F.1=(allT p pZ<|cs.map lnP).1+L.1:=cT Prod.fst lk.prod;have hd':0+1*y.2<=(allT p pZ<|cs.map lnP).1:=hd;refine⟨mcs _ hx,aG _,show 1<=4 by decide,(lk.mem y hy).2.2,show y.2<=4 by lia,λz=> ?_,λz=> ?_⟩
   .have:2<=1:=z
    lia
   .have:1=4:=z
    lia
  .obtain⟨a,b,c,d,e,f,g⟩:=rl.mem x hx;exact⟨a,ad,c,d,ad,λ_=>f,g⟩
 .rw[aN4];refine⟨?_,rl.ord,λx hx y hy=> ?_⟩
  .rw[List.pairwise_map];refine lk.asc.imp λ{a b} h=> .inr ⟨rfl,?_⟩
   show ltL [a.1,1] [b.1,1]=true
   unfold ltL;rw[a9 ad,iJ h]
  .obtain⟨z,hz,rfl⟩:=fB.mp hx;have:=(rl.mem y hy).2.1;exact .inl (show 1<y.1.1 by lia)
 .have a:=lk.len;have b:=rl.len;rw[bY,aO]
  lia
def xF:Φ:=λds Q=> ∃(n:Nat) (g:Nat->Int) (p:Int),ds=[aS<|rwF (n+1) g,.int p]/\n<=4/\p∈prL/\MP p n (md p g)/\ ∀xs,SP p (n,md p g) xs->Q (.ow<|xs.map aB0)
def aB1:US:=(dQ<|uOp iV (aF 2)<|aU nE<|aC (aF 3)<|aC (aF 1) aR)
def aB2:US:=(aX (cF2 (aU vK<|aC (aU jO<|aC (aF 0)<|aC (aF 1) aR)<|aC (aF 1) aR)<|qC<|eK 2<|eK 3 qB) aB1)
def xG:US:=(aX (iU (fO<|uOp (gIn true) (aF 1)<|aU l6 aR) (λ_ _=>False) fT) aB2)
theorem bL2: ∀ds Q,xF ds Q->xG {nx:=λ_=>Q (.pu .non),rt:=Q} (init ["f","p","a","l"] ds):=by
 rintro ds Q ⟨n,g,p,rfl,n4,hp,mp,h⟩;have pp:=aA6 hp;have p2:=pp.lo;unfold xG;show(aX _ _:US) _ [some<|.pu<|aS<|rwF (n+1) g,some<|.pu<|.int p,none,none];rw[aZ];left;refine⟨rfl,p,T_SMALL_PRIMES,rfl,.inr<|.inl rfl,?_⟩;rw[iJ (show p∈T_SMALL_PRIMES by rw[<-bX9];exact hp)]
 dsimp only;rw[a9 ac]
 unfold aB2;rw[aZ];left;refine⟨n+1,g,p,rfl,ad,ad,?_⟩
 left
 have e:gX (md p g) (n+1)=n+1:=tZ (aG _) (λm h1 h2=>ad) (.inr (by rw[cN,mp.top];decide))
 rw[e];refine⟨n,md p g,p,rfl,ad,pp,mp,λcs L lk=> ?_⟩
 left
 refine⟨ac,ac,trivial,?_⟩
 unfold aB1;rw[j6,cI0];left;have hL:L.1<=4:=by
  have e:n=(allT p pZ<|cs.map lnP).1+L.1:=cT Prod.fst lk.prod
  lia
 refine⟨L.1,L.2,p,rfl,hL,pp,lk.mp,lk.nr,λrs rl=> ?_⟩
 have sp:=SP.of pp (F:=(n,md p g)) n4 lk rl;have e2:(cs.map λx=>aB0 (lnP x))++rs.map aB0=(cs.map lnP++rs).map aB0:=by rw[cJ,jJ];rfl
 left
 rw[e2];refine⟨?_,h _ sp⟩;rw[<-bY,e2,aO];exact aM sp.len ac
noncomputable def stB (xs:List ((Nat×(Nat->Int))×Nat)):Bool:=match xs with
 | [x]=>decide (x.2=1)
 | _=>false
theorem bR5 {p:Int}(hp:2<=p){g a h:Nat×(Nat->Int)}(ma:MP p a.1 a.2)(mh:MP p h.1 h.2): ∀k,powT p (tm p g a) h k=tm p g (powT p a h k)
 | 0=>rfl
 | k+1=>by
  show tm p (powT p (tm p g a) h k) h=tm p g (tm p (powT p a h k) h)
  rw[bR5 hp ma mh k,aA9 (MP.powT hp ma mh k).hi]
theorem b11 {p:Int}(hp:2<=p){g:Nat×(Nat->Int)}: ∀(l:List ((Nat×(Nat->Int))×Nat)) {a:Nat×(Nat->Int)},MP p a.1 a.2->(∀x∈l,MP p x.1.1 x.1.2)->allT p (tm p g a) l=tm p g (allT p a l)
 | [],a,_,_=>rfl
 | x::l,a,ma,h=>by
  show allT p (powT p (tm p g a) x.1 x.2) l=tm p g (allT p (powT p a x.1 x.2) l)
  rw[bR5 hp ma<|h x<|.head _,b11 hp l (MP.powT hp ma (h x<|.head _) x.2) λy hy=>h y (.tail _ hy)]
theorem mp_two {p:Int}(mp:MP p F.1 F.2)(h2:F.1=2):F=quF (F.2 0) (F.2 1):=by
 refine kL h2 (funext λj=> ?_)
 show F.2 j=if j=0 then F.2 0 else if j=1 then F.2 1 else if j=2 then 1 else 0
 by_cases c0:j=0
 .rw[aA c0,c0]
 .by_cases c1:j=1
  .rw[a9 c0,aA c1,c1]
  .by_cases c2:j=2
   .rw[a9 c0,a9 c1,aA c2,c2];have:=mp.top;rw[h2]at this;exact this
   .rw[a9 c0,a9 c1,a9 c2];exact mp.hi j ad
theorem c68 {t1:Nat}(n:Nat)(it i1 i2:Nat->D)(hit: ∀i,i<n->it i= .tup [i1 i,i2 i])(ρ1:Ev)(hui: ∀Q:Nat->(Nat->D)->Ev->Prop,Q n it ρ1->ui ρ Q)(hn:n<=1000000)
  (G:Option B->Option B->List D->Ev) (x0 y0:Option B) (h0:tP (a94 ρ1 js) cap last=G x0 y0 []) (h1: ∀x y l b c,((G x y l).set t0<|some b).set t1 (some c)=G (some b) (some c) l) (h1': ∀x y l,t0< (G x y l).length/\t1< (G x y l).length)
  (h2: ∀x y l (Q:List D->Prop),Q l->qE (G x y l) last Q) (h3: ∀x y l l',(G x y l).set last (some<|.ow l')=G x y l')
  (f:Nat->D) (hte: ∀i l (Q':B->Ev->Prop),i<n->Q' (.pu<|f i) (G (some<|.pu<|i1 i) (some<|.pu<|i2 i) l)->te (G (some<|.pu<|i1 i) (some<|.pu<|i2 i) l) Q') (hq:Q (.ow<|(List.range n).map f) (a94 ρ1 js)) :
  gG js cap last ui (qC<|eK t0<|eK t1 qB) (λρ Q=>Q true ρ) te ρ Q:=by
 refine hui _ ⟨λi ρ'=> ∃x y,ρ'=G x y ((List.range i).map f),⟨x0,y0,h0⟩,?_,?_⟩
 .rintro i ρ' hi ⟨x,y,rfl⟩;rw[hit i hi];refine⟨(h1' _ _ _).1,by rw[eZ];exact(h1' _ _ _).2,rfl,?_⟩
  rw[h1];dsimp only;rw[aA rfl];refine hte i _ _ hi (h2 _ _ _ _ ⟨?_,some<|.pu<|i1 i,some<|.pu<|i2 i,?_⟩)
  .rw[aO,uQ];exact bG hi (aM hn ac)
  .rw[h3,cB,cJ];rfl
 .rintro ρ' ⟨x,y,rfl⟩;exact h2 _ _ _ _ hq
inductive bE5 (c:Nat->Bool) (R:Nat->D->Prop):Nat->List D->Prop
 | nil:bE5 c R 0 []
 | yes {i:Nat} {l:List D} {d:D} (h:bE5 c R i l) (hc:c i=true) (hd:R i d):bE5 c R (i+1) (l++[d])
 | no {i:Nat} {l:List D} (h:bE5 c R i l) (hc:c i=false):bE5 c R (i+1) l
theorem bE5.fn {c:Nat->Bool}{R:Nat->D->Prop}{l:List D}(h:bE5 c R n l): ∃g:Nat->D,(∀i,i<n->c i=true->R i (g i))/\l=((List.range n).filter c).map g:=by
 induction h with
 | nil=>exact⟨λ_=> .non,λi hi=>absurd hi (kH _),rfl⟩
 | @yes i l d h hc hd ih=>
  obtain⟨g,g1,g2⟩:=ih;refine⟨λj=>if j=i then d else g j,λj hj cj=> ?_,?_⟩
  .by_cases e:j=i
   .show R j (if j=i then d else g j)
    rw[aA e,e];exact hd
   .show R j (if j=i then d else g j)
    rw[a9 e];exact g1 j ad cj
  .rw[cB,List.filter_append,cJ,g2]
   congr 1
   .refine kE λj hj=> ?_
    have:=dN.mp (r6.mp hj).1;rw[a9 ad]
   .simp[hc]
 | @no i l h hc ih=>
  obtain⟨g,g1,g2⟩:=ih;refine⟨g,λj hj cj=> ?_,?_⟩
  .by_cases e:j=i
   .rw[e,hc]at cj;cases cj
   .exact g1 j ad cj
  .rw[cB,List.filter_append,cJ,g2];simp[hc]
theorem bE5.len {c:Nat->Bool}{R:Nat->D->Prop}{l:List D}(h:bE5 c R n l):l.length<=n:=by
 induction h with
 | nil=>exact aG _
 | yes h hc hd ih=>rw[bY];exact Nat.succ_le_succ ih
 | no h hc ih=>exact aO6 ih
theorem cX0 {tt:UT}(n:Nat)(it:Nat->D)(ρ1:Ev)(hui: ∀Q:Nat->(Nat->D)->Ev->Prop,Q n it ρ1->ui ρ Q)(hn:n<=1000)
  (G:Option B->List D->Ev) (x0:Option B) (h0:tP (a94 ρ1 js) cap last=G x0 []) (h1: ∀x l b,(G x l).set t0 (some b)=G (some b) l) (h1': ∀x l,t0< (G x l).length) (h2: ∀x l (Q:List D->Prop),Q l->qE (G x l) last Q) (h3: ∀x l l',(G x l).set last (some<|.ow l')=G x l')
  (c:Nat->Bool) (R:Nat->D->Prop) (htt: ∀i l (Q':Bool->Ev->Prop),i<n->Q' (c i) (G (some<|.pu<|it i) l)->tt (G (some<|.pu<|it i) l) Q')
  (hte: ∀i l (Q':B->Ev->Prop),i<n->c i=true->(∀d,R i d->Q' (.pu d) (G (some<|.pu<|it i) l))->te (G (some<|.pu<|it i) l) Q') (hq: ∀l:List D,bE5 c R n l->Q (.ow l) (a94 ρ1 js)) :
  gG js cap last ui (dG t0) tt te ρ Q:=by
 refine hui _ ⟨λi ρ'=> ∃x l,bE5 c R i l/\ρ'=G x l,⟨x0,[],.nil,h0⟩,?_,?_⟩
 .rintro i ρ' hi ⟨x,l,hl,rfl⟩;refine⟨h1' _ _,?_⟩;rw[h1];dsimp only;refine htt i _ _ hi ?_
  by_cases hc:c i=true
  .rw[aA hc];refine hte i _ _ hi hc λd hd=>h2 _ _ _ ⟨?_,some<|.pu<|it i,l++[d],.yes hl hc hd,?_⟩
   .exact qU hl.len (bG hi<|aM hn ac)
   .rw[h3];rfl
  .rw[a9 hc];exact⟨some<|.pu<|it i,l,.no hl<|by simpa using hc,rfl⟩
 .rintro ρ' ⟨x,l,hl,rfl⟩;exact h2 _ _ _ (hq l hl)
noncomputable def a75 (n:Nat)(f:Nat->Int)(g:Nat×(Nat->Int)):List Int:=rwF (gX (divL g.2 g.1 (n+1-g.1) f)<|n+1) (divL g.2 g.1 (n+1-g.1) f)
noncomputable def ptD (n:Nat)(f:Nat->Int)(x:(Nat×(Nat->Int))×Nat):D:= .tup [aS<|rwF (x.1.1+1) x.1.2,.int (x.2:Int),aS<|a75 n f x.1]
def xH:Φ:=λds Q=> ∃(n:Nat) (f:Nat->Int) (p:Int),ds=[aS<|rwF (n+1) f,.int p]/\n<=4/\p∈prL/\MP p n (md p f)/\(∀j,(f j).natAbs<=2^9)/\ ∀xs,SP p (n,md p f) xs->Q (.ow<|xs.map<|ptD n f)
def xI:US:=(dQ<|gG [0] [none,none,some 0,none] 3 (iN<|aU xF<|aC (aF 0)<|aC (aF 1) aR) (qC<|eK 0<|eK 1 qB) (λρ Q=>Q true ρ)<|iT<|aC (aF 0)<|aC (aF 1)<|aC (uIx (uV<|aU gT<|aC (aF 2)<|aC (aF 0) aR)<|uC<|.int 1) aR)
theorem cP3 {p:Int}(pp:Pr p)(n4:n<=4)(fb: ∀j,(f j).natAbs<=2^9){g:Nat×(Nat->Int)}(mg:MP p g.1 g.2)(g4:g.1<=4):d96 (n+1) g.1 9 8 f g.2:=
 ⟨ad,ad,mg.top,mg.hi,λm _=>fb m,λj=>dA9 pp mg j,ad,ac⟩
theorem bL3: ∀ds Q,xH ds Q->xI {nx:=λ_=>Q (.pu .non),rt:=Q} (init ["f","p"] ds):=by
 rintro ds Q ⟨n,f,p,rfl,n4,hp,mp,fb,h⟩;have pp:=aA6 hp;unfold xI;show(dQ _:US) _ [some<|.pu<|aS<|rwF (n+1) f,some<|.pu<|.int p];rw[j6]
 have key: ∀xs,SP p (n,md p f) xs->gG [0] [none,none,some 0,none] 3 (λρ Q=>Q (xs.map aB0).length (λi=>(xs.map aB0).getD i .non) ρ) (qC<|eK 0<|eK 1 qB) (λρ Q=>Q true ρ) (iT<|aC (aF 0)<|aC (aF 1)<|aC (uIx (uV<|aU gT<|aC (aF 2)<|aC (aF 0) aR)<|uC<|.int 1) aR) [some<|.pu<|aS<|rwF (n+1) f,some<|.pu<|.int p] λb _=>Q b:=by
  intro xs sp
  refine c68 (t0:=0) (t1:=1) xs.length (λi=>(xs.map aB0).getD i .non) (λi=>aS (rwF ((xs.getD i (pZ,0)).1.1+1) (xs.getD i (pZ,0)).1.2)) (λi=> .int ((xs.getD i (pZ,0)).2:Int)) (λi hi=> ?_) [some<|.pu<|aS<|rwF (n+1) f,some<|.pu<|.int p] (λQ' q=> ?_) (aM sp.len ac) (λx y l=>[x,y,some<|.pu<|aS<|rwF (n+1) f,some<|.ow l]) none none rfl (λ_ _ _ _ _=>rfl) (λ_ _ _=>⟨ae,ae⟩) (λ_ _ _ _ q=>q) (λ_ _ _ _=>rfl) (λi=>ptD n f (xs.getD i (pZ,0))) ?_ ?_
  .rw[aQ,bS,aQ,aV hi];rfl
  .rw[aO];exact q
  .intro i l Q' hi q;have hm:xs.getD i (pZ,0)∈xs:=by
    rw[aQ,aV hi];exact eJ hi
   obtain⟨mx,x1,x4,_⟩:=sp.mem _ hm;generalize xs.getD i (pZ,0)=x at *;left;refine⟨n+1,x.1.1,9,8,f,x.1.2,rfl,cP3 pp n4 fb mx x4,?_⟩;left;rw[at1];exact⟨ac,q⟩
  .have e:(List.range xs.length).map (λi=>ptD n f (xs.getD i (pZ,0)))=xs.map (ptD n f):=by
    apply lK
    .simp
    .intro i h1 h2;simp at h1;simp[aQ,h1]
   rw[e];exact h xs sp
 exact⟨n,f,p,rfl,n4,hp,mp,λxs sp=>key xs sp⟩
structure RF (n:Nat)(f:Nat->Int):Prop where
 n1:1<=n
 n4:n<=4
 top:f n=1
 hi: ∀j,n<j->f j=0
 fb: ∀j,(f j).natAbs<=2^9
theorem RF.mp (h:RF n f){p:Int}(hp:2<=p):MP p n (md p f):=by
 refine⟨?_,λj hj=> ?_,λj=>⟨cA _ ad,bZ _ ad⟩⟩
 .show f n%p=1
  rw[h.top];exact eX ac ad
 .show f j%p=0
  rw[h.hi j hj,dX]
noncomputable def dP4 (n:Nat)(f:Nat->Int)(xf:Int->List ((Nat×(Nat->Int))×Nat))(p:Int):D:= .tup [.int p,.lst<|(xf p).map<|ptD n f]
noncomputable def sqB (size p:Int):Bool:=decide (size%(p*p)=0)
noncomputable def dB1 (n:Nat)(f:Nat->Int)(size:Int)(xf:Int->List ((Nat×(Nat->Int))×Nat)):List D:=(prL.filter<|sqB size).map (dP4 n f xf)
def SPs (n:Nat)(f:Nat->Int)(size:Int)(xf:Int->List ((Nat×(Nat->Int))×Nat)):Prop:= ∀p∈prL,sqB size p=true->SP p (n,md p f) (xf p)
def vM:Φ:=λds Q=> ∃(n:Nat) (f:Nat->Int) (size:Int),ds=[aS<|rwF (n+1) f,.int size]/\RF n f/\ ∀xf,SPs n f size xf->Q (.ow<|dB1 n f size xf)
def vN:US:=(dQ<|gG [0,1] [none,some 0,some 1,none] 3 (iN<|aU l6 aR) (dG 0) (fO<|uOp (lQ false) (uOp pX (aF 2)<|uOp fS (aF 0)<|aF 0)<|uC<|.int 0)<|iT<|aC (aF 0)<|aC (aU xH<|aC (aF 1)<|aC (aF 0) aR) aR)
theorem bE6: ∀ds Q,vM ds Q->vN {nx:=λ_=>Q (.pu .non),rt:=Q} (init ["f","s"] ds):=by
 rintro ds Q ⟨n,f,size,rfl,rf,h⟩;unfold vN;show(dQ _:US) _ [some<|.pu<|aS<|rwF (n+1) f,some<|.pu<|.int size];rw[j6];have et: ∀i,i<46->(T_SMALL_PRIMES.map D.int).getD i .non= .int (T_SMALL_PRIMES.getD i 0):=λi hi=>by
  have hi':i<T_SMALL_PRIMES.length:=by rw[bE2];exact hi
  rw[aQ,bS,aQ,aV hi'];rfl
 have mt: ∀i,i<46->T_SMALL_PRIMES.getD i 0∈prL:=λi hi=>by
  have hi':i<T_SMALL_PRIMES.length:=by rw[bE2];exact hi
  rw[bX9,aQ,aV hi'];exact eJ hi'
 refine cX0 (t0:=0) 46 (λi=>(T_SMALL_PRIMES.map D.int).getD i .non) [some<|.pu<|aS<|rwF (n+1) f,some<|.pu<|.int size] (λQ' q=> ?_) ac (λx l=>[x,some<|.pu<|aS<|rwF (n+1) f,some<|.pu<|.int size,some<|.ow l]) none rfl (λ_ _ _=>rfl) (λ_ _=>cO _) (λ_ _ _ q=>q) (λ_ _ _=>rfl)
  (λi=>sqB size (T_SMALL_PRIMES.getD i 0)) (λi d=> ∃xs,SP (T_SMALL_PRIMES.getD i 0) (n,md (T_SMALL_PRIMES.getD i 0) f) xs/\d= .tup [.int<|T_SMALL_PRIMES.getD i 0,.lst<|xs.map<|ptD n f]) ?_ ?_ (λl hl=> ?_)
 .exact⟨rfl,q⟩
 .intro i l Q' hi q;obtain⟨p2,p3⟩:=tp_ok _ (bX9▸mt i hi);rw[et i hi]at q⊢;unfold sqB at q;generalize T_SMALL_PRIMES.getD i 0=p at *;have pq:0<p*p:=kK ad ad
  left
  refine⟨cmL ad ad,ad,?_⟩
  rw[eO _ pq];exact q
 .intro i l Q' hi hc q;have hm:=mt i hi;have pp:=aA6 hm;rw[et i hi]at q⊢;generalize T_SMALL_PRIMES.getD i 0=p at *;left;refine⟨n,f,p,rfl,rf.n4,hm,rf.mp pp.lo,rf.fb,λxs sp=> ?_⟩
  left
  exact⟨ac,q _ ⟨xs,sp,rfl⟩⟩
 .obtain⟨g,g1,g2⟩:=hl.fn;have ex: ∀p:Int,∃xs,∀i,i<46->T_SMALL_PRIMES.getD i 0=p->sqB size p=true->SP p (n,md p f) xs/\g i= .tup [.int p,.lst<|xs.map<|ptD n f]:=λp=>by
   by_cases c: ∃i,i<46/\T_SMALL_PRIMES.getD i 0=p/\sqB size p=true
   .obtain⟨i,hi,e,hc⟩:=c;obtain⟨xs,sp,eg⟩:=g1 i hi (by rw[e];exact hc)
    rw[e]at sp eg;refine⟨xs,λj hj e' _=> ?_⟩
    have:j=i:=by
     have hj':j<T_SMALL_PRIMES.length:=by rw[bE2];exact hj
     have hi':i<T_SMALL_PRIMES.length:=by rw[bE2];exact hi
     rw[aQ,aV hj']at e';rw[aQ,aV hi']at e;have e1:T_SMALL_PRIMES[j]=T_SMALL_PRIMES[i]:=gL (by
      have a1:(some T_SMALL_PRIMES[j]).getD 0=p:=e';have a2:(some T_SMALL_PRIMES[i]).getD 0=p:=e;exact cT some (a1.trans a2.symm))
     rcases Nat.lt_trichotomy j i with z|z|z
     .have:=List.pairwise_iff_getElem.mp d98 j i hj' hi' z
      lia
     .exact z
     .have:=List.pairwise_iff_getElem.mp d98 i j hi' hj' z
      lia
    rw[this];exact⟨sp,eg⟩
   .exact⟨[],λi hi e hc=>absurd ⟨i,hi,e,hc⟩ c⟩
  obtain⟨X,hX⟩: ∃X:Int->List ((Nat×(Nat->Int))×Nat),∀p i,i<46->T_SMALL_PRIMES.getD i 0=p->sqB size p=true->SP p (n,md p f) (X p)/\g i= .tup [.int p,.lst<|(X p).map<|ptD n f]:=⟨λp=>(ex p).choose,λp=>(ex p).choose_spec⟩
  have key:=h X (λp hp hs=>by
   rw[bX9]at hp;obtain⟨i,hi,e⟩:=zY hp;have hi':i<46:=by rw[<-bE2];exact hi
   refine(hX p i hi' ?_ hs).1
   rw[aQ,aV hi];exact e)
  have el:l=dB1 n f size X:=by
   have e0:prL=(List.range 46).map λi=>T_SMALL_PRIMES.getD i 0:=af
   have e1:prL.filter (sqB size)=((List.range 46).filter λi=>sqB size (T_SMALL_PRIMES.getD i 0)).map λi=>T_SMALL_PRIMES.getD i 0:=by
    rw[e0,List.filter_map];rfl
   rw[g2];unfold dB1;rw[e1,jJ];refine kE λi hi=> ?_
   obtain⟨h1,h2⟩:=r6.mp hi;exact(hX (T_SMALL_PRIMES.getD i 0) i (dN.mp h1) rfl h2).2
  rw[el];exact key
theorem cX1 {p:Int}(hp:2<=p)(sp:SP p F xs){x:(Nat×(Nat->Int))×Nat}(hx:x∈xs)(h2:2<=x.2): ∃R:Nat×(Nat->Int),MP p R.1 R.2/\F=tm p (tm p x.1 x.1) R:=by
 obtain⟨l,m,rfl⟩:=List.append_of_mem hx;obtain⟨k,hk⟩: ∃k,x.2=k+2:=⟨x.2-2,aa⟩
 have mx:=(sp.mem x hx).1;have ml: ∀y∈l,MP p y.1.1 y.1.2:=λy hy=>(sp.mem y<|uL _ hy).1
 have mm: ∀y∈m,MP p y.1.1 y.1.2:=λy hy=>(sp.mem y<|dM _<|.tail _ hy).1
 have mA:=MP.allT hp l (MP.one hp) ml;have mP:=MP.powT hp mA mx k;have mxx:=MP.tm hp mx mx;refine⟨allT p (powT p (allT p pZ l) x.1 k) m,MP.allT hp m mP mm,?_⟩;rw[<-sp.prod,oY];show allT p (powT p (allT p pZ l) x.1 x.2) m=_;rw[hk];show allT p (tm p (tm p (powT p (allT p pZ l) x.1 k) x.1) x.1) m=_;rw[<-aA9 mx.hi,aH0 mP.hi mxx.hi,b11 hp m mP mm]
structure dP5 (n:Nat)(f:Nat->Int)(size p:Int)(g:Nat×(Nat->Int)):Prop where
 pr:p∈prL
 sq:size%(p*p)=0
 mg:MP p g.1 g.2
 g1:1<=g.1
 g4:g.1<=4
 tw: ∃R:Nat×(Nat->Int),MP p R.1 R.2/\(n,md p f)=tm p (tm p g g) R
 all: ∀c∈a75 n f g,c%(p*p)=0
noncomputable def dP6 (n:Nat)(f:Nat->Int)(g:Nat×(Nat->Int)):List Int:=rwF (gX (divQ g.2 g.1 (n+1-g.1) f)<|n+1-g.1) (divQ g.2 g.1 (n+1-g.1) f)
def bL4 (n:Nat)(f:Nat->Int)(p:Int)(xs:List ((Nat×(Nat->Int))×Nat)):Prop:= ∀x∈xs,2<=x.2-> ∃c∈a75 n f x.1,c%(p*p)≠0
def tF:Φ:=λds Q=> ∃(n:Nat) (f:Nat->Int) (size:Int) (xf:Int->List ((Nat×(Nat->Int))×Nat)),ds=[aS<|rwF (n+1) f,.lst<|dB1 n f size xf]/\RF n f/\SPs n f size xf/\((∀p∈prL,sqB size p=true->bL4 n f p (xf p))->Q (.pu .non))/\ ∀p g,dP5 n f size p g->(¬ ∀p∈prL,sqB size p=true->bL4 n f p (xf p))->Q (.pu<|.tup [.int p,aS<|dP6 n f g])
def b12:US:=(dQ<|uC .non)
def tG:US:=(aX (nA (iN<|aF 1) (qC<|eK 2<|eK 3 qB)<|nA (iN<|aF 3) (qC<|eK 4<|eK 5<|eK 6 qB)<|iU (cU4 (fO<|uOp (yP λi j=>decide (j<=i)) (aF 5)<|uC<|.int 2)<|fO<|aU cG1<|aC (gG [2] [none,some 2,none] 2 (iN<|aF 6) (dG 0) (λρ Q=>Q true ρ)<|uOp (lQ false) (uOp pX (aF 0)<|uOp fS (aF 1)<|aF 1)<|uC<|.int 0) aR) (dQ<|iT<|aC (aF 2)<|aC (uIx (uV<|aU gT<|aC (aF 0)<|aC (aF 4) aR)<|uC<|.int 0) aR) fT) b12)
theorem b70: ∀ds Q,tF ds Q->tG {nx:=λ_=>Q (.pu .non),rt:=Q} (init ["f","r","p","a","g","o","c"] ds):=by
 rintro ds Q ⟨n,f,size,xf,rfl,rf,hP,h0,h1⟩;have hm0: ∀p∈prL.filter (sqB size),p∈prL/\sqB size p=true:=λp hp=>r6.mp hp
 have hm1: ∀p,p∈prL->sqB size p=true->p∈prL.filter (sqB size):=λp h1 h2=>r6.mpr ⟨h1,h2⟩
 unfold dB1;generalize prL.filter (sqB size)=ps' at *;generalize el:ps'.map (dP4 n f xf)=l at *;have ll:l.length=ps'.length:=by rw[<-el,aO]
 unfold tG;show(aX _ _:US) _ [some<|.pu<|aS<|rwF (n+1) f,some<|.pu<|.lst l,none,none,none,none,none];rw[aZ];refine cF l.length (λi=>l.getD i .non) [some<|.pu<|aS<|rwF (n+1) f,some<|.pu<|.lst l,none,none,none,none,none] (λQ' q=>q)
  (λi ρ=>(∃a b c d e,ρ=[some<|.pu<|aS<|rwF (n+1) f,some<|.pu<|.lst l,a,b,c,d,e])/\ ∀j,j<i->bL4 n f (ps'.getD j 0) (xf<|ps'.getD j 0)) ⟨⟨none,none,none,none,none,rfl⟩,λj hj=>absurd hj (kH _)⟩ ?_ ?_
 .rintro i ρ hi ⟨⟨a,b,c,d,e,rfl⟩,fi⟩;have hi':i<ps'.length:=by rw[<-ll];exact hi
  have e1:l.getD i .non=dP4 n f xf (ps'.getD i 0):=by
   rw[<-el,aQ,bS,aQ,aV hi'];rfl
  have hmp:ps'.getD i 0∈ps':=by
   rw[aQ,aV hi'];exact eJ hi'
  obtain⟨hp,hs0⟩:=hm0 _ hmp;have sp:=hP _ hp hs0;have hs:size%(ps'.getD i 0*ps'.getD i 0)=0:=a01 hs0;have go:bL4 n f (ps'.getD i 0) (xf<|ps'.getD i 0)-> ∀j,j<i+1->bL4 n f (ps'.getD j 0) (xf<|ps'.getD j 0):=λz j hj=>by
   by_cases c:j=i
   .rw[c];exact z
   .exact fi j ad
  rw[e1];unfold dP4;generalize ps'.getD i 0=p at *;generalize exs:xf p=xs at *;have pp:=aA6 hp;refine⟨ae,ae,rfl,?_⟩
  show(nA _ _ _:US) _ [some<|.pu<|aS<|rwF (n+1) f,some<|.pu<|.lst l,some<|.pu<|.int p,some<|.pu<|.lst<|xs.map<|ptD n f,c,d,e]
  refine cF xs.length (λi=>(xs.map<|ptD n f).getD i .non) [some<|.pu<|aS<|rwF (n+1) f,some<|.pu<|.lst l,some<|.pu<|.int p,some<|.pu<|.lst<|xs.map<|ptD n f,c,d,e] (λQ' q=> ?_)
   (λj ρ=>(∃c d e,ρ=[some<|.pu<|aS<|rwF (n+1) f,some<|.pu<|.lst l,some<|.pu<|.int p,some<|.pu<|.lst<|xs.map<|ptD n f,c,d,e])/\bL4 n f p (xs.take j)) ⟨⟨c,d,e,rfl⟩,λx hx=>by simp at hx⟩ ?_ ?_
  .left
   rw[aO];exact q
  .rintro j ρ hj ⟨⟨c,d,e,rfl⟩,fj⟩;have nf:(2<=xs[j].2-> ∃c∈a75 n f xs[j].1,c%(p*p)≠0)->bL4 n f p (xs.take<|j+1):=λz x hx=>by
    rw[List.take_succ,aV hj]at hx;rcases cP.mp hx with hx|hx
    .exact fj x hx
    .have:x=xs[j]:=by simpa using hx
     rw[this];exact z
   have hx:xs[j]∈xs:=eJ hj;have e2:(xs.map<|ptD n f).getD j .non=ptD n f xs[j]:=by
    rw[aQ,bS,aV hj];rfl
   rw[e2];obtain⟨mx,x1,x4,_⟩:=sp.mem _ hx;have tw:2<=xs[j].2->_:=λh2=>cX1 pp.lo sp hx h2
   generalize xs[j]=x at *;refine⟨ae,ae,ae,rfl,?_⟩
   show(iU _ _ _:US) _ [some<|.pu<|aS<|rwF (n+1) f,some<|.pu<|.lst l,some<|.pu<|.int p,some<|.pu<|.lst<|xs.map<|ptD n f,some<|.pu<|aS<|rwF (x.1.1+1) x.1.2,some<|.pu<|.int (x.2:Int),some<|.pu<|aS<|a75 n f x.1]
   simp only[aS];left
   by_cases c2:(2:Int)<=(x.2:Int)
   .rw[aA c2];have p2:=pp.lo;have p3:=pp.hi;have pq:0<p*p:=kK ad ad
    generalize hr:a75 n f x.1=r at *;have rl:r.length<=1000:=by
     rw[<-hr];unfold a75;rw[aG5];have:=a40 (divL x.1.2 x.1.1 (n+1-x.1.1) f) (n+1);have:=rf.n4
     lia
    refine fG (t0:=0) r.length (λk=>(r.map D.int).getD k .non) [some<|.pu<|.tup<|(rwF (n+1) f).map .int,some<|.pu<|.lst l,some<|.pu<|.int p,some<|.pu<|.lst<|xs.map<|ptD n f,some<|.pu<|.tup<|(rwF (x.1.1+1) x.1.2).map .int,some<|.pu<|.int (x.2:Int),some<|.pu<|.tup<|r.map .int] (λQ' q=> ?_) ad (λx l'=>[x,some<|.pu<|.int p,some<|.ow l']) none rfl (λ_ _ _=>rfl) (λ_ _=>cO _) (λ_ _ _ q=>q) (λ_ _ _=>rfl) (λk=> .bl (decide (r.getD k 0%(p*p)=0))) ?_ ?_
    .left
     rw[aO];exact q
    .intro k l' Q' hk q;have e3:(r.map D.int).getD k .non= .int (r.getD k 0):=by
      rw[aQ,bS,aQ,aV hk];rfl
     rw[e3]at q⊢;left;refine⟨cmL ad ad,ad,?_⟩
     rw[eO _ pq];exact q
    .have e4:(List.range r.length).map (λk=>D.bl (decide (r.getD k 0%(p*p)=0)))=((List.range r.length).map λk=>decide (r.getD k 0%(p*p)=0)).map D.bl:=by rw[jJ];rfl
     rw[e4];dsimp only;rw[a30];dsimp only
     by_cases c3:(((List.range r.length).map λk=>decide (r.getD k 0%(p*p)=0)).all id)=true
     .rw[aA c3];left;refine⟨n+1,x.1.1,9,8,f,x.1.2,rfl,cP3 pp rf.n4 rf.fb mx x4,?_⟩;left;rw[at0];have al: ∀c∈a75 n f x.1,c%(p*p)=0:=λc hc=>by
       rw[hr]at hc;obtain⟨k,hk,rfl⟩:=List.mem_iff_getElem.mp hc;rw[eI]at c3;have:=c3 (decide (r.getD k 0%(p*p)=0)) (fB.mpr ⟨k,dN.mpr hk,rfl⟩);have:=a01 (show decide (r.getD k 0%(p*p)=0)=true from this)
       rw[aQ,aV hk]at this;exact this
      refine⟨ac,h1 p x.1 ⟨hp,hs,mx,x1,x4,tw ad,al⟩ λall=> ?_⟩
      have:=all p hp hs0;rw[exs]at this;obtain⟨c,hc,ne⟩:=this x hx ad
      exact ne (al c hc)
     .rw[a9 c3];refine⟨⟨_,_,_,rfl⟩,nf λ_=> ?_⟩
      refine kB λno=>c3 ?_
      rw[eI];intro z hz;obtain⟨k,hk,rfl⟩:=fB.mp hz;have hk':=dN.mp hk;refine iJ (kB λne=>no ⟨r.getD k 0,?_,ne⟩)
      rw[aQ,aV hk'];exact eJ hk'
   .rw[a9 c2];exact⟨⟨_,_,_,rfl⟩,nf λz=>absurd z ad⟩
  .rintro ρ ⟨⟨c,d,e,rfl⟩,fj⟩;rw[zR<|aG _]at fj;exact⟨⟨_,_,_,_,_,rfl⟩,go fj⟩
 .rintro ρ ⟨⟨a,b,c,d,e,rfl⟩,fi⟩;refine h0 λp hp hs=> ?_
  obtain⟨j,hj,e⟩:=zY (hm1 p hp hs);have:=fi j (by rw[ll];exact hj)
  rw[aQ,aV hj]at this;rw[<-e];exact this
theorem amgm (h1:g+(q+1)<=2*(b+1))(hg:0<=g)(hq:0<=q)(h2:m<g*(q+1)):m< (b+1)*(b+1):=by
 have a1:0<=(g-(q+1))*(g-(q+1)):=by
  rcases le_total 0 (g-(q+1))with h|h
  .exact lM h h
  .exact Int.mul_nonneg_of_nonpos_of_nonpos h h
 have a2:(g+(q+1))*(g+(q+1))<=(2*(b+1))*(2*(b+1)):=rA h1 h1 ad ad
 grind
theorem cI4 (hg:1<=g)(h:g<=(g+m/g)/2):g*g<=m:=by
 have h1:g<=m/g:=ad
 have h2:g*(m/g)<=m:=by
  have:=iG m g;have:=cA m (show g≠0 by lia)
  lia
 exact Int.le_trans (l7 h1 ad) h2
theorem c69 (hg:1<=g)(hm:0<=m):m< ((g+m/g)/2+1)*((g+m/g)/2+1):=by
 have e:=iG m g;have l:=bZ m (show 0<g by lia)
 have q0:0<=m/g:=Int.ediv_nonneg hm ad
 refine amgm (g:=g) (q:=m/g) ad ad q0 ?_
 rw[rE,fX]
 lia
def b13:Φ:=λds Q=> ∃m:Int,ds=[.int m]/\0<=m/\Sm m/\ ∀r:Int,0<=r->r*r<=m->m< (r+1)*(r+1)->Q (.pu<|.int r)
def b14:US:=(aX (bV 1<|aF 0)<|aX (bV 2<|uOp aI5 (uOp iV (aF 0)<|uC<|.int 1)<|uC<|.int 2)<|aX (aZ5 (fO<|uOp (yP λi j=>decide (i<j)) (aF 2)<|aF 1)<|aX (bV 1<|aF 2)<|bV 2<|uOp aI5 (uOp iV (aF 1)<|uOp aI5 (aF 0)<|aF 1)<|uC<|.int 2)<|sJ 1)
theorem Sm.le {i:Int}(h:Sm m)(h0:0<=i)(h1:i<=m):Sm i:=by
 unfold Sm at h⊢;exact qU ad h
theorem cX2: ∀ds Q,b13 ds Q->b14 {nx:=λ_=>Q (.pu .non),rt:=Q} (init ["m","g","b"] ds):=by
 rintro ds Q ⟨m,rfl,m0,ms,h⟩;unfold b14;show(aX _ _:US) _ [some<|.pu<|.int m,none,none];left;rw[kO _ ac]
 refine⟨⟨ac,c57 ac ac⟩,?_⟩
 refine⟨λn ρ=> ∃g b:Int,ρ=[some<|.pu<|.int m,some<|.pu<|.int g,some<|.pu<|.int b]/\n=g.toNat/\0<=g/\g<=m/\m< (g+1)*(g+1)/\((m=0/\b=0)\/(1<=g/\b=(g+m/g)/2)),⟨_,m,(m+1)/2,rfl,rfl,m0,Int.le_refl _,?_,?_⟩,?_⟩
 .have:m*1<=m*m+m:=by
   rcases le_total m 0 with z|z
   .have:m=0:=ad
    subst this;decide
   .have:=lM z z
    lia
  grind
 .by_cases z:m=0
  .subst z;exact .inl ⟨rfl,rfl⟩
  .right
   rw[Int.ediv_self z];exact⟨ad,rfl⟩
 .rintro n ρ ⟨g,b,rfl,rfl,g0,gm,hg,hb⟩;left;split
  .rename_i hlt
   rcases hb with⟨rfl,rfl⟩| ⟨g1,rfl⟩
   .lia
   .have b1:1<=(g+m/g)/2:=by
     have:1<=m/g:=Int.le_ediv_of_mul_le ad ad
     lia
    rw[kO _<|show 0< (g+m/g)/2 by lia,kO _ ac]
    refine⟨⟨ad,ms.le ad ad⟩,⟨ac,c57 ac ac⟩,_,?_,_,_,rfl,rfl,ad,ad,c69 g1 m0,.inr ⟨b1,rfl⟩⟩
    lia
  .rename_i hge
   refine h g g0 ?_ hg
   rcases hb with⟨rfl,rfl⟩| ⟨g1,rfl⟩
   .have:g=0:=ad
    subst this;decide
   .exact cI4 g1 ad
noncomputable def ev (p:List Int)(z:Int):Int:=ps (λj=>p.getD j 0) z p.length
theorem ev2 (a b z:Int):ev [a,b,1] z=a+b*z+z*z:=by simp[ev,ps];grind
theorem ev3 (a b c z:Int):ev [a,b,c,1] z=a+b*z+c*(z*z)+z*z*z:=by simp[ev,ps];grind
theorem ev4 (a b c d z:Int):ev [a,b,c,d,1] z=a+b*z+c*(z*z)+d*(z*z*z)+z*z*z*z:=by simp[ev,ps];grind
noncomputable def qq (v u w s:Int):List Int:=[v*w,u*w+v*s,v+w+u*s,u+s,1]
def Red (p:List Int):Prop:=(∃z,ev p z=0)\/ ∃v u w s,p=qq v u w s
structure Fac (p l r:List Int):Prop where
 l2:2<=l.length
 r2:2<=r.length
 l4:l.length<=4
 r4:r.length<=4
 l1:l.getD (l.length-1) 0=1
 r1:r.getD (r.length-1) 0=1
 pr:rwF (l.length+r.length-1) (conv (λj=>l.getD j 0) (λj=>r.getD j 0) l.length)=p
 bl: ∀x∈l,x.natAbs<=2^40
 br: ∀x∈r,x.natAbs<=2^40
theorem eV.cs (h:eV p):(∃a b,p=[a,b,1])\/(∃a b c,p=[a,b,c,1])\/ ∃a b c d,p=[a,b,c,d,1]:=by
 obtain⟨q,rfl⟩:=h.one;have lo:=h.ok.lo;have hi:=h.ok.hi;rw[bY,aM7]at lo hi
 match q,lo,hi with
 | [a,b],_,_=>exact .inl ⟨a,b,rfl⟩
 | [a,b,c],_,_=>exact .inr (.inl ⟨a,b,c,rfl⟩)
 | [a,b,c,d],_,_=>exact .inr (.inr ⟨a,b,c,d,rfl⟩)
 | [],h,_=>simp at h
 | [_],h,_=>simp at h
 | _::_::_::_::_::_,_,h=>simp at h
theorem dB2 (h:eV p)(hz:ev p z=0):z∣p.getD 0 0:=by
 rcases h.cs with⟨a,b,rfl⟩| ⟨a,b,c,rfl⟩| ⟨a,b,c,d,rfl⟩
 .rw[ev2]at hz;exact⟨-(b+z),by show a=_;grind⟩
 .rw[ev3]at hz;exact⟨-(b+c*z+z*z),by show a=_;grind⟩
 .rw[ev4]at hz;exact⟨-(b+c*z+d*(z*z)+z*z*z),by show a=_;grind⟩
theorem cP4 (h:eV p):ev p 0=p.getD 0 0:=by
 rcases h.cs with⟨a,b,rfl⟩| ⟨a,b,c,rfl⟩| ⟨a,b,c,d,rfl⟩
 .rw[ev2];simp
 .rw[ev3];simp
 .rw[ev4];simp
noncomputable def wI (z:Int):Nat->Int:=λj=>[-z,1].getD j 0
theorem fV {m:Nat}(h1:a.natAbs<=m)(h2:b.natAbs<=n):(a*b).natAbs<=m*n:=by rw[dW];exact i4 h1 h2
set_option maxHeartbeats 2000000 in
theorem l3 (h:a=a')(h2:b=b')(h3:c=c'):[a,b,c]=[a',b',c']:=by rw[h,h2,h3]
theorem l4 {d d':Int}(h:a=a')(h2:b=b')(h3:c=c')(h4:d=d'):[a,b,c,d]=[a',b',c',d']:=by rw[h,h2,h3,h4]
theorem l5 {d e d' e':Int}(h:a=a')(h2:b=b')(h3:c=c')(h4:d=d')(h5:e=e'):[a,b,c,d,e]=[a',b',c',d',e']:=by rw[h,h2,h3,h4,h5]
theorem cvA2 (s z:Int):rwF 3 (λm=>conv (λj=>([s,1]:List Int).getD j 0) (wI z) 2 m+0)=[0+s*(-z)+1*0+0,0+s*1+1*(-z)+0,0+s*0+1*1+0]:=by kernel_rfl
theorem cvB2 (s z:Int):rwF 3 (conv (λj=>([-z,1]:List Int).getD j 0) (λj=>([s,1]:List Int).getD j 0) 2)=[0+(-z)*s+1*0,0+(-z)*1+1*s,0+(-z)*0+1*1]:=by kernel_rfl
theorem cvA3 (s t z:Int):rwF 4 (λm=>conv (λj=>([s,t,1]:List Int).getD j 0) (wI z) 3 m+0)=[0+s*(-z)+t*0+1*0+0,0+s*1+t*(-z)+1*0+0,0+s*0+t*1+1*(-z)+0,0+s*0+t*0+1*1+0]:=by kernel_rfl
theorem cvB3 (s t z:Int):rwF 4 (conv (λj=>([-z,1]:List Int).getD j 0) (λj=>([s,t,1]:List Int).getD j 0) 2)=[0+(-z)*s+1*0,0+(-z)*t+1*s,0+(-z)*1+1*t,0+(-z)*0+1*1]:=by kernel_rfl
theorem cvA4 (s t u z:Int):rwF 5 (λm=>conv (λj=>([s,t,u,1]:List Int).getD j 0) (wI z) 4 m+0)=[0+s*(-z)+t*0+u*0+1*0+0,0+s*1+t*(-z)+u*0+1*0+0,0+s*0+t*1+u*(-z)+1*0+0,0+s*0+t*0+u*1+1*(-z)+0,0+s*0+t*0+u*0+1*1+0]:=by kernel_rfl
theorem cvB4 (s t u z:Int):rwF 5 (conv (λj=>([-z,1]:List Int).getD j 0) (λj=>([s,t,u,1]:List Int).getD j 0) 2)=[0+(-z)*s+1*0,0+(-z)*t+1*s,0+(-z)*u+1*t,0+(-z)*1+1*u,0+(-z)*0+1*1]:=by kernel_rfl
theorem m2 {P:Int->Prop}(h:P a)(h2:P b): ∀x∈[a,b],P x:=λx hx=>by
 rcases bE.mp hx with rfl|hx
 .exact h
 .rw[iH.mp hx];exact h2
theorem m3 {P:Int->Prop}(h:P a)(h2: ∀x∈l,P x): ∀x∈a::l,P x:=λx hx=>by
 rcases bE.mp hx with rfl|hx
 .exact h
 .exact h2 x hx
theorem na2 {A B:Nat}(h:a.natAbs<=A)(h2:b.natAbs<=B):(a+b).natAbs<=A+B:=aM (a00 a b) (Nat.add_le_add h h2)
theorem quo (h:eV p)(hz:ev p z=0)(z9:z.natAbs<=499): ∃r:List Int,r.length+1=p.length/\2<=r.length/\r.getD (r.length-1) 0=1/\p=rwF p.length (λm=>conv (λj=>r.getD j 0) (wI z) r.length m+0)/\(∀x∈r,x.natAbs<=2^40)/\Fac p [-z,1] r:=by
 have sm:=h.ok.small;have le: ∀{a b:Nat},Nat.ble a b=true->a<=b:=aM9;have k1:(1:Int).natAbs<=2^40:=ac
 have bl: ∀x∈[-z,1],x.natAbs<=2^40:=m2 (by rw[oA];exact aM z9 ac) k1
 have m1:(z*z).natAbs<=499*499:=fV z9 z9;rcases h.cs with⟨a,b,rfl⟩| ⟨a,b,c,rfl⟩| ⟨a,b,c,d,rfl⟩
 .rw[ev2]at hz;have s1:=sm b ae
  have bd: ∀x∈[b+z,1],x.natAbs<=2^40:=m2 (aM (na2 s1 z9) ac) k1
  exact⟨[b+z,1],rfl,le rfl,rfl,(cvA2 (b+z) z).trans (l3 (by grind) (by grind)<|by grind) |>.symm,bd,⟨le rfl,le rfl,le rfl,le rfl,rfl,rfl,(cvB2 (b+z) z).trans<|l3 (by grind) (by grind)<|by grind,bl,bd⟩⟩
 .rw[ev3]at hz;have s1:=sm b ae
  have s2:=sm c ae
  have m2':(c*z).natAbs<=499*499:=fV s2 z9;have bd: ∀x∈[b+c*z+z*z,c+z,1],x.natAbs<=2^40:=m3 (aM (na2 (na2 s1 m2') m1) ac) (m2 (aM (na2 s2 z9) ac) k1)
  exact⟨[b+c*z+z*z,c+z,1],rfl,le rfl,rfl,(cvA3 _ (c+z) z).trans (l4 (by grind) (by grind) (by grind)<|by grind) |>.symm,bd,⟨le rfl,le rfl,le rfl,le rfl,rfl,rfl,(cvB3 _ (c+z) z).trans<|l4 (by grind) (by grind) (by grind)<|by grind,bl,bd⟩⟩
 .rw[ev4]at hz;have s1:=sm b ae
  have s2:=sm c ae
  have s3:=sm d ae
  have m2':(c*z).natAbs<=499*499:=fV s2 z9;have m3':(d*(z*z)).natAbs<=499*(499*499):=fV s3 m1;have m4:(z*z*z).natAbs<=499*499*499:=fV m1 z9;have m5:(d*z).natAbs<=499*499:=fV s3 z9;have bd: ∀x∈[b+c*z+d*(z*z)+z*z*z,c+d*z+z*z,d+z,1],x.natAbs<=2^40:=m3 (aM (na2 (na2 (na2 s1 m2') m3') m4) ac) (m3 (aM (na2 (na2 s2 m5) m1) ac)<|m2 (aM (na2 s3 z9) ac) k1)
  exact⟨[b+c*z+d*(z*z)+z*z*z,c+d*z+z*z,d+z,1],rfl,le rfl,rfl,(cvA4 _ _ (d+z) z).trans (l5 (by grind) (by grind) (by grind) (by grind)<|by grind) |>.symm,bd,⟨le rfl,le rfl,le rfl,le rfl,rfl,rfl,(cvB4 _ _ (d+z) z).trans<|l5 (by grind) (by grind) (by grind) (by grind)<|by grind,bl,bd⟩⟩
theorem fac_qq {v u:Int}(h: ∀x∈[v,u,w,s],x.natAbs<=2^40):Fac (qq v u w s) [v,u,1] [w,s,1]:=by
 simp only[nW]at h;have k1:(1:Int).natAbs<=2^40:=ac
 refine⟨ae,ae,ae,ae,rfl,rfl,?_,?_,?_⟩
 .simp[rwF,conv,shF,qq,cB]
  grind
 .simp only[nW];exact⟨h.1,h.2.1,k1,ae⟩
 .simp only[nW];exact⟨h.2.2.1,h.2.2.2.1,k1,ae⟩
def sF:Φ:=λds Q=> ∃m:Int,ds=[.int m]/\m.natAbs<=499/\ ∀l:List Int,l.length<=1000->(m=0->l=[0])->(m≠0-> ∀x,x∈l↔x∣m)->(∀x∈l,x.natAbs<=499)->Q (.ow<|l.map .int)
def aB3:US:=(aX (bV 1<|n6 aR)<|aX (nA (bA8<|aC (uC<|.int 1)<|aC (uOp iV (aU cF5<|aC (aF 0) aR)<|uC<|.int 1) aR) (dG 2)<|iU (fO<|uOp (lQ false) (uOp pX (aF 0)<|aF 2)<|uC<|.int 0) (aX (aS8 1<|aF 2)<|aS8 1<|sK<|aF 2) fT)<|sJ 1)
def xJ:US:=(aX (iU (fO<|uOp (lQ false) (aF 0)<|uC<|.int 0) (dQ<|n6<|aC (uC<|.int 0) aR) fT) aB3)
theorem aJ6 (h:x∣m)(hm:m≠0):x.natAbs<=m.natAbs/\1<=x.natAbs:=by
 have h1:=aN0.mpr h;refine⟨a14 ad h1,?_⟩
 rcases Nat.eq_zero_or_pos x.natAbs with z|z
 .rw[z]at h1;have:=Nat.zero_dvd.mp h1
  lia
 .exact z
theorem bL5: ∀ds Q,sF ds Q->xJ {nx:=λ_=>Q (.pu .non),rt:=Q} (init ["m","f","d"] ds):=by
 rintro ds Q ⟨m,rfl,m9,h⟩;unfold xJ;show(aX _ _:US) _ [some<|.pu<|.int m,none,none];rw[aZ];left
 by_cases m0:m=0
 .rw[aA m0];exact⟨ac,h [0] ae (λ_=>rfl) (λz=>absurd m0 z) ae⟩
 rw[a9 m0];unfold aB3;rw[aZ];left;refine⟨ac,?_⟩
 refine cF m.natAbs (λk=> .int (1+k)) [some<|.pu<|.int m,some<|.ow [],none] ?_
  (λi ρ=> ∃(l:List Int) (z:Option B),ρ=[some<|.pu<|.int m,some<|.ow<|l.map .int,z]/\l.length<=2*i/\ ∀x,x∈l↔(x∣m/\1<=x.natAbs/\x.natAbs<=i)) ⟨[],none,rfl,ae,λx=> ?_⟩ ?_ ?_
 .intro Q' q;left;have e:(if m<0 then -m else m)=(m.natAbs:Int):=by split<;>lia
  rw[e];refine⟨ad,?_⟩
  rw[show((m.natAbs:Int)+1-1).toNat=m.natAbs by lia]
  exact q
 .simp;lia
 .rintro i ρ hi ⟨l,z,rfl,ll,hl⟩;left;refine⟨ae,ad,?_⟩
  rw[eO _<|show(0:Int)<1+(i:Int)by lia]
  split
  .rename_i hd
   have dv:(1+(i:Int))∣m:=uK hd;refine⟨?_,?_,l++[1+(i:Int),-(1+(i:Int))],some<|.pu<|.int<|1+(i:Int),?_,?_,λx=> ?_⟩
   .rw[aO];exact bG (show _<2000 by lia) ac
   .rw[bY,aO];exact bG (show _<2000 by simp;lia) ac
   .rw[cJ];simp
   .rw[bY];simp;lia
   .rw[cP,hl];constructor
    .rintro(⟨h1,h2,h3⟩|hx)
     .exact⟨h1,h2,ad⟩
     .simp at hx
      rcases hx with rfl|rfl
      .exact⟨dv,ad,ad⟩
      .exact⟨by first|exact Int.neg_dvd.mpr dv| (rw[show -1+ -(i:Int)= -(1+(i:Int))by lia];exact Int.neg_dvd.mpr dv),ad,ad⟩
    .rintro⟨h1,h2,h3⟩
     by_cases c:x.natAbs<=i
     .exact .inl ⟨h1,h2,c⟩
     .refine .inr ?_
      simp
      lia
  .rename_i hd
   have dv: ¬(1+(i:Int))∣m:=λz=>hd (lD z)
   refine⟨l,_,rfl,ad,λx=> ?_⟩
   rw[hl];constructor
   .rintro⟨h1,h2,h3⟩;exact⟨h1,h2,ad⟩
   .rintro⟨h1,h2,h3⟩;refine⟨h1,h2,?_⟩
    by_cases c:x.natAbs<=i
    .exact c
    .exfalso
     have:x=1+(i:Int)\/x= -(1+(i:Int)):=ad
     rcases this with rfl|rfl
     .exact dv h1
     .exact dv (Int.neg_dvd.mp h1)
 .rintro ρ ⟨l,z,rfl,ll,hl⟩;left;refine h l ad (λz=>absurd z m0) (λ_ x=> ?_) λx hx=> ?_
  .rw[hl];exact⟨λq=>q.1,λq=>⟨q,(aJ6 q m0).2,(aJ6 q m0).1⟩⟩
  .have:=(hl x).mp hx
   lia
def oN:Φ:=λds Q=> ∃p:List Int,ds=[aS p]/\eV p/\((∀z,ev p z≠0)->Q (.pu .non))/\ ∀l r,Fac p l r->Red p->Q (.pu<|.tup [aS l,aS r])
def tT:US:=(dQ<|uC .non)
def oO:US:=(aX (nA (iN<|aU sF<|aC (uIx (b7 0)<|uC<|.int 0) aR) (dG 1)<|iU (fO<|uOp (lQ false) (aU u4<|aC (aF 0)<|aC (aF 1) aR)<|uC<|.int 0) (aX (bV 2<|iT<|aC (sK<|aF 1)<|aC (uC<|.int 1) aR)<|dQ<|iT<|aC (aF 2)<|aC (uIx (uV<|aU gT<|aC (aF 0)<|aC (aF 2) aR)<|uC<|.int 0) aR) fT) tT)
theorem b49 (p:List Int)(j:Nat)(h:p.length<=j):p.getD j 0=0:=by rw[aQ,fW h];rfl
theorem aP9: ∀ds Q,oN ds Q->oO {nx:=λ_=>Q (.pu .non),rt:=Q} (init ["p","z","l"] ds):=by
 rintro ds Q ⟨p,rfl,hp,hn,hy⟩;have hlo:=hp.ok.lo;have hhi:=hp.ok.hi;unfold oO;show(aX _ _:US) _ [some<|.pu<|.tup<|p.map .int,none,none];rw[aZ];have p0:(p.getD 0 0).natAbs<=499:=gS hp.ok.small 0;have key: ∀l:List Int,(p.getD 0 0=0->l=[0])->(p.getD 0 0≠0-> ∀x,x∈l↔x∣p.getD 0 0)->(∀x∈l,ev p x≠0)-> ∀z,ev p z≠0:=λl l0 l1 hl z hz=>by
  by_cases c:p.getD 0 0=0
  .have:=hl 0 (by rw[l0 c];simp)
   rw[cP4 hp]at this;exact this c
  .exact hl z ((l1 c z).mpr<|dB2 hp hz) hz
 unfold nA;simp only[iN];left;rw[bD2 ad]
 refine⟨p.getD 0 0,rfl,p0,λl l9 l0 l1 lb=> ?_⟩
 dsimp only;rw[aO];refine⟨λi ρ=> ∃z1 z2,ρ=[some<|.pu<|.tup<|p.map .int,z1,z2]/\ ∀k,k<i->ev p (l.getD k 0)≠0,⟨none,none,rfl,λk hk=>ad⟩,?_,?_⟩
 .rintro i ρ hi ⟨z1,z2,rfl,hk⟩;have e3:(l.map D.int).getD i .non= .int (l.getD i 0):=by
   rw[aQ,bS,aV hi,aQ,aV hi];rfl
  rw[e3];have mem:l.getD i 0∈l:=by rw[aQ,aV hi];exact eJ hi
  have zb:=lb _ mem;generalize ez:l.getD i 0=z at zb;left;refine⟨ae,?_⟩
  refine⟨p.length,9,9,λj=>p.getD j 0,z,by rw[<-bX8];rfl,⟨λj=>aM (gS hp.ok.small j) ac,aM zb ac,ad,ac,ad⟩,?_⟩
  show(if ev p z=0 then _ else _)
  by_cases c:ev p z=0
  .rw[aA c];refine⟨ac,?_⟩
   obtain⟨r,r1,r2,r3,r4,r5,fac⟩:=quo hp c zb;refine⟨p.length,1,9,9,λm=>conv (λj=>r.getD j 0) (wI z) r.length m+0,wI z,?_,⟨ad,ac,rfl,λj hj=> ?_,λm hm=> ?_,λj=> ?_,ad,ac⟩,?_⟩
   .rw[<-r4];rfl
   .unfold wI;rw[b49];simp;lia
   .have e:p.getD m 0=conv (λj=>r.getD j 0) (wI z) r.length m+0:=by
     have:p[m]? =some (conv (λj=>r.getD j 0) (wI z) r.length m+0):=by
      conv=>lhs;rw[r4]
      rw[aU6 hm]
     rw[aQ,this];rfl
    rw[<-e];exact aM (gS hp.ok.small m) ac
   .unfold wI;refine gS (b:=2^9) (λx hx=> ?_) j
    simp at hx
    rcases hx with rfl|rfl
    .rw[oA];exact aM zb ac
    .decide
   .have dc:=bD9 (u:=λj=>r.getD j 0) (b:=wI z) (low:=λ_=>0) (d:=1) rfl (λj hj=>by unfold wI;rw[b49];simp;lia) (λ_ _=>rfl) r.length
    have el:p.length-1=r.length:=ad
    rw[el];have qe:rwF (gX (divQ (wI z) 1 r.length λm=>conv (λj=>r.getD j 0) (wI z) r.length m+0) r.length) (divQ (wI z) 1 r.length λm=>conv (λj=>r.getD j 0) (wI z) r.length m+0)=r:=by
     have cn:gX (divQ (wI z) 1 r.length λm=>conv (λj=>r.getD j 0) (wI z) r.length m+0) r.length=r.length:=tZ (aG _) (λm a b=>ad) (.inr (by
      rw[dc.2 (r.length-1) ad,r3];decide))
     rw[cn]
     conv=>rhs;rw[bX8 r]
     exact kR λj hj=>dc.2 j hj
    rw[qe];left;rw[show atI [aS r,aS<|rwF (gX (divL (wI z) 1 r.length λm=>conv (λj=>r.getD j 0) (wI z) r.length m+0) p.length)<|divL (wI z) 1 r.length λm=>conv (λj=>r.getD j 0) (wI z) r.length m+0] 0=some (aS r)from cG (j:=0) rfl]
    refine⟨ac,hy [-z,1] r fac<|.inl ⟨z,c⟩⟩
  .rw[a9 c];refine⟨_,_,rfl,λk hk2=> ?_⟩
   by_cases ck:k<i
   .exact hk k ck
   .have:k=i:=ad
    rw[this,ez];exact c
 .rintro ρ ⟨z1,z2,rfl,hk⟩;unfold tT;left;refine hn (key l l0 l1 λx hx=> ?_)
  obtain⟨k,hk2,rfl⟩:=zY hx;have:=hk k hk2;rw[aQ,aV hk2]at this;exact this
def xK:Φ:=λds Q=> ∃t m:Int,ds=[.int t,.int m]/\t.natAbs<=2^20/\m.natAbs<=2^20/\ ∀l:List Int,l.length<=2->(∀u,u∈l↔u*(t-u)=m)->Q (.ow<|l.map .int)
def aB4:US:=(aX (iU (fO<|uOp (lQ true) (uOp fS (aF 3)<|aF 3)<|aF 2) (dQ<|n6 aR) fT)<|dQ<|n6<|aC (uOp aI5 (uOp iV (aF 0)<|aF 3)<|uC<|.int 2)<|aC (uOp aI5 (uOp M.gSub (aF 0)<|aF 3)<|uC<|.int 2) aR)
def aB5:US:=(aX (bV 3<|aU b13<|aC (aF 2) aR) aB4)
def aB6:US:=(aX (iU (fO<|uOp (yP λi j=>decide (i<j)) (aF 2)<|uC<|.int 0) (dQ<|n6 aR) fT) aB5)
def xL:US:=(aX (bV 2<|uOp M.gSub (uOp fS (aF 0)<|aF 0)<|uOp fS (uC<|.int 4)<|aF 1) aB6)
theorem sq_nn (x:Int):0<=x*x:=by
 rcases le_total 0 x with h|h
 .exact lM h h
 .exact Int.mul_nonneg_of_nonpos_of_nonpos h h
theorem dB3 (ha:0<=a)(h:a<=b):a*a<=b*b:=rA h h ha ad
theorem dV6 (hg:0<=g)(h1:g*g<=x*x)(h2:x*x< (g+1)*(g+1)):x=g\/x= -g:=by
 have e:(x.natAbs:Int)*(x.natAbs:Int)=x*x:=Int.natAbs_mul_self;have a1:(x.natAbs:Int)<=g:=by
  by_cases c:(x.natAbs:Int)<=g
  .exact c
  .have:=dB3 (a:=g+1) (b:=(x.natAbs:Int)) ad ad
   lia
 have a2:g<=(x.natAbs:Int):=by
  by_cases c:g<=(x.natAbs:Int)
  .exact c
  .have:=dB3 (a:=(x.natAbs:Int)+1) (b:=g) ad ad
   have h3:(x.natAbs:Int)*(x.natAbs:Int)< ((x.natAbs:Int)+1)*((x.natAbs:Int)+1):=by
    have:((x.natAbs:Int)+1)*((x.natAbs:Int)+1)=(x.natAbs:Int)*(x.natAbs:Int)+2*(x.natAbs:Int)+1:=by grind
    lia
   lia
 lia
theorem par {t:Int}(h:g*g=t*t-4*m):(t+g)%2=0/\(t-g)%2=0:=by
 have h1:(t-g)*(t+g)=4*m:=by grind
 rcases Int.emod_two_eq (t+g)with c|c
 .exact⟨c,ad⟩
 .exfalso
  obtain⟨a,ha⟩: ∃a,t+g=2*a+1:=⟨(t+g)/2,ad⟩
  obtain⟨b,hb⟩: ∃b,t-g=2*b+1:=⟨(t-g)/2,ad⟩
  rw[ha,hb]at h1;have:2*(2*(b*a)+b+a-2*m)+1=0:=by grind
  lia
theorem bL6: ∀ds Q,xK ds Q->xL {nx:=λ_=>Q (.pu .non),rt:=Q} (init ["t","m","s","g"] ds):=by
 rintro ds Q ⟨t,m,rfl,ht,hm,h⟩;have p20:(2:Nat)^20=1048576:=ac
 have tt:(t*t).natAbs<=2^20*2^20:=fV ht ht;unfold xL;show(aX _ _:US) _ [some<|.pu<|.int t,some<|.pu<|.int m,none,none];rw[aZ];left;refine⟨cmL aa aa,cmL ac ac,?_⟩
 have id1: ∀u:Int,u*(t-u)=m↔(2*u-t)*(2*u-t)=t*t-4*m:=λu=>by
  constructor
  .intro q;grind
  .intro q;have:4*(u*(t-u))=4*m:=by grind
   omega
 generalize esq:t*t-4*m=sq at id1;have sqb:sq.natAbs<=2^60:=by
  have:(2:Nat)^60=1152921504606846976:=ac
  have:(2:Nat)^20*2^20=1099511627776:=ac
  omega
 unfold aB6;rw[aZ];left
 by_cases s0:sq<0
 .rw[aA s0];refine⟨ac,h [] ae λu=> ?_⟩
  rw[id1];simp;intro q;have:=sq_nn (2*u-t);omega
 rw[a9 s0];unfold aB5;rw[aZ];left;refine⟨sq,rfl,aa,Sm.pow sqb ac,λg g0 g1 g2=> ?_⟩
 have g30:g<=2^30:=by
  by_cases c:g<=2^30
  .exact c
  .have:=dB3 (a:=2^30+1) (b:=g) ac aa
   have:((2:Int)^30+1)*(2^30+1)>2^60:=ac
   have:((2^60:Nat):Int)=2^60:=ac
   omega
 have k30:(2:Int)^30=1073741824:=ac
 unfold aB4;dsimp only;rw[aZ];left;refine⟨cmL aa aa,?_⟩
 by_cases c:g*g=sq
 .rw[a9 λz=>z c]
  rw[kO _ ac,kO _ ac]
  have pp:=par (t:=t) (g:=g) (m:=m) (by rw[c,esq])
  refine⟨⟨ac,c57 ac ac⟩,⟨ac,c57 ac ac⟩,ac,?_⟩
  refine h [(t+g)/2,(t-g)/2] ae λu=> ?_
  rw[id1];simp;constructor
  .rintro(rfl|rfl)
   .have:2*((t+g)/2)-t=g:=aa
    rw[this];exact c
   .have:2*((t-g)/2)-t= -g:=aa
    rw[this,Int.neg_mul_neg];exact c
  .intro q;have:=dV6 (g:=g) (x:=2*u-t) g0 aa aa
   omega
 .rw[aA c];refine⟨ac,h [] ae λu=> ?_⟩
  rw[id1];simp;intro q;rw[<-q]at g1 g2 c;rcases dV6 g0 g1 g2 with z|z
  .rw[z]at c;exact c rfl
  .rw[z,Int.neg_mul_neg]at c;exact c rfl
def dB4 (g:UG)(tb:US)(E:UD)(b:B)(ρ1:Ev):Prop:=match qD b.d with
 | some l=> ∃Pv:Nat->Ev->Prop,Pv 0 ρ1/\(∀i ρ,i<l.length->Pv i ρ->g (.pu<|l.getD i .non) ρ λρ2=>tb {E with nx:=Pv (i+1),ct:=Pv (i+1),bk:=E.nx} ρ2)/\ ∀ρ,Pv l.length ρ->E.nx ρ
 | none=>False
theorem bE7 {φ:Φ}{t:UA}{g:UG}{E:UD}:nA (iN<|aU φ t) g tb E ρ=t ρ λds ρ1=>φ ds λb=>dB4 g tb E b ρ1:=rfl
theorem b50 {g:UG}{E:UD}{ρ1:Ev}(l:List Int)(Pv:Nat->Ev->Prop)(h0:Pv 0 ρ1)(hs: ∀i ρ,i<l.length->Pv i ρ->g (.pu<|.int<|l.getD i 0) ρ λρ2=>tb {E with nx:=Pv (i+1),ct:=Pv (i+1),bk:=E.nx} ρ2)(hd: ∀ρ,Pv l.length ρ->E.nx ρ):dB4 g tb E (.ow<|l.map .int) ρ1:=by
 show ∃Pv:Nat->Ev->Prop,Pv 0 ρ1/\(∀i ρ,i< (l.map D.int).length->Pv i ρ->g (.pu<|(l.map D.int).getD i .non) ρ λρ2=>tb {E with nx:=Pv (i+1),ct:=Pv (i+1),bk:=E.nx} ρ2)/\ ∀ρ,Pv (l.map D.int).length ρ->E.nx ρ
 rw[aO];refine⟨Pv,h0,λi ρ hi hp=> ?_,hd⟩
 have e3:(l.map D.int).getD i .non= .int (l.getD i 0):=by
  rw[aQ,bS,aV hi,aQ,aV hi];rfl
 rw[e3];exact hs i ρ hi hp
theorem bR6 (hi:i<l.length):l.getD i 0∈l:=by rw[aQ,aV hi];exact eJ hi
theorem c70 {P:Int->Prop}(h: ∀k,k<l.length->P (l.getD k 0)): ∀x∈l,P x:=λx hx=>by
 obtain⟨k,hk,rfl⟩:=zY hx;have:=h k hk;rw[aQ,aV hk]at this;exact this
def kW:Φ:=λds Q=> ∃a b c d:Int,ds=[aS [a,b,c,d,1]]/\(∀x∈[a,b,c,d],x.natAbs<=499)/\a≠0/\((∀v u w s,[a,b,c,d,1]≠qq v u w s)->Q (.pu .non))/\
 ∀v u w s,[a,b,c,d,1]=qq v u w s->(∀x∈[v,u,w,s],x.natAbs<=2^40)->Q (.pu<|.tup [aS [v,u,1],aS [w,s,1]])
def kX:US:=(aX (nA (iN<|aU sF<|aC (uIx (b7 0)<|uC<|.int 0) aR) (dG 1)<|aX (bV 2<|uOp aI5 (uIx (b7 0)<|uC<|.int 0)<|aF 1)<|nA (iN<|aU xK<|aC (uIx (b7 0)<|uC<|.int 3)<|aC (uOp M.gSub (uOp M.gSub (uIx (b7 0)<|uC<|.int 2)<|aF 1)<|aF 2) aR) (dG 3)<|aX (bV 4<|uOp M.gSub (uIx (b7 0)<|uC<|.int 3)<|aF 3)<|iU (fO<|uOp (lQ false) (uOp iV (uOp fS (aF 3)<|aF 2)<|uOp fS (aF 1)<|aF 4)<|uIx (b7 0)<|uC<|.int 1) (dQ<|iT<|aC (iT<|aC (aF 1)<|aC (aF 3)<|aC (uC<|.int 1) aR)<|aC (iT<|aC (aF 2)<|aC (aF 4)<|aC (uC<|.int 1) aR) aR) fT)<|dQ<|uC .non)
theorem cX3 {u t:Int}(h:u*(t-u)=m)(ht:t.natAbs<=2^20)(hm:m.natAbs<=2^20):u.natAbs<=2^20:=by
 by_cases c:t-u=0
 .have:u=t:=ad
  rw[this];exact ht
 .have h1:m.natAbs=u.natAbs*(t-u).natAbs:=by rw[<-h,dW]
  have h2:u.natAbs*1<=u.natAbs*(t-u).natAbs:=uO _ ad
  lia
theorem a85: ∀ds Q,kW ds Q->kX {nx:=λ_=>Q (.pu .non),rt:=Q} (init ["p","v","w","u","s"] ds):=by
 rintro ds Q ⟨a,b,c,d,rfl,hs,a0,hn,hy⟩;simp only[nW]at hs;obtain⟨ha,hb,hc,hd,_⟩:=hs;have p20:(2:Nat)^20=1048576:=ac
 have p40:(2:Nat)^40=1099511627776:=ac
 unfold kX;show(aX _ _:US) _ [some<|.pu<|.tup [.int a,.int b,.int c,.int d,.int 1],none,none,none,none];have i0:atI [D.int a,.int b,.int c,.int d,.int 1] 0=some (.int a):=cG (j:=0) rfl;have i1:atI [D.int a,.int b,.int c,.int d,.int 1] 1=some (.int b):=cG (j:=1) rfl;have i2:atI [D.int a,.int b,.int c,.int d,.int 1] 2=some (.int c):=cG (j:=2) rfl
 have i3:atI [D.int a,.int b,.int c,.int d,.int 1] 3=some (.int d):=cG (j:=3) rfl;rw[aZ,bE7];left;rw[i0];refine⟨a,rfl,ha,λl l9 _ l1 lb=> ?_⟩
 have ld:=l1 a0;refine b50 l (λi ρ=> ∃z1 z2 z3 z4,ρ=[some<|.pu<|.tup [.int a,.int b,.int c,.int d,.int 1],z1,z2,z3,z4]/\ ∀k,k<i-> ∀u w s,[a,b,c,d,1]≠qq (l.getD k 0) u w s) ⟨none,none,none,none,rfl,λk hk=>ad⟩ ?_ ?_
 .rintro i ρ hi ⟨z1,z2,z3,z4,rfl,hk⟩;have mem:=bR6 hi;have vb:=lb _ mem;have vd:=(ld _).mp mem;generalize ev':l.getD i 0=v at vb vd;obtain⟨w,rfl⟩:=vd;have v0:v≠0:=λz=>a0 (by rw[z,cY])
  have wb:w.natAbs<=499:=by
   rw[dW]at ha;have:1*w.natAbs<=v.natAbs*w.natAbs:=qO _ ad
   lia
  refine⟨ae,?_⟩
  show(aX _ _:US) _ [some<|.pu<|.tup [.int<|v*w,.int b,.int c,.int d,.int 1],some<|.pu<|.int v,z2,z3,z4]
  rw[aZ,sE];left;rw[i0];dsimp only;rw[Int.mul_fdiv_cancel_left _ v0];refine⟨⟨v0,c57 ad ad⟩,?_⟩
  rw[bE7];left;rw[i3,i2];dsimp only;have cv:(c-v-w).natAbs<=2^20:=by
   have:=na2 (na2 hc (B:=499) (b:= -v) (by rw[oA];exact vb)) (B:=499) (b:= -w) (by rw[oA];exact wb)
   exact aM this ac
  have d2:d.natAbs<=2^20:=aM hd ac
  refine⟨d,c-v-w,rfl,d2,cv,λus _ hus=> ?_⟩
  refine b50 us (λj ρ=> ∃z3 z4,ρ=[some<|.pu<|.tup [.int<|v*w,.int b,.int c,.int d,.int 1],some<|.pu<|.int v,some<|.pu<|.int w,z3,z4]/\ ∀k,k<j->us.getD k 0*w+v*(d-us.getD k 0)≠b) ⟨_,_,rfl,λk hk=>ad⟩ ?_ ?_
  .rintro j ρ hj ⟨z3,z4,rfl,hk2⟩;have um:=(hus _).mp (bR6 hj);generalize eu:us.getD j 0=u at um;have ub:=cX3 um d2 cv;refine⟨ae,?_⟩
   show(aX _ _:US) _ [some<|.pu<|.tup [.int<|v*w,.int b,.int c,.int d,.int 1],some<|.pu<|.int v,some<|.pu<|.int w,some<|.pu<|.int u,z4]
   rw[aZ];left;rw[i3];dsimp only;rw[i1];refine⟨cmL ad ad,cmL ad ad,?_⟩
   dsimp only
   by_cases q:u*w+v*(d-u)=b
   .rw[aA q];refine⟨ac,ac,ac,hy v u w (d-u) ?_ ?_⟩
    .unfold qq;rw[<-q];have e1:v+w+u*(d-u)=c:=by rw[um];lia
     have e2:u+(d-u)=d:=ad
     rw[e1,e2]
    .simp only[nW];exact⟨ad,ad,ad,ad,ae⟩
   .rw[a9 q];refine⟨_,_,rfl,λk hk3=> ?_⟩
    by_cases ck:k<j
    .exact hk2 k ck
    .have:k=j:=ad
     rw[this,eu];exact q
  .rintro ρ ⟨z3,z4,rfl,hk2⟩;have no:=c70 (P:=λu=>u*w+v*(d-u)≠b) hk2
   refine⟨_,_,_,_,rfl,λk hk3=> ?_⟩
   by_cases ck:k<i
   .exact hk k ck
   .have:k=i:=ad
    rw[this,ev'];intro u w' s q;unfold qq at q
    injection q with q0 q;injection q with q1 q;injection q with q2 q;injection q with q3 q
    have ww:w'=w:=by
     have:=uH v0 q0
     lia
    subst ww;have us':s=d-u:=ad
    subst us';exact no u ((hus u).mpr ad) q1.symm
 .rintro ρ ⟨z1,z2,z3,z4,rfl,hk⟩;left;refine hn λv u w s q=> ?_
  have no:=c70 (P:=λv=> ∀u w s,[a,b,c,d,1]≠qq v u w s) hk
  refine no v ((ld v).mpr ?_) u w s q
  unfold qq at q
  injection q with q0 q
  exact⟨w,q0⟩
def aQ0:Φ:=λds Q=> ∃p:List Int,ds=[aS p]/\eV p/\(¬Red p->Q (.pu .non))/\ ∀l r,Fac p l r->Red p->Q (.pu<|.tup [aS l,aS r])
def sR:US:=(sJ 1)
def aB7:US:=(aX (iU (cU4 (fO<|bK8 false<|aF 1)<|fO<|uOp (lQ false) (nL<|b7 0)<|uC<|.int 5) (bV 1<|aU kW<|aC (aF 0) aR) fT) sR)
def b51:US:=(aX (bV 1<|aU oN<|aC (aF 0) aR) aB7)
def aQ1:US:=(aX (aT2<|aU i7<|aC (aF 0) aR) b51)
theorem cI5: ∀ds Q,aQ0 ds Q->aQ1 {nx:=λ_=>Q (.pu .non),rt:=Q} (init ["p","q"] ds):=by
 rintro ds Q ⟨p,rfl,hp,hn,hy⟩;unfold aQ1;show(aX _ _:US) _ [some<|.pu<|.tup<|p.map .int,none];rw[aZ];left;refine⟨p,rfl,hp,?_⟩;try dsimp only
 unfold b51;rw[aZ];left;refine⟨p,rfl,hp,λnr=> ?_,λl r fac red=> ?_⟩
 .try dsimp only
  unfold aB7;rw[aZ];left;rw[aO]
  by_cases c:(p.length:Int)=5
  .simp only[c,cU];have sm:=hp.ok.small;rcases hp.cs with⟨a,b,rfl⟩| ⟨a,b,c',rfl⟩| ⟨a,b,c',d,rfl⟩
   .simp at c
   .simp at c
   .simp only[nW]at sm;refine⟨a,b,c',d,rfl,by simp only[nW];exact⟨sm.1,sm.2.1,sm.2.2.1,sm.2.2.2.1,ae⟩,λz=> ?_,λnq=> ?_,λv u w s q bd=> ?_⟩
    .refine nr 0 ?_
     rw[cP4 hp];exact z
    .unfold sR;left;refine hn λrd=> ?_
     rcases rd with⟨z,hz⟩| ⟨v,u,w,s,q⟩
     .exact nr z hz
     .exact nq v u w s q
    .unfold sR;left;exact hy _ _ (by rw[q];exact fac_qq bd) (.inr ⟨v,u,w,s,q⟩)
  .simp only[c,cU,fM];unfold sR;left;refine hn λrd=> ?_
   rcases rd with⟨z,hz⟩| ⟨v,u,w,s,q⟩
   .exact nr z hz
   .rw[q]at c;exact c rfl
 .try dsimp only
  unfold aB7;rw[aZ];left;unfold sR;left;exact hy l r fac red
noncomputable def fOf (p:List Int):Nat->Int:=λj=>p.getD j 0
theorem eV.rf (h:eV p):RF (p.length-1) (fOf p):=by
 have lo:=h.ok.lo;have hi:=h.ok.hi;refine⟨aa,aa,?_,λj hj=> ?_,λj=> ?_⟩
 .obtain⟨q,rfl⟩:=h.one;show(q++[1]).getD _ 0=1;rw[bY,aQ,jC ae]
  simp
 .show p.getD j 0=0
  rw[aQ,fW aa]
  rfl
 .exact aM (gS h.ok.small j) ac
theorem eV.row (h:eV p):aS p=aS (rwF (p.length-1+1)<|fOf p):=by
 have lo:=h.ok.lo;have e:=bX8 p;rw[show p.length-1+1=p.length by omega]
 exact cT aS e
def aB8:Φ:=λds Q=> ∃(r:List Int) (k:Int),ds=[aS r,.int k]/\r.length<=1000/\ -1000<=k/\k<=1000/\Q (.pu<|aS<|r++replicate (k-(r.length:Int)).toNat 0)
def aB9:US:=(dQ<|uOp iV (aF 0)<|uOp bQ2 (iT<|aC (uC<|.int 0) aR)<|uOp M.gSub (aF 1)<|nL<|b7 0)
theorem c71: ∀ds Q,aB8 ds Q->aB9 {nx:=λ_=>Q (.pu .non),rt:=Q} (init ["r","s"] ds):=by
 rintro ds Q ⟨r,k,rfl,hr,k0,k1,h⟩;unfold aB9;simp only[aS];show(dQ _:US) _ [some<|.pu<|.tup<|r.map .int,some<|.pu<|.int k];left;rw[aO];have e:(replicate (k-(r.length:Int)).toNat [D.int 0]).flatten=(replicate (k-(r.length:Int)).toNat 0).map D.int:=aU1 _ _;rw[e,<-cJ];refine⟨ac,⟨ae,ad,ad,aM (show 1*(k-(r.length:Int)).toNat<=1000 by lia) ac⟩,?_,h⟩
 rw[aO,zS];exact aM (show r.length+(k-(r.length:Int)).toNat<=3000 by lia) ac
def jR:ΦX:=λds Q Ex=> ∃p:List Int,ds=[aS p]/\eV p/\(¬Red p->Q (.pu .non))/\(Red p-> ∀l r,Fac p l r->Ex "FallsApart" [aS l,aS r])
def nG:USX:=(λEx=>aX ((λ_=>(bV 1<|aU aQ0<|aC (aF 0) aR)) Ex) ((λEx=>iU (fO<|bK8 true<|aF 1) ((aT8 "FallsApart" (uIx (b7 1)<|uC<|.int 0)<|uIx (b7 1)<|uC<|.int 1) Ex) ((λ_=>fT) Ex)) Ex))
theorem aC0: ∀ds Q Ex,jR ds Q Ex->ds.length=1:=by rintro ds Q Ex ⟨p,rfl,_⟩;rfl
theorem aI8: ∀ds Q Ex,jR ds Q Ex->nG Ex {nx:=λ_=>Q (.pu .non),rt:=Q} (init ["p","q"] ds):=by
 rintro ds Q Ex ⟨p,rfl,rp,h0,h1⟩;unfold nG;dsimp only;show(aX _ _:US) _ [some<|.pu<|aS p,none];rw[aZ];left;refine⟨p,rfl,rp,λnr=> ?_,λl r fac red=> ?_⟩
 .left
  simpa using h0 nr
 .left
  simp only[at0,at1];exact h1 red l r fac
def Wh (n:Nat)(f:Nat->Int)(size:Int):Prop:= ∃xf,SPs n f size xf/\ ∀p∈prL,sqB size p=true->bL4 n f p (xf p)
def NWh (n:Nat)(f:Nat->Int)(size:Int):Prop:= ∃xf,SPs n f size xf/\ ¬ ∀p∈prL,sqB size p=true->bL4 n f p (xf p)
def mS:ΦX:=λds Q Ex=> ∃(p:List Int) (size:Int),ds=[aS p,.int size]/\eV p/\(Wh (p.length-1) (fOf p) size->Q (.pu .non))/\((∃q g,dP5 (p.length-1) (fOf p) size q g)->NWh (p.length-1) (fOf p) size-> ∀es,Ex "NotWhole" es)
def rO:USX:=(λEx=>aX ((λ_=>(bV 2<|aU tF<|aC (aF 0)<|aC (aU vM<|aC (aF 0)<|aC (aF 1) aR) aR)) Ex) ((λEx=>iU (fO<|bK8 true<|aF 2) ((λEx=>aX ((λ_=>(cF2 (aF 2)<|qC<|eK 3<|eK 4 qB)) Ex) ((aT8 "NotWhole" (aF 3)<|aU aB8<|aC (aU dL<|aC (gG [3] [none,some 3,none] 2 (iN<|aF 4) (dG 0) (λρ Q=>Q true ρ)<|uOp pX (aF 0)<|aF 1) aR)<|aC (uOp M.gSub (nL<|b7 0)<|uC<|.int 1) aR) Ex)) Ex) ((λ_=>fT) Ex)) Ex))
theorem aV4: ∀ds Q Ex,mS ds Q Ex->ds.length=2:=by rintro ds Q Ex ⟨p,size,rfl,_⟩;rfl
theorem b15: ∀ds Q Ex,mS ds Q Ex->rO Ex {nx:=λ_=>Q (.pu .non),rt:=Q} (init ["p","s","o","q","f"] ds):=by
 rintro ds Q Ex ⟨p,size,rfl,rp,h0,h1⟩;have rf:=rp.rf;rw[rp.row];generalize p.length-1=n at *;generalize fOf p=f at *;unfold rO;dsimp only;show(aX _ _:US) _ [some<|.pu<|aS<|rwF (n+1) f,some<|.pu<|.int size,none,none,none];rw[aZ];left;refine⟨n,f,size,rfl,rf,λxf hP=>⟨n,f,size,xf,rfl,rf,hP,λfine=> ?_,λq g outs nf=> ?_⟩⟩
 .left
  simpa using h0 ⟨xf,hP,fine⟩
 .have pp:=aA6 outs.pr;have p2:=pp.lo;have p3:=pp.hi;have ql:(dP6 n f g).length<=5:=by
   unfold dP6;rw[aG5];have:=a40 (divQ g.2 g.1 (n+1-g.1) f) (n+1-g.1);have:=rf.n4
   lia
  generalize dP6 n f g=r at *;simp only[aS];left;refine⟨ac,ac,trivial,?_⟩
  refine fG (t0:=0) r.length (λk=>(r.map D.int).getD k .non) [some<|.pu<|.tup<|(rwF (n+1) f).map .int,some<|.pu<|.int size,some<|.pu<|.tup [.int q,.tup<|r.map .int],some<|.pu<|.int q,some<|.pu<|.tup<|r.map .int] (λQ' q=> ?_) ad (λx l'=>[x,some<|.pu<|.int q,some<|.ow l']) none rfl (λ_ _ _=>rfl) (λ_ _=>cO _) (λ_ _ _ q=>q) (λ_ _ _=>rfl) (λk=> .int (r.getD k 0%q)) ?_ ?_
  .left
   rw[aO];exact q
  .intro k l' Q' hk q';have e3:(r.map D.int).getD k .non= .int (r.getD k 0):=by
    rw[aQ,bS,aQ,aV hk];rfl
   rw[e3]at q'⊢;left;refine⟨ad,?_⟩
   rw[eO _ ad]
   exact q'
  .have e4:(List.range r.length).map (λk=>D.int (r.getD k 0%q))=((List.range r.length).map λk=>r.getD k 0%q).map D.int:=by rw[jJ];rfl
   rw[e4];have n4:=rf.n4;left;refine⟨_,_,rfl,by rw[aO,uQ];lia,?_,?_,h1 ⟨q,g,outs⟩ ⟨xf,hP,nf⟩ _⟩
   .rw[bC];lia
   .rw[bC];lia
structure dB5 (p:List Int):Prop where
 rp:eV p
 irr: ¬Red p
 meas:(gD 4<|eE p).natAbs<=39999
 whole: ¬ ∃q g,dP5 (p.length-1) (fOf p) (gD 4<|eE p) q g
def yV:ΦM:=λds Q Ex=> ∃p:List Int,ds=[aS p]/\eV p/\(¬Red p->(gD 4<|eE p).natAbs<=39999->Wh (p.length-1) (fOf p) (gD 4<|eE p)->Q [aS p,.int<|(p.length:Int)-1,.int<|gD 4<|eE p])/\(Red p-> ∀l r,Fac p l r->Ex "FallsApart" [aS l,aS r])/\(¬Red p-> ¬dB5 p->((gD 4<|eE p).natAbs<=39999->NWh (p.length-1) (fOf p) (gD 4<|eE p))->Ex "TooGreat" []/\ ∀es,Ex "NotWhole" es)
def bE8:USX:=(λEx=>aX ((λ_=>(aT2<|aU i7<|aC (aF 1) aR)) Ex) ((λEx=>aX ((λEx=>aT2 (bX0 jR (aC (aF 1) aR) Ex)) Ex) ((λEx=>aX ((λ_=>(bV 2<|aU a38<|aC (aF 1) aR)) Ex) ((λEx=>aX ((λEx=>iU (fO<|uOp (yP λi j=>decide (j<i)) (aU cF5<|aC (aF 2) aR)<|uC<|.int 39999) ((bX1 "TooGreat"<|aC (uC<|.str "a ring's measure is from -39,999 to 39,999") aR) Ex) ((λ_=>fT) Ex)) Ex) ((λEx=>aT2 (bX0 mS (aC (aF 1)<|aC (aF 2) aR) Ex)) Ex)) Ex)) Ex)) Ex))
def bE9:UE:=(aF 1)
def bF0:UE:=(uOp M.gSub (nL<|b7 1)<|uC<|.int 1)
def bF1:UE:=(aF 2)
theorem cX4: ∀ds Q Ex,yV ds Q Ex->ds.length+1=2:=by rintro ds Q Ex ⟨p,rfl,_⟩;rfl
theorem dB6: ∀a ds Q Ex,yV ds Q Ex->bE8 Ex {nx:=λρ=>ρ[0]? =some (some<|.pu<|.adr a)/\bE9 ρ λb1 ρ1=>bF0 ρ1 λb2 ρ2=>bF1 ρ2 λb3 _=>Q [b1.d,b2.d,b3.d],rt:=λ_=>False} (init ["s","p","m"] (.adr a::ds)):=by
 rintro a ds Q Ex ⟨p,rfl,rp,h0,hr,h1⟩;have lo:=rp.ok.lo;unfold bE8;dsimp only;show(aX _ _:US) _ [some<|.pu<|.adr a,some<|.pu<|aS p,none];rw[aZ];left;refine⟨p,rfl,rp,?_⟩;left;refine⟨p,rfl,rp,λnr=> ?_,hr⟩
 refine⟨p,rfl,rp,?_⟩
 left
 by_cases c:(39999:Int)< (if gD 4 (eE p)<0 then -gD 4 (eE p)else gD 4 (eE p))
 .rw[aA c];refine⟨ac,(h1 nr (λz=> ?_) λz=> ?_).1⟩
  .have:=z.meas;split at c<;>omega
  .split at c<;>omega
 .rw[a9 c];have me:(gD 4<|eE p).natAbs<=39999:=by split at c<;>omega
  refine⟨p,gD 4<|eE p,rfl,rp,λwh=>⟨trivial,?_⟩,λo nw=>(h1 nr (λz=>z.whole o) λ_=>nw).2⟩
  unfold bE9 bF0 bF1;simp only[aS];left;rw[aO];exact h0 nr me wh
noncomputable def bY2 (r:List Int)(m:Int):Bool:=r.any λc=>decide (c%m≠0)
noncomputable def dB7 (p:List Int)(size:Int):Bool:=prL.all λq=>decide (size%(q*q)≠0)||
 ((List.range q.toNat).all (λc=>bY2 (a75 (p.length-1) (fOf p)<|j8 (c:Int)) (q*q))&&
   (decide (p.length≠5)||(List.range q.toNat).all λv=>(List.range q.toNat).all λu=>bY2 (a75 (p.length-1) (fOf p)<|quF (v:Int) (u:Int)) (q*q)))
theorem cI6 {p:Int}(mp:MP p F.1 F.2)(h1:F.1=1):F=j8 (F.2 0):=by
 refine kL h1 (funext λj=> ?_)
 show F.2 j=if j=0 then F.2 0 else if j=1 then 1 else 0
 by_cases c0:j=0
 .rw[aA c0,c0]
 .by_cases c1:j=1
  .rw[a9 c0,aA c1,c1];have:=mp.top;rw[h1]at this;exact this
  .rw[a9 c0,a9 c1];exact mp.hi j ad
theorem aV5 {r:List Int}(h: ∀c∈r,c%m=0):bY2 r m=false:=by
 unfold bY2;rw[List.any_eq_false];intro c hc;simp[h c hc]
theorem dB8 {size:Int}(rp:eV p)(h:dB7 p size=true): ¬ ∃q g,dP5 (p.length-1) (fOf p) size q g:=by
 rintro⟨q,g,o⟩;have lo:=rp.ok.lo;have hi:=rp.ok.hi;have pp:=aA6 o.pr;have h1:=eI.mp h q o.pr;rw[a11,dU]at h1;have nz: ¬decide (size%(q*q)≠0)=true:=by rw[gJ];exact λz=>z o.sq
 obtain⟨h2,h3⟩:=h1.resolve_left nz;obtain⟨R,mR,e⟩:=o.tw;have dg:p.length-1=g.1+g.1+R.1:=cT Prod.fst e;have g1:=o.g1
 by_cases c1:g.1=1
 .have eg:=cI6 o.mg c1;have r0:=o.mg.rng 0;have h4:=eI.mp h2 (g.2 0).toNat (dN.mpr ad)
  rw[show(((g.2 0).toNat:Nat):Int)=g.2 0 by lia,<-eg,aV5 o.all]at h4
  cases h4
 .have c2:g.1=2:=ad
  have eg:=mp_two o.mg c2;have r0:=o.mg.rng 0;have r1:=o.mg.rng 1;have n5: ¬decide (p.length≠5)=true:=by rw[gJ];lia
  have h4:=(a11 _ _▸h3).resolve_left n5;have h5:=eI.mp (eI.mp h4 (g.2 0).toNat<|dN.mpr ad) (g.2 1).toNat (dN.mpr ad)
  rw[show(((g.2 0).toNat:Nat):Int)=g.2 0 by lia,show(((g.2 1).toNat:Nat):Int)=g.2 1 by lia,<-eg,aV5 o.all]at h5
  cases h5
noncomputable def rP:List (List Int):=[[5,0,1],[-10,0,1],[6,1,1],[-3,0,1],[-1,-1,0,1],[-2,0,0,1],[-1,4,0,1],[1,0,0,0,1],[-1,-1,0,0,1],[1,1,1,1,1],[-2,0,0,0,1],[1,0,-1,0,1]]
theorem c72:rP.all (λp=>dB7 p (gD 4<|eE p)&&decide ((gD 4<|eE p).natAbs<=39999))=true:=af
theorem vO: ∀p∈rP,eV p:=by
 intro p hp;have h:rP.all (λp=>decide (3<=p.length)&&decide (p.length<=5)&&p.all (λx=>decide (x.natAbs<=499))&&decide (p=p.dropLast++[1]))=true:=af
 have h1:=eI.mp h p hp;simp only[dU,gJ,eI]at h1;exact⟨⟨h1.1.1.1,h1.1.1.2,h1.1.2⟩,p.dropLast,h1.2⟩
theorem cP5 (f:Nat->Int)(z:Int): ∀n,∃k,ps f z (n+1)=f 0+z*k
 | 0=>⟨0,by show 0+f 0*z^0=_;rw[cZ,fX,b6];lia⟩
 | n+1=>by
  obtain⟨k,hk⟩:=cP5 f z n;refine⟨k+f (n+1)*z^n,?_⟩;show ps f z (n+1)+f (n+1)*z^(n+1)=_;rw[hk,jK]
  grind
theorem aQ2 (h:z∣a)(ha:a≠0):z.natAbs<=a.natAbs:=a14 ad (aN0.mpr h)
theorem bY3:rP.all (λp=>decide (p.getD 0 0≠0)&&decide ((p.getD 0 0).natAbs<=10)&&(List.range 21).all λk=>decide (ev p ((k:Int)-10)≠0))=true:=af
theorem cI7:rP.all (λp=>decide (p.length≠5)||(decide ((p.getD 0 0).natAbs<=2)&&decide ((p.getD 2 0).natAbs<=1)&&decide ((p.getD 3 0).natAbs<=1)&&
  (List.range 5).all λv=>(List.range 5).all λw=>(List.range 7).all λu=>(List.range 9).all λs=>decide (p≠qq ((v:Int)-2) ((u:Int)-3) ((w:Int)-2) ((s:Int)-4))))=true:=af
theorem dB9 {u:Int}(h1:(u+s).natAbs<=1)(h2:(u*s).natAbs<=5):u.natAbs<=3:=by
 refine zN λz=> ?_
 rcases(show 4<=u\/u<= -4 by lia)with c|c
 .have:4*3<=u*(-s):=rA c ad ac ad
  rw[v5]at this
  lia
 .have:4*3<=(-u)*s:=rA ad ad ac ad
  rw[Int.neg_mul]at this
  lia
theorem off {c:Nat}(h:z.natAbs<=c): ∃k:Nat,k<2*c+1/\(k:Int)-(c:Int)=z:=⟨(z+c).toNat,ad,ad⟩
theorem cX5: ∀p∈rP,¬Red p:=by
 intro p hp;have h1:=eI.mp bY3 p hp;simp only[dU,gJ,eI,dN]at h1;obtain⟨⟨a0,a1⟩,a2⟩:=h1;have lo:=(vO p hp).ok.lo;rintro(⟨z,hz⟩| ⟨v,u,w,s,e⟩)
 .unfold ev at hz;obtain⟨k,hk⟩:=cP5 (λj=>p.getD j 0) z (p.length-1)
  rw[show p.length-1+1=p.length by omega,hz]at hk
  have dv:z∣p.getD 0 0:=⟨-k,by rw[v5];omega⟩
  obtain⟨k,hk,ez⟩:=off (c:=10) (aM (aQ2 dv a0) a1);refine a2 k hk ?_;rw[show((10:Nat):Int)=10 from rfl]at ez
  rw[ez];exact hz
 .have h2:=eI.mp cI7 p hp;have l5:p.length=5:=by rw[e];rfl
  rw[a11]at h2;have h3:=h2.resolve_left (by rw[gJ];omega)
  simp only[dU,gJ,eI,dN]at h3;obtain⟨⟨⟨b0,b2⟩,b3⟩,b4⟩:=h3;have e0:p.getD 0 0=v*w:=by rw[e];rfl
  have e2:p.getD 2 0=v+w+u*s:=by rw[e];rfl
  have e3:p.getD 3 0=u+s:=by rw[e];rfl
  have v2:=aQ2 (z:=v) ⟨w,e0⟩ a0;have w2:=aQ2 (z:=w) ⟨v,by rw[e0,dZ]⟩ a0
  rw[e2]at b2;rw[e3]at b3;have ng: ∀{z:Int} {A:Nat},z.natAbs<=A->(-z).natAbs<=A:=λh=>by rw[oA];exact h
  have u3:=dB9 b3 (by
   have:=na2 (na2 b2<|ng<|aM v2 b0) (ng<|aM w2 b0);rw[show v+w+u*s+ -v+ -w=u*s by grind]at this
   exact this)
  obtain⟨kv,hv,ev⟩:=off (c:=2) (aM v2 b0);obtain⟨kw,hw,ew⟩:=off (c:=2) (aM w2 b0);obtain⟨ku,hu,eu⟩:=off u3;obtain⟨ks,hs,es⟩:=off (z:=s) (c:=4) (by
   have:=na2 b3 (ng u3);rw[show u+s+ -u=s by lia]at this
   exact this)
  refine b4 kv hv kw hw ku hu ks hs ?_
  subst ev ew eu es;exact e
theorem c73: ∀p∈rP,dB5 p:=by
 intro p hp;have h1:=eI.mp c72 p hp;simp only[dU,gJ]at h1;exact⟨vO p hp,cX5 p hp,h1.2,dB8 (vO p hp) h1.1⟩
noncomputable def jT (C:Addr)(p:List Int):D:= .obj C ["poly","degree","measure"] [aS p,.int<|(p.length:Int)-1,.int<|gD 4<|eE p]
theorem wO (h:ρ[i]? =some (some<|.pu<|jT C p)):bC4 "degree" (aF i) ρ Q=Q (.pu<|.int<|(p.length:Int)-1) ρ:=by
 unfold bC4;rw[cO7 h];rfl
theorem bR7 (h:ρ[i]? =some (some<|.pu<|jT C p)):bC4 "poly" (aF i) ρ Q=Q (.pu<|aS p) ρ:=by
 unfold bC4;rw[cO7 h];rfl
noncomputable def ttF (p:List Int)(n:Nat)(u:Nat->Int):Nat->Int:=λi=>(if i=0 then 0 else u (i-1))-u (n-1)*p.getD i 0
def a42:Φ:=λds Q=> ∃(C:Addr) (p:List Int) (n:Nat) (u:Nat->Int),ds=[jT C p,aS<|rwF n u]/\eV p/\p.length=n+1/\Q (.pu<|aS<|rwF n<|ttF p n u)
def aJ7:US:=(dQ<|aU dL<|aC (gG [2,0] [none,some 3,some 2,some 0,none] 4 (kM<|aC (bC4 "degree"<|aF 0) aR) (dG 0) (λρ Q=>Q true ρ)<|uOp M.gSub (uIx (b7 1)<|aF 0)<|uOp fS (aF 2)<|uIx (uV<|bC4 "poly"<|aF 3)<|aF 0) aR)
def aJ8:US:=(aX (bV 3<|uOp iV (iT<|aC (uC<|.int 0) aR)<|uSl (b7 1) mQ<|pH<|sK<|uC<|.int 1) aJ7)
def a43:US:=(aX (bV 2<|uIx (b7 1)<|sK<|uC<|.int 1) aJ8)
theorem bY4: ∀ds Q,a42 ds Q->a43 {nx:=λ_=>Q (.pu .non),rt:=Q} (init ["r","x","l","m"] ds):=by
 rintro ds Q ⟨C,p,n,u,rfl,rp,hn,h⟩;have lo:=rp.ok.lo;have hi:=rp.ok.hi;unfold a43;simp only[aS];show(aX _ _:US) _ [some<|.pu<|jT C p,some<|.pu<|.tup<|(rwF n u).map .int,none,none];rw[aZ];left;rw[b47 ad]
 dsimp only;unfold aJ8;rw[aZ];left;have s1:HT.sIx n n (some<|-1)=n-1:=by
  show(if(-1:Int)<0 then(-1+(n:Int)).toNat else min (-1:Int).toNat n)=n-1
  rw[aA ac]
  lia
 have ec:cutD ((rwF n u).map D.int) none (some<|-1)=(rwF (n-1) u).map D.int:=by
  unfold cutD;rw[bC,HT.sIx_none,s1,List.drop_zero,uZ,<-oC,c61 _ _ _ ad]
 have em:[D.int 0]++(rwF (n-1) u).map D.int=(rwF n λi=>if i=0 then 0 else u (i-1)).map D.int:=by
  apply lK
  .simp[rwF];lia
  .intro k h1 h2;cases k with
   | zero=>simp[rwF]
   | succ k=>simp[rwF]
 rw[ec,em,bC,bC,HT.sIx_none,s1];refine⟨ac,ad,aM (show 0+1+(n-1)<=5 by lia) ac,?_⟩
 unfold aJ7;rw[j6,eU,eP]
 refine fG (t0:=0) n (λk=> .int (0+(k:Int))) [some<|.pu<|jT C p,some<|.pu<|.tup<|(rwF n u).map .int,some<|.pu<|.int<|u<|n-1,some<|.pu<|.tup<|(rwF n λi=>if i=0 then 0 else u (i-1)).map .int] (λQ' q=> ?_) ad (λx l'=>[x,some<|.pu<|.tup<|(rwF n λi=>if i=0 then 0 else u (i-1)).map .int,some<|.pu<|.int<|u<|n-1,some<|.pu<|jT C p,some<|.ow l']) none rfl (λ_ _ _=>rfl) (λ_ _=>cO _) (λ_ _ _ q=>q) (λ_ _ _=>rfl) (λk=> .int (ttF p n u k)) ?_ ?_
 .unfold kM;rw[eP,wO (C:=C) (p:=p) rfl];left;refine⟨⟨ad,ad⟩,?_⟩
  rw[show((p.length:Int)-1).toNat=n by lia]
  exact q
 .intro k l' Q' hk q;rw[bW];have e5:atI (p.map D.int) (k:Int)=some (.int<|p.getD k 0):=cG (by rw[bS,aV ad,aQ,aV ad];rfl)
  have e6:=gS rp.ok.small k;left;rw[oM hk];dsimp only;rw[bR7 (C:=C) (p:=p) rfl];simp only[aS];left;rw[e5];dsimp only;refine⟨cmR ad ad,?_⟩
  unfold ttF at q;rw[bW]at q;exact q
 .rw[vJ];exact h
noncomputable def itT (p:List Int)(n:Nat)(u:Nat->Int):Nat->Nat->Int
 | 0=>u
 | k+1=>ttF p n (itT p n u k)
def xM:Φ:=λds Q=> ∃(C:Addr) (p:List Int) (n:Nat) (u:Nat->Int),ds=[jT C p,aS<|rwF n u]/\eV p/\p.length=n+1/\Q (.pu<|.tup<|tbF n n<|itT p n u)
def aC1:US:=(dQ<|aU dL<|aC (aF 2) aR)
def aC2:US:=(aX (nA (kM<|aC (uOp M.gSub (bC4 "degree"<|aF 0)<|uC<|.int 1) aR) (dG 3)<|aS8 2<|aU a42<|aC (aF 0)<|aC (uIx (b7 2)<|sK<|uC<|.int 1) aR) aC1)
def xN:US:=(aX (bV 2<|n6<|aC (aF 1) aR) aC2)
theorem dC0 {m:Nat}(h:0<n):atI (tbF n m t) (-1)=some (aS<|rwF m<|t<|n-1):=by
 unfold L2.atI;have e:ixN (tbF n m t).length (-1)=some (n-1):=by
  unfold ixN;rw[j7,a9 ac,aA ad]
  congr 1
  lia
 rw[e];exact aG6 ad
theorem bL7: ∀ds Q,xM ds Q->xN {nx:=λ_=>Q (.pu .non),rt:=Q} (init ["r","x","t","s"] ds):=by
 rintro ds Q ⟨C,p,n,u,rfl,rp,hn,h⟩;have lo:=rp.ok.lo;have hi:=rp.ok.hi;unfold xN;show(aX _ _:US) _ [some<|.pu<|jT C p,some<|.pu<|aS<|rwF n u,none,none];rw[aZ];left;refine⟨ac,?_⟩
 unfold aC2;rw[aZ];refine cF (n-1) (λk=> .int (0+(k:Int))) [some<|.pu<|jT C p,some<|.pu<|aS<|rwF n u,some<|.ow<|tbF 1 n<|itT p n u,none] (λQ' q=> ?_)
  (λk ρ=> ∃x,ρ=[some<|.pu<|jT C p,some<|.pu<|aS<|rwF n u,some<|.ow<|tbF (k+1) n<|itT p n u,x]) ⟨none,rfl⟩ ?_ ?_
 .unfold kM;rw[eP,cI0,wO (C:=C) (p:=p) rfl];left;refine⟨⟨ad,ad⟩,?_⟩
  rw[show((p.length:Int)-1-1).toNat=n-1 by lia]
  exact q
 .rintro k ρ hk ⟨x,rfl⟩;left;rw[dC0 ad,cN]
  dsimp only;refine⟨ae,C,p,n,itT p n u k,rfl,rp,hn,?_⟩
  left
  rw[j7];refine⟨bG (show k+1<10 by lia) ac,some<|.pu<|.int<|0+(k:Int),?_⟩
  have e:tbF (k+1) n (itT p n u)++[aS<|rwF n<|ttF p n<|itT p n u k]=tbF (k+1+1) n (itT p n u):=by
   rw[aU8];unfold tbF;apply kE;intro i hi';dsimp only
   by_cases c:i=k+1
   .rw[aA c,c];rfl
   .rw[a9 c]
  rw[e]
 .rintro ρ ⟨x,rfl⟩;rw[show n-1+1=n by lia]
  dsimp only;unfold aC1;left;exact h
noncomputable def k7 (n:Nat)(f:Nat->Int):Int:=((List.range n).map f).sum
noncomputable def gE (p:List Int)(n:Nat)(u v:Nat->Int):Nat->Int:=λj=>k7 n λi=>v i*itT p n u i j
theorem cX6 {a:Nat}(hp: ∀x∈p,x.natAbs<=499)(hu: ∀j,(u j).natAbs<=2^a)(j:Nat):(ttF p n u j).natAbs<=2^(a+9):=by
 unfold ttF;have h1:(if j=0 then(0:Int)else u (j-1)).natAbs<=2^a:=by
  split
  .simp
  .exact hu _
 have h2:(u (n-1)*p.getD j 0).natAbs<=2^a*499:=by rw[dW];exact i4 (hu _) (gS hp j)
 have h3:=a02 (if j=0 then(0:Int)else u (j-1)) (u (n-1)*p.getD j 0);rw[i5];have:(2:Nat)^9=512:=rfl
 lia
theorem b16 {p:List Int}{n a:Nat}{u:Nat->Int}(hp: ∀x∈p,x.natAbs<=499)(hu: ∀j,(u j).natAbs<=2^a): ∀k j,(itT p n u k j).natAbs<=2^(a+9*k)
 | 0,j=>hu j
 | k+1,j=>by
  have:=cX6 (n:=n) hp (λj=>b16 (n:=n) hp hu k j) j
  rw[a19,<-oE];exact this
def aQ3:Φ:=λds Q=> ∃(C:Addr) (p:List Int) (n e:Nat) (u v:Nat->Int),ds=[jT C p,aS<|rwF n u,aS<|rwF n v]/\eV p/\p.length=n+1/\e<=8900/\(∀j,(u j).natAbs<=2^e)/\(∀j,(v j).natAbs<=2^e)/\Q (.pu<|aS<|rwF n<|gE p n u v)
def b52:US:=(dQ<|aU dL<|aC (gG [3] [none,some 3,some 2,some 4,none] 4 (kM<|aC (aF 3) aR) (dG 0) (λρ Q=>Q true ρ)<|aU dL6<|aC (gG [0] [none,some 2,some 3,some 0,none] 4 (kM<|aC (aF 1) aR) (dG 0) (λρ Q=>Q true ρ)<|uOp fS (uIx (b7 1)<|aF 0)<|uIx (uV<|uIx (b7 2)<|aF 0)<|aF 3) aR) aR)
def aC3:US:=(aX (bV 4<|aU xM<|aC (aF 0)<|aC (aF 1) aR) b52)
def aQ4:US:=(aX (bV 3<|bC4 "degree"<|aF 0) aC3)
theorem cI8: ∀ds Q,aQ3 ds Q->aQ4 {nx:=λ_=>Q (.pu .non),rt:=Q} (init ["r","x","y","n","t"] ds):=by
 rintro ds Q ⟨C,p,n,e,u,v,rfl,rp,hn,he,hu,hv,h⟩;have lo:=rp.ok.lo;have hi:=rp.ok.hi;unfold aQ4;show(aX _ _:US) _ [some<|.pu<|jT C p,some<|.pu<|aS<|rwF n u,some<|.pu<|aS<|rwF n v,none,none];rw[aZ,sE,wO (C:=C) (p:=p) rfl];show aC3 _ [some<|.pu<|jT C p,some<|.pu<|aS<|rwF n u,some<|.pu<|aS<|rwF n v,some<|.pu<|.int<|(p.length:Int)-1,none];rw[show(p.length:Int)-1=(n:Int)by lia]
 unfold aC3;rw[aZ];left;refine⟨C,p,n,u,rfl,rp,hn,?_⟩;dsimp only;unfold b52;rw[j6,eU,eP]
 refine fG (t0:=0) n (λk=> .int (0+(k:Int))) [some<|.pu<|jT C p,some<|.pu<|aS<|rwF n u,some<|.pu<|aS<|rwF n v,some<|.pu<|.int (n:Int),some<|.pu<|.tup<|tbF n n<|itT p n u] (λQ' q=> ?_) ad (λx l'=>[x,some<|.pu<|.int (n:Int),some<|.pu<|aS<|rwF n v,some<|.pu<|.tup<|tbF n n<|itT p n u,some<|.ow l']) none rfl (λ_ _ _=>rfl) (λ_ _=>cO _) (λ_ _ _ q=>q) (λ_ _ _=>rfl) (λk=> .int (gE p n u v k)) ?_ ?_
 .left
  refine⟨⟨ad,ad⟩,?_⟩
  rw[eH];exact q
 .intro j l Q' hj q;rw[bW]at q⊢;rw[eU,eP]
  refine fG (t0:=0) n (λk=> .int (0+(k:Int))) [some<|.pu<|.int (j:Int),some<|.pu<|.int (n:Int),some<|.pu<|aS<|rwF n v,some<|.pu<|.tup<|tbF n n<|itT p n u,some<|.ow l] (λQ' q=> ?_) ad (λx l'=>[x,some<|.pu<|aS<|rwF n v,some<|.pu<|.tup<|tbF n n<|itT p n u,some<|.pu<|.int (j:Int),some<|.ow l']) none rfl (λ_ _ _=>rfl) (λ_ _=>cO _) (λ_ _ _ q=>q) (λ_ _ _=>rfl) (λi=> .int (v i*itT p n u i j)) ?_ ?_
  .left
   refine⟨⟨ad,ad⟩,?_⟩
   rw[eH];exact q
  .intro i l' Q' hi' q;rw[bW]at q⊢;simp only[aS];left;rw[oM hi',bD5 hi'];simp only[aS];rw[oM hj];dsimp only;have b:=b16 (n:=n) rp.ok.small hu i j;exact⟨.inr ⟨Sm.pow (hv i) ad,Sm.pow b ad⟩,q⟩
  .rw[vJ];left;rw[bP6];exact q
 .rw[vJ];exact h
noncomputable def bL8 (p:List Int)(n k:Nat)(f:Nat->Int):Nat->Int:=λm=>if k-n<=m/\m<k then f m-f k*p.getD (m-(k-n)) 0 else f m
noncomputable def aV6 (p:List Int)(n:Nat)(f:Nat->Int):Nat->Nat->Int
 | 0=>f
 | t+1=>bL8 p n (2*n-2-t) (aV6 p n f t)
theorem red2 (p:List Int)(u v:Nat->Int)(hu: ∀j,2<=j->u j=0)(hv: ∀j,2<=j->v j=0): ∀j,j<2->aV6 p 2 (conv u v 2) 1 j=gE p 2 u v j
 | 0,_=>by simp[aV6,bL8,conv,shF,gE,k7,itT,ttF,cB,hv];grind
 | 1,_=>by simp[aV6,bL8,conv,shF,gE,k7,itT,ttF,cB,hv];grind
theorem red3 (p:List Int)(u v:Nat->Int)(hu: ∀j,3<=j->u j=0)(hv: ∀j,3<=j->v j=0): ∀j,j<3->aV6 p 3 (conv u v 3) 2 j=gE p 3 u v j
 | 0,_=>by simp[aV6,bL8,conv,shF,gE,k7,itT,ttF,cB,hv];grind
 | 1,_=>by simp[aV6,bL8,conv,shF,gE,k7,itT,ttF,cB,hv];grind
 | 2,_=>by simp[aV6,bL8,conv,shF,gE,k7,itT,ttF,cB,hv];grind
theorem red4 (p:List Int)(u v:Nat->Int)(hu: ∀j,4<=j->u j=0)(hv: ∀j,4<=j->v j=0): ∀j,j<4->aV6 p 4 (conv u v 4) 3 j=gE p 4 u v j
 | 0,_=>by simp[aV6,bL8,conv,shF,gE,k7,itT,ttF,cB,hv];grind
 | 1,_=>by simp[aV6,bL8,conv,shF,gE,k7,itT,ttF,cB,hv];grind
 | 2,_=>by simp[aV6,bL8,conv,shF,gE,k7,itT,ttF,cB,hv];grind
 | 3,_=>by simp[aV6,bL8,conv,shF,gE,k7,itT,ttF,cB,hv];grind
theorem cP6 (n2:2<=n)(n4:n<=4)(hu: ∀j,n<=j->u j=0)(hv: ∀j,n<=j->v j=0):rwF n (aV6 p n (conv u v n)<|n-1)=rwF n (gE p n u v):=by
 refine kR λj hj=> ?_
 rcases(show n=2\/n=3\/n=4 by lia)with rfl|rfl|rfl
 .exact red2 p u v hu hv j hj
 .exact red3 p u v hu hv j hj
 .exact red4 p u v hu hv j hj
theorem bF2 (row:List Int)(s:Int): ∀k,(b09 row s k).length=row.length
 | 0=>rfl
 | k+1=>by unfold b09;rw[eZ];exact bF2 row s k
theorem cP7 (p:List Int)(s:Int): ∀k,(shK p s k).length=p.length
 | 0=>rfl
 | k+1=>by unfold shK;rw[bF2];exact cP7 p s k
theorem dC1 (h:k<n):ixN n (k:Int)=some k:=by
 unfold ixN;rw[aA ad,aA ad,eH]
theorem dC2 (l:List Int)(k:Nat)(x:Int):(l.map D.int).set k (.int x)=(l.set k x).map D.int:=by rw[List.map_set]
def a44:Φ:=λds Q=> ∃(p:List Int) (s:Int),ds=[aS p,.int s]/\3<=p.length/\p.length<=5/\s.natAbs<=3/\Q (.pu<|aS<|shK p s<|p.length-1)
def aQ5:US:=(aX (bV 2<|aU aG0<|aC (aF 0) aR)<|aX (nA (kM<|aC (uOp M.gSub (nL<|b7 2)<|uC<|.int 1) aR) (dG 3)<|nA (cN7<|aC (uOp M.gSub (nL<|b7 2)<|uC<|.int 2)<|aC (uOp M.gSub (aF 3)<|uC<|.int 1)<|aC (sK<|uC<|.int 1) aR) (dG 4)<|b42 2 (uOp iV (uIx (b7 2)<|aF 4)<|uOp fS (aF 1)<|uIx (b7 2)<|uOp iV (aF 4)<|uC<|.int 1)<|aF 4)<|dQ<|aU dL<|aC (aF 2) aR)
theorem cI9: ∀ds Q,a44 ds Q->aQ5 {nx:=λ_=>Q (.pu .non),rt:=Q} (init ["p","s","r","l","a"] ds):=by
 rintro ds Q ⟨p,s,rfl,h3,h5,hs,h⟩;have lp:(p.map D.int).length=p.length:=aO _;unfold aQ5;show(aX _ _:US) _ [some<|.pu<|.tup<|p.map .int,some<|.pu<|.int s,none,none,none];left;refine cF (p.length-1) (λi=> .int (0+i)) [some<|.pu<|.tup<|p.map .int,some<|.pu<|.int s,some<|.ow<|p.map .int,none,none] ?_
  (λi ρ=> ∃x y,ρ=[some<|.pu<|.tup<|p.map .int,some<|.pu<|.int s,some<|.ow<|(shK p s i).map .int,x,y]) ⟨none,none,rfl⟩ ?_ ?_
 .intro Q' q;simp only[kM];left;rw[lp];refine⟨ad,?_⟩
  rw[show((p.length:Int)-1).toNat=p.length-1 by lia]
  exact q
 .rintro i ρ hi ⟨x,y,rfl⟩;have lk:=cP7 p s i;have e1:shK p s (i+1)=b09 (shK p s i) s (p.length-1-i):=rfl;rw[e1];generalize shK p s i=row at lk;have lrow:(row.map D.int).length=row.length:=aO _;left;refine⟨ac,?_⟩
  refine cF (p.length-1-i) (λk=> .int ((p.length:Int)-2-k)) [some<|.pu<|.tup<|p.map .int,some<|.pu<|.int s,some<|.ow<|row.map .int,some<|.pu<|.int<|0+(i:Int),y] ?_
   (λk ρ=> ∃y,ρ=[some<|.pu<|.tup<|p.map .int,some<|.pu<|.int s,some<|.ow<|(b09 row s k).map .int,some<|.pu<|.int<|0+(i:Int),y]) ⟨y,rfl⟩ ?_ ?_
  .intro Q' q;simp only[cN7];left;rw[lrow,lk];refine⟨trivial,ad,?_⟩
   rw[show((p.length:Int)-2-(0+(i:Int)-1)).toNat=p.length-1-i by lia]
   exact q
  .rintro k ρ hk ⟨y,rfl⟩;have l2:=bF2 row s k;left;refine⟨ac,?_⟩
   have a1:(p.length:Int)-2-(k:Int)=((p.length-2-k:Nat):Int):=ad
   have a2:((p.length-2-k:Nat):Int)+1=((p.length-1-k:Nat):Int):=ad
   rw[a1,a2,aA3<|show p.length-2-k< (b09 row s k).length by lia,aA3<|show p.length-1-k< (b09 row s k).length by lia]
   dsimp only;rw[dC1 (show p.length-2-k< ((b09 row s k).map D.int).length by rw[aO];lia)]
   refine⟨cmL ad ad,some<|.pu<|.int ((p.length-2-k:Nat):Int),?_⟩
   rw[dC2];rw[<-lk];rfl
  .rintro ρ ⟨y,rfl⟩;exact⟨_,_,rfl⟩
 .rintro ρ ⟨x,y,rfl⟩;left;exact h
def xO:Φ:=λds Q=> ∃c:Int,ds=[.int c]/\ ∀p∈rP,Q (.pu<|aS p)
def aC4:US:=(dQ<|uIx (b7 1)<|uOp pX (aU aA1<|aC (aF 0)<|aC (uC<|.int 3)<|aC (uC<|.int 998244353) aR)<|uC<|.int 12)
def aC5:US:=(aX (bV 1<|uOp iV (aF 1)<|n6<|aC (iT<|aC (uC<|.int 1)<|aC (uC<|.int 0)<|aC (uC<|.int 0)<|aC (uC<|.int 0)<|aC (uC<|.int 1) aR)<|aC (iT<|aC (sK<|uC<|.int 1)<|aC (sK<|uC<|.int 1)<|aC (uC<|.int 0)<|aC (uC<|.int 0)<|aC (uC<|.int 1) aR)<|aC (iT<|aC (uC<|.int 1)<|aC (uC<|.int 1)<|aC (uC<|.int 1)<|aC (uC<|.int 1)<|aC (uC<|.int 1) aR)<|aC (iT<|aC (sK<|uC<|.int 2)<|aC (uC<|.int 0)<|aC (uC<|.int 0)<|aC (uC<|.int 0)<|aC (uC<|.int 1) aR)<|aC (iT<|aC (uC<|.int 1)<|aC (uC<|.int 0)<|aC (sK<|uC<|.int 1)<|aC (uC<|.int 0)<|aC (uC<|.int 1) aR) aR) aC4)
def xP:US:=(aX (bV 1<|n6<|aC (iT<|aC (uC<|.int 5)<|aC (uC<|.int 0)<|aC (uC<|.int 1) aR)<|aC (iT<|aC (sK<|uC<|.int 10)<|aC (uC<|.int 0)<|aC (uC<|.int 1) aR)<|aC (iT<|aC (uC<|.int 6)<|aC (uC<|.int 1)<|aC (uC<|.int 1) aR)<|aC (iT<|aC (sK<|uC<|.int 3)<|aC (uC<|.int 0)<|aC (uC<|.int 1) aR)<|aC (iT<|aC (sK<|uC<|.int 1)<|aC (sK<|uC<|.int 1)<|aC (uC<|.int 0)<|aC (uC<|.int 1) aR)<|aC (iT<|aC (sK<|uC<|.int 2)<|aC (uC<|.int 0)<|aC (uC<|.int 0)<|aC (uC<|.int 1) aR)<|aC (iT<|aC (sK<|uC<|.int 1)<|aC (uC<|.int 4)<|aC (uC<|.int 0)<|aC (uC<|.int 1) aR) aR) aC5)
theorem dC3 {k:Int}(h0:0<=k)(h1:k<12): ∃p∈rP,atI (rP.map aS) k=some (aS p):=by
 obtain⟨i,rfl⟩: ∃i:Nat,k=(i:Int):=⟨k.toNat,ad⟩
 have hi:i<rP.length:=show i<12 by lia
 exact⟨rP[i],eJ hi,cG (by rw[bS,aV hi];rfl)⟩
theorem bL9: ∀ds Q,xO ds Q->xP {nx:=λ_=>Q (.pu .non),rt:=Q} (init ["c","k"] ds):=by
 rintro ds Q ⟨c,rfl,h⟩;unfold xP;show(aX _ _:US) _ [some<|.pu<|.int c,none];rw[aZ];left;refine⟨ac,ac,ac,ac,ac,ac,ac,ac,?_⟩
 unfold aC5;rw[aZ];left;refine⟨ac,ac,ac,ac,ac,ac,ac,?_⟩
 unfold aC4;left;refine⟨c,3,998244353,rfl,ac,ac,ac,λr r0 r1=> ?_⟩
 left
 refine⟨ac,?_⟩
 rw[eO _ ac]
 obtain⟨p,hp,e⟩:=dC3 (cA r<|show(12:Int)≠0 by decide) (bZ r<|show(0:Int)<12 by decide)
 have e': ∀l:List D,l=rP.map aS->(match atI l (r%12)with|some x=>Q (.pu x)|none=>False):=λl hl=>by
  rw[hl,e];exact h p hp
 exact e' _ rfl
def bY5:Φ:=λds Q=> ∃c q:Int,ds=[.int c,.int q]/\0<q/\ ∀p,eV p->Q (.pu<|aS p)
structure RG (p:List Int):Prop where
 irr: ¬Red p
 meas:(gD 4<|eE p).natAbs<=39999
 wh:Wh (p.length-1) (fOf p) (gD 4<|eE p)
def bY6:Φ:=λds Q=> ∃(ns:List Int) (k:Nat) (q:Int),ds=[.rol<|ns.map .int,.int (k:Int),.int q]/\ns.length<=63/\k<=1000/\0<q/\ ∀C p,eV p->RG p->Q (.pu<|jT C p)
def bF3:US:=(sJ 3)
def c74:US:=(aX (iU (fO<|bK8 false<|aF 3) (bV 3<|d82 ["poly","degree","measure"] yV<|aC (aU xO<|aC (aU aU2<|aC (aF 0)<|aC (aF 1) aR) aR) aR) fT) bF3)
def c75:US:=(aX (nA (kM<|aC (uC<|.int 3) aR) (dG 4)<|iU (fO<|bK8 false<|aF 3) (d83 3 ["poly","degree","measure"] yV (aC (aU bY5<|aC (aU aU2<|aC (aF 0)<|aC (uOp iV (aF 1)<|aF 4) aR)<|aC (aF 2) aR) aR) ["FallsApart","TooGreat","NotWhole"]<|bV 3<|uC .non) fT) c74)
def bY7:US:=(aX (bV 3<|uC .non) c75)
theorem dP7: ∀ds Q,bY6 ds Q->bY7 {nx:=λ_=>Q (.pu .non),rt:=Q} (init ["s","k","q","f","j"] ds):=by
 rintro ds Q ⟨ns,k,q,rfl,hl,hk,hq,h⟩;unfold bY7;show(aX _ _:US) _ [some<|.pu<|.rol<|ns.map .int,some<|.pu<|.int (k:Int),some<|.pu<|.int q,none,none];rw[aZ];left;unfold c75;rw[aZ];refine cF 3 (λi=> .int (0+i)) [some<|.pu<|.rol<|ns.map .int,some<|.pu<|.int (k:Int),some<|.pu<|.int q,some<|.pu .non,none] (λQ' q=> ?_)
  (λi ρ=> ∃d x,ρ=[some<|.pu<|.rol<|ns.map .int,some<|.pu<|.int (k:Int),some<|.pu<|.int q,some<|.pu d,x]/\(d= .non\/ ∃C p,eV p/\RG p/\d=jT C p)) ⟨.non,none,rfl,.inl rfl⟩ ?_ ?_
 .left
  exact⟨ac,q⟩
 .rintro i ρ hi ⟨d,x,rfl,hd⟩;refine⟨ae,?_⟩
  rcases hd with rfl| ⟨C,p,rp,nr,rfl⟩
  .left
   unfold d83;left;refine⟨ns,(k:Int)+(0+(i:Int)),rfl,hl,ad,ad,λc=>⟨c,q,rfl,hq,λp rp=> ?_⟩⟩
   left
   refine⟨p,rfl,rp,λnr me wh C=>⟨jT C p,some<|.pu<|.int<|0+(i:Int),rfl,.inr ⟨C,p,rp,⟨nr,me,wh⟩,rfl⟩⟩,λ_ _ _ _=>⟨ae,.non,_,rfl,.inl rfl⟩,λ_ _ _=>⟨⟨ae,.non,_,rfl,.inl rfl⟩,λ_=>⟨ae,.non,_,rfl,.inl rfl⟩⟩⟩
  .simp only[jT];left;exact⟨jT C p,_,rfl,.inr ⟨C,p,rp,nr,rfl⟩⟩
 .rintro ρ ⟨d,x,rfl,hd⟩;dsimp only;unfold c74;rw[aZ];rcases hd with rfl| ⟨C,p,rp,nr,rfl⟩
  .left
   unfold d82;left;refine⟨ns,(k:Int),rfl,hl,ad,ad,λc=>⟨c,rfl,λp hp=> ?_⟩⟩
   left
   refine⟨p,rfl,vO p hp,λnr me wh C=> ?_,λred=>absurd red (c73 p hp).irr,λ_ z=>absurd (c73 p hp) z⟩
   unfold bF3;left;exact h C p (vO p hp) ⟨nr,me,wh⟩
  .simp only[jT];left;unfold bF3;left;exact h C p rp nr
def c76:US:=(dQ<|aU a44<|aC (iT<|aC (uOp M.gSub (uIx (b7 4)<|uC<|.int 2)<|uC<|.int 3)<|aC (uOp M.gSub (uIx (b7 4)<|uC<|.int 3)<|uC<|.int 3)<|aC (uOp M.gSub (uIx (b7 4)<|uC<|.int 4)<|uC<|.int 3)<|aC (uOp M.gSub (uIx (b7 4)<|uC<|.int 6)<|uC<|.int 3)<|aC (uC<|.int 1) aR)<|aC (uOp M.gSub (uIx (b7 4)<|uC<|.int 5)<|uC<|.int 2) aR)
def c77:US:=(aX (bV 4<|aU sN<|aC (aF 0)<|aC (n6<|aC (uC<|.int 3)<|aC (uC<|.int 8)<|aC (uC<|.int 7)<|aC (uC<|.int 7)<|aC (uC<|.int 7)<|aC (uC<|.int 5)<|aC (uC<|.int 7) aR)<|aC (aF 1) aR) c76)
def c78:US:=(aX (iU (fO<|uOp (lQ false) (uIx (b7 2)<|uC<|.int 0)<|uC<|.int 1) (dQ<|aU a44<|aC (iT<|aC (uOp M.gSub (uIx (b7 4)<|uC<|.int 2)<|uC<|.int 4)<|aC (uOp M.gSub (uIx (b7 4)<|uC<|.int 3)<|uC<|.int 4)<|aC (uOp M.gSub (uIx (b7 4)<|uC<|.int 4)<|uC<|.int 4)<|aC (uC<|.int 1) aR)<|aC (uOp M.gSub (uIx (b7 4)<|uC<|.int 5)<|uC<|.int 2) aR) fT) c77)
def c79:US:=(aX (iU (fO<|uOp (lQ false) (uIx (b7 2)<|uC<|.int 0)<|uC<|.int 0) (aX (bV 4<|aU sN<|aC (aF 0)<|aC (n6<|aC (uC<|.int 3)<|aC (uC<|.int 8)<|aC (uC<|.int 161)<|aC (uC<|.int 41) aR)<|aC (aF 1) aR)<|dQ<|iT<|aC (uOp M.gSub (uIx (b7 4)<|uC<|.int 2)<|uC<|.int 80)<|aC (uOp M.gSub (uIx (b7 4)<|uC<|.int 3)<|uC<|.int 20)<|aC (uC<|.int 1) aR) fT) c78)
def bF4:US:=(aX (bV 4<|aU sN<|aC (aF 0)<|aC (n6<|aC (uC<|.int 3)<|aC (uC<|.int 8)<|aC (uC<|.int 9)<|aC (uC<|.int 9)<|aC (uC<|.int 9)<|aC (uC<|.int 5)<|aC (uC<|.int 7) aR)<|aC (aF 1) aR) c79)
def c80:US:=(aX (iU (fO<|uOp (lQ false) (uIx (b7 2)<|uC<|.int 1)<|uC<|.int 7) (dQ<|aU dL<|aC (uOp iV (gG [] [none,none] 1 (iN<|aF 3) (dG 0) (λρ Q=>Q true ρ)<|uOp M.gSub (aF 0)<|uC<|.int 499)<|n6<|aC (uC<|.int 1) aR) aR) fT) bF4)
def c81:US:=(aX (bV 3<|uSl (uV<|aU sN<|aC (aF 0)<|aC (n6<|aC (uC<|.int 3)<|aC (uC<|.int 8)<|aC (uC<|.int 999)<|aC (uC<|.int 999)<|aC (uC<|.int 999)<|aC (uC<|.int 999) aR)<|aC (aF 1) aR) (pH<|uC<|.int 2)<|pH<|uOp iV (uIx (b7 2)<|uC<|.int 0)<|uC<|.int 4) c80)
def bY8:US:=(aX (bV 2<|aU sN<|aC (aF 0)<|aC (n6<|aC (uC<|.int 3)<|aC (uC<|.int 8) aR)<|aC (aF 1) aR) c81)
theorem rp_two (ha:a.natAbs<=499)(hb:b.natAbs<=499):eV [a,b,1]:=⟨⟨ae,ae,λx hx=>by
 simp only[bE,eY,fE]at hx;rcases hx with rfl|rfl|rfl<;>lia⟩,[a,b],rfl⟩
theorem nba {m:Nat}(hx:x.natAbs<=m)(hy:y.natAbs<=k):(x+y).natAbs<=m+k:=aM (a00 x y) (Nat.add_le_add hx hy)
theorem nbm {m:Nat}(hx:x.natAbs<=m)(hy:y.natAbs<=k):(x*y).natAbs<=m*k:=by rw[dW];exact i4 hx hy
theorem nbl {m:Nat}(h:decide (m<=k)=true)(hx:x.natAbs<=m):x.natAbs<=k:=aM hx (a01 h)
theorem nbc (n:Nat):((n:Nat):Int).natAbs<=n:=aG n
theorem rp_sh3 (ha:a.natAbs<=4)(hb:b.natAbs<=4)(hc:c.natAbs<=4)(hs:s.natAbs<=2):eV (shK [a,b,c,1] s 3):=by
 rw[she3];refine⟨⟨by simp[sh3],by simp[sh3],λx hx=> ?_⟩,_,rfl⟩
 simp only[sh3,List.cons_append,a08,bE,eY,fE]at hx;have s2:=nbm hs hs;have s3:=nbm s2 hs;rcases hx with rfl|rfl|rfl|rfl
 .exact nbl rfl (nba (nba (nba ha<|nbm hs hb)<|nbm s2 hc) s3)
 .exact nbl rfl (nba (nba hb<|nbm (nbm (nbc 2) hs) hc)<|nbm (nbm (nbc 3) hs) hs)
 .exact nbl rfl (nba hc<|nbm (nbc 3) hs)
 .decide
theorem rp_sh4 {d:Int}(ha:a.natAbs<=3)(hb:b.natAbs<=3)(hc:c.natAbs<=3)(hd:d.natAbs<=3)(hs:s.natAbs<=2):eV (shK [a,b,c,d,1] s 4):=by
 rw[she4];refine⟨⟨by simp[sh4],by simp[sh4],λx hx=> ?_⟩,_,rfl⟩
 simp only[sh4,List.cons_append,a08,bE,eY,fE]at hx;have s2:=nbm hs hs;have s3:=nbm s2 hs;rcases hx with rfl|rfl|rfl|rfl|rfl
 .exact nbl rfl (nba (nba (nba (nba ha<|nbm hs hb)<|nbm s2 hc)<|nbm s3 hd)<|nbm s3 hs)
 .exact nbl rfl (nba (nba (nba hb<|nbm (nbm (nbc 2) hs) hc)<|nbm (nbm (nbm (nbc 3) hs) hs) hd)<|nbm (nbm (nbm (nbc 4) hs) hs) hs)
 .exact nbl rfl (nba (nba hc<|nbm (nbm (nbc 3) hs) hd)<|nbm (nbm (nbc 6) hs) hs)
 .exact nbl rfl (nba hd<|nbm (nbc 4) hs)
 .decide
theorem dP8 (h2:2<=ws.length)(h4:ws.length<=4)(hb: ∀w∈ws,0<=w/\w<999):eV (ws.map (λw=>w-499)++[1]):=by
 refine⟨⟨by rw[bY,aO];show 3<=ws.length+1;lia,by rw[bY,aO];show ws.length+1<=5;lia,λx hx=> ?_⟩,_,rfl⟩
 rcases cP.mp hx with hx|hx
 .obtain⟨w,hw,rfl⟩:=fB.mp hx;have:=hb w hw
  lia
 .rw[iH.mp hx];decide
theorem cX7 (c q a b:Int)(ws:List Int)(h4:ws.length<=4)(Q:B->Prop)(h:Q (.pu<|aS<|ws.map (λw=>w-499)++[1])) :
  (dQ (aU dL<|aC (uOp iV (gG [] [none,none] 1 (iN<|aF 3) (dG 0) (λρ Q=>Q true ρ)<|uOp M.gSub (aF 0)<|uC<|.int 499)<|n6<|aC (uC<|.int 1) aR) aR):US) {nx:=λ_=>Q (.pu .non),rt:=Q} [some<|.pu<|.int c,some<|.pu<|.int q,some<|.ow [.int a,.int b],some<|.ow<|ws.map .int,none]:=by
 rw[j6,eU,eP,cI0];refine fG (t0:=0) ws.length (λk=>(ws.map D.int).getD k .non) [some<|.pu<|.int c,some<|.pu<|.int q,some<|.ow [.int a,.int b],some<|.pu<|.lst<|ws.map .int,none] (λQ' q=> ?_) ad (λx l'=>[x,some<|.ow l']) none rfl (λ_ _ _=>rfl) (λ_ _=>cO _) (λ_ _ _ q=>q) (λ_ _ _=>rfl) (λk=> .int (ws.getD k 0-499)) ?_ ?_
 .left
  rw[aO];exact q
 .intro k l' Q' hk q';have e3:(ws.map D.int).getD k .non= .int (ws.getD k 0):=by
   rw[aQ,bS,aQ,aV hk];rfl
  rw[e3]at q'⊢;left;exact q'
 .have e4:(List.range ws.length).map (λk=>D.int (ws.getD k 0-499))=(ws.map λw=>w-499).map D.int:=by
   apply lK
   .simp
   .intro i h1 h2;simp at h1;simp[aQ,h1]
  rw[e4];left;have e5:(ws.map λw=>w-499).map D.int++[D.int 1]=(ws.map (λw=>w-499)++[1]).map D.int:=by rw[cJ];rfl
  rw[e5];refine⟨ac,?_,h⟩
  rw[aO,aO];exact aM (show ws.length+(0+1)<=5 by lia) ac
theorem dC4 (c q a b:Int)(w:Option B)(a0:0<=a)(a1:a<3)(hq:0<q)(Q:B->Prop)(h: ∀p,eV p->Q (.pu<|aS p)) :
  bF4 {nx:=λ_=>Q (.pu .non),rt:=Q} [some<|.pu<|.int c,some<|.pu<|.int q,some<|.ow [.int a,.int b],w,none]:=by
 unfold bF4;rw[aZ];left;refine⟨ac,c,[3,8,9,9,9,5,7],q,rfl,ac,hq,ac,λxs hx=> ?_⟩
 obtain⟨x0,x1,x2,x3,x4,x5,x6,rfl⟩: ∃x0 x1 x2 x3 x4 x5 x6,xs=[x0,x1,x2,x3,x4,x5,x6]:=by
  match xs,hx.1 with
  | [x0,x1,x2,x3,x4,x5,x6],_=>exact⟨x0,x1,x2,x3,x4,x5,x6,rfl⟩
 have b2:=hx.2 2 x2 9 rfl rfl;have b3:=hx.2 3 x3 9 rfl rfl;have b4:=hx.2 4 x4 9 rfl rfl;have b5:=hx.2 5 x5 5 rfl rfl;simp only[cR,jI];unfold c79;rw[aZ];left;rw[aU0];dsimp only
 by_cases c0:a=0
 .rw[aA c0];refine⟨ac,c,[3,8,161,41],q,rfl,ac,hq,ac,λys hy=> ?_⟩
  obtain⟨y0,y1,y2,y3,rfl⟩: ∃y0 y1 y2 y3,ys=[y0,y1,y2,y3]:=by
   match ys,hy.1 with
   | [y0,y1,y2,y3],_=>exact⟨y0,y1,y2,y3,rfl⟩
  have k2:=hy.2 2 y2 161 rfl rfl;have k3:=hy.2 3 y3 41 rfl rfl;simp only[cR,jI]
  (try left)
  rw[show atI [D.int y0,.int y1,.int y2,.int y3] 2=some (.int y2)from cG (j:=2) rfl,show atI [D.int y0,.int y1,.int y2,.int y3] 3=some (.int y3)from cG (j:=3) rfl]
  dsimp only;exact⟨ac,h [y2-80,y3-20,1]<|rp_two ad ad⟩
 rw[a9 c0];have t2:atI [D.int x0,.int x1,.int x2,.int x3,.int x4,.int x5,.int x6] 2=some (.int x2):=cG (j:=2) rfl;have t3:atI [D.int x0,.int x1,.int x2,.int x3,.int x4,.int x5,.int x6] 3=some (.int x3):=cG (j:=3) rfl;have t4:atI [D.int x0,.int x1,.int x2,.int x3,.int x4,.int x5,.int x6] 4=some (.int x4):=cG (j:=4) rfl
 have t5:atI [D.int x0,.int x1,.int x2,.int x3,.int x4,.int x5,.int x6] 5=some (.int x5):=cG (j:=5) rfl;unfold c78;rw[aZ];left;rw[aU0];dsimp only
 by_cases c1:a=1
 .rw[aA c1,t2,t3,t4,t5];dsimp only;exact⟨ac,[x2-4,x3-4,x4-4,1],x5-2,rfl,ae,ae,ad,h _<|rp_sh3 ad ad ad ad⟩
 rw[a9 c1];unfold c77;rw[aZ];left;refine⟨ac,c,[3,8,7,7,7,5,7],q,rfl,ac,hq,ac,λys hy=> ?_⟩
 obtain⟨y0,y1,y2,y3,y4,y5,y6,rfl⟩: ∃x0 x1 x2 x3 x4 x5 x6,ys=[x0,x1,x2,x3,x4,x5,x6]:=by
  match ys,hy.1 with
  | [x0,x1,x2,x3,x4,x5,x6],_=>exact⟨x0,x1,x2,x3,x4,x5,x6,rfl⟩
 have k2:=hy.2 2 y2 7 rfl rfl;have k3:=hy.2 3 y3 7 rfl rfl;have k4:=hy.2 4 y4 7 rfl rfl;have k5:=hy.2 5 y5 5 rfl rfl;have k6:=hy.2 6 y6 7 rfl rfl;simp only[cR,jI];unfold c76;left
 rw[show atI [D.int y0,.int y1,.int y2,.int y3,.int y4,.int y5,.int y6] 2=some (.int y2)from cG (j:=2) rfl,show atI [D.int y0,.int y1,.int y2,.int y3,.int y4,.int y5,.int y6] 3=some (.int y3)from cG (j:=3) rfl,show atI [D.int y0,.int y1,.int y2,.int y3,.int y4,.int y5,.int y6] 4=some (.int y4)from cG (j:=4) rfl,show atI [D.int y0,.int y1,.int y2,.int y3,.int y4,.int y5,.int y6] 5=some (.int y5)from cG (j:=5) rfl,show atI [D.int y0,.int y1,.int y2,.int y3,.int y4,.int y5,.int y6] 6=some (.int y6)from cG (j:=6) rfl]
 dsimp only;exact⟨ac,[y2-3,y3-3,y4-3,y6-3,1],y5-2,rfl,ae,ae,ad,h _<|rp_sh4 ad ad ad ad ad⟩
theorem dP9: ∀ds Q,bY5 ds Q->bY8 {nx:=λ_=>Q (.pu .non),rt:=Q} (init ["c","q","d","w","f"] ds):=by
 rintro ds Q ⟨c,q,rfl,hq,h⟩;unfold bY8;show(aX _ _:US) _ [some<|.pu<|.int c,some<|.pu<|.int q,none,none,none];rw[aZ];left;refine⟨ac,c,[3,8],q,rfl,ac,hq,ac,λxs hx=> ?_⟩
 obtain⟨a,b,rfl⟩: ∃a b,xs=[a,b]:=by
  match xs,hx.1 with
  | [a,b],_=>exact⟨a,b,rfl⟩
 have ba:=hx.2 0 a 3 rfl rfl;simp only[cR,jI];unfold c81;rw[aZ];left;refine⟨ac,c,[3,8,999,999,999,999],q,rfl,ac,hq,ac,λys hy=> ?_⟩
 obtain⟨y0,y1,y2,y3,y4,y5,rfl⟩: ∃x0 x1 x2 x3 x4 x5,ys=[x0,x1,x2,x3,x4,x5]:=by
  match ys,hy.1 with
  | [x0,x1,x2,x3,x4,x5],_=>exact⟨x0,x1,x2,x3,x4,x5,rfl⟩
 have k2:=hy.2 2 y2 999 rfl rfl;have k3:=hy.2 3 y3 999 rfl rfl;have k4:=hy.2 4 y4 999 rfl rfl;have k5:=hy.2 5 y5 999 rfl rfl;simp only[cR,jI]
 (try left)
 rw[aU0];dsimp only;obtain⟨ws,ew,w2,w4,wb⟩: ∃ws:List Int,cutD [D.int y0,.int y1,.int y2,.int y3,.int y4,.int y5] (some 2) (some<|a+4)=ws.map D.int/\2<=ws.length/\ws.length<=4/\ ∀w∈ws,0<=w/\w<999:=by
  rcases(show a=0\/a=1\/a=2 by lia)with rfl|rfl|rfl
  .exact⟨[y2,y3],rfl,ae,ae,by simp;lia⟩
  .exact⟨[y2,y3,y4],rfl,ae,ae,by simp;lia⟩
  .exact⟨[y2,y3,y4,y5],rfl,ae,ae,by simp;lia⟩
 rw[ew];unfold c80;rw[aZ,dO8];left;rw[at1];dsimp only
 by_cases cb:b=7
 .rw[aA cb];exact cX7 c q a b ws w4 Q (h _<|dP8 w2 w4 wb)
 .rw[a9 cb];exact dC4 c q a b _ ba.1 ba.2 hq Q h
def cJ0:US:=(aX (iU (uOr (cU5<|fO<|aU cU7<|aC (aF 0)<|aC (uC<|.ty "tuple") aR)<|fO<|uOp (lQ true) (nL<|b7 0)<|aF 1) (dQ<|uC<|.bl false) fT)<|dQ<|aU cG1<|aC (gG [] [none,none] 1 (iN<|aF 0) (dG 0) (λρ Q=>Q true ρ)<|aU aU3<|aC (aF 0) aR) aR)
def cJ1:Φ:=λds Q=> ∃(r:List Int),ds=[aS r,.int (r.length:Int)]/\r.length<=1000/\Q (.pu<|.bl true)
theorem rd_row: ∀ds Q,cJ1 ds Q->cJ0 {nx:=λ_=>Q (.pu .non),rt:=Q} (init ["f","m"] ds):=by
 rintro ds Q ⟨r,rfl,hl,h⟩;unfold cJ0;simp only[aS];show(aX _ _:US) _ [some<|.pu<|.tup<|r.map .int,some<|.pu<|.int (r.length:Int)];rw[aZ];have two:(dQ (aU cG1<|aC (gG [] [none,none] 1 (iN<|aF 0) (dG 0) (λρ Q=>Q true ρ)<|aU aU3<|aC (aF 0) aR) aR):US) {nx:=λ_=>Q (.pu .non),rt:=Q} [some<|.pu<|.tup<|r.map .int,some<|.pu<|.int (r.length:Int)]:=by
  rw[j6,eU,eP];refine fG (t0:=0) r.length (λk=>(r.map D.int).getD k .non) [some<|.pu<|.tup<|r.map .int,some<|.pu<|.int (r.length:Int)] ?_ ad (λx l=>[x,some<|.ow l]) none rfl (λ_ _ _=>rfl) (λ_ _=>cO _) (λ_ _ _ q=>q) (λ_ _ _=>rfl) (λ_=> .bl true) ?_ ?_
  .intro Q' q;left;rw[aO];exact q
  .intro k l Q' hk q;obtain⟨z,hz⟩:=d87 (ys:=r) (i:=k) (by rw[aO];exact hk)
   rw[hz]at q⊢;left;exact⟨z,rfl,q⟩
  .left
   have e:(List.range r.length).map (λ_=>D.bl true)=(replicate r.length true).map D.bl:=by apply lK<;>simp
   rw[e,a30];dsimp only;have e2:(replicate r.length true).all id=true:=ae
   rw[e2];exact h
 left
 simp only[aO,Bool.not_true,decide_true,aO0,fM];exact two
noncomputable def cz (n:Nat)(u:Nat->Int):Nat->Int:=λj=>if j<n then u j else 0
noncomputable def nO (k:Int):Nat->Int:=λj=>if j=0 then k else 0
theorem cJ2 {a b:Nat}(n4:n<=4)(hp: ∀x∈p,x.natAbs<=499)(hu: ∀j,(u j).natAbs<=2^a)(hv: ∀j,(v j).natAbs<=2^b)(j:Nat):(gE p n u v j).natAbs<=2^(a+b+29):=by
 have h1: ∀i,i<n->(v i*itT p n u i j).natAbs<=2^(a+b+27):=by
  intro i hi;rw[dW];refine aM (i4 (hv i)<|b16 (n:=n) hp hu i j) ?_;rw[<-i5];exact lH ac ad
 have h2:=aG4 (λi=>v i*itT p n u i j) _ n h1
 have h3:(gE p n u v j).natAbs<=n*2^(a+b+27):=h2;have h4:n*2^(a+b+27)<=4*2^(a+b+27):=qO _ n4;have h5:(2:Nat)^(a+b+29)=2^(a+b+27)*4:=by rw[show a+b+29=a+b+27+2 by lia,i5]
 lia
noncomputable def tbL (n:Nat)(t:Nat->Nat->Int):List (List Int):=(List.range n).map λi=>rwF n (t i)
theorem bF5 (T:Nat->Nat->Int):gD 4 (tbL 2 T)=1*T 0 0*(T 1 1)+(-1*T 1 0*(T 0 1)+0):=by kernel_rfl
theorem bF6 (T:Nat->Nat->Int):gD 4 (tbL 3 T)=1*T 0 0*(1*T 1 1*(T 2 2)+(-1*T 2 1*(T 1 2)+0))+(-1*T 1 0*(1*T 0 1*(T 2 2)+(-1*T 2 1*(T 0 2)+0))+(1*T 2 0*(1*T 0 1*(T 1 2)+(-1*T 1 1*(T 0 2)+0))+0)):=by kernel_rfl
theorem bF7 (T:Nat->Nat->Int):gD 4 (tbL 4 T)=1*T 0 0*(1*T 1 1*(1*T 2 2*(T 3 3)+(-1*T 3 2*(T 2 3)+0))+(-1*T 2 1*(1*T 1 2*(T 3 3)+(-1*T 3 2*(T 1 3)+0))+(1*T 3 1*(1*T 1 2*(T 2 3)+(-1*T 2 2*(T 1 3)+0))+0)))+(-1*T 1 0*(1*T 0 1*(1*T 2 2*(T 3 3)+(-1*T 3 2*(T 2 3)+0))+(-1*T 2 1*(1*T 0 2*(T 3 3)+(-1*T 3 2*(T 0 3)+0))+(1*T 3 1*(1*T 0 2*(T 2 3)+(-1*T 2 2*(T 0 3)+0))+0)))+(1*T 2 0*(1*T 0 1*(1*T 1 2*(T 3 3)+(-1*T 3 2*(T 1 3)+0))+(-1*T 1 1*(1*T 0 2*(T 3 3)+(-1*T 3 2*(T 0 3)+0))+(1*T 3 1*(1*T 0 2*(T 1 3)+(-1*T 1 2*(T 0 3)+0))+0)))+(-1*T 3 0*(1*T 0 1*(1*T 1 2*(T 2 3)+(-1*T 2 2*(T 1 3)+0))+(-1*T 1 1*(1*T 0 2*(T 2 3)+(-1*T 2 2*(T 0 3)+0))+(1*T 2 1*(1*T 0 2*(T 1 3)+(-1*T 1 2*(T 0 3)+0))+0)))+0))):=by kernel_rfl
noncomputable def nrm (p:List Int)(n:Nat)(u:Nat->Int):Int:=gD 4 (tbL n<|itT p n u)
def bD (p:List Int):Nat->Int:=λj=>(1+(j:Int))*p.getD (1+j) 0
theorem cX8 (n2:2<=n)(n4:n<=4)(hu: ∀j,n<=j->u j=0)(hv: ∀j,n<=j->v j=0):rwF n (gE p n u v)=rwF n (gE p n v u):=by
 rw[<-cP6 n2 n4 hu hv,<-cP6 n2 n4 hv hu,show conv u v n=conv v u n from funext λm=>bR4 hu hv m]
inductive Gen (n:Nat) (R:(Nat->Int)->Prop):(Nat->Int)->Prop
 | base {r:Nat->Int}:R r->Gen n R r
 | zero:Gen n R λ_=>0
 | comb {a b:Nat->Int} (k:Int):Gen n R a->Gen n R b->Gen n R λj=>a j+k*b j
 | cong {a b:Nat->Int}:Gen n R a->(∀j,j<n->a j=b j)->Gen n R b
theorem Gen.mono {S:(Nat->Int)->Prop}(h: ∀r,R r->Gen n S r): ∀{v:Nat->Int},Gen n R v->Gen n S v:=by
 intro v hv
 induction hv with
 | base h1=>exact h _ h1
 | zero=>exact .zero
 | comb k _ _ i1 i2=>exact .comb k i1 i2
 | cong _ h1 i1=>exact .cong i1 h1
theorem Gen.mul (h:Gen n R v)(k:Int):Gen n R λj=>k*v j:=(Gen.comb k .zero h).cong λj _=>ad
theorem Gen.sub {a b:Nat->Int}(h:Gen n R a)(h2:Gen n R b):Gen n R λj=>a j-b j:=(Gen.comb (-1) h h2).cong λj _=>ad
theorem Gen.add {a b:Nat->Int}(h:Gen n R a)(h2:Gen n R b):Gen n R λj=>a j+b j:=(Gen.comb 1 h h2).cong λj _=>ad
def Rows (n:Nat)(t:Nat->Nat->Int)(v:Nat->Int):Prop:= ∃i,i<n/\v=t i
noncomputable def yW (t:Nat->Nat->Int)(c:Nat->Int):Nat->Nat->Int
 | 0,_=>0
 | i+1,j=>yW t c i j+c i*t i j
theorem bR8 (t:Nat->Nat->Int)(a b:Nat->Int)(k:Int): ∀n j,yW t (λi=>a i+k*b i) n j=yW t a n j+k*yW t b n j
 | 0,_=>by show(0:Int)=0+k*0;lia
 | n+1,j=>by
  show yW t _ n j+(a n+k*b n)*t n j=yW t a n j+a n*t n j+k*(yW t b n j+b n*t n j)
  rw[bR8 t a b k n j]
  grind
theorem bR9 (t:Nat->Nat->Int): ∀n j,yW t (λ_=>0) n j=0
 | 0,_=>rfl
 | n+1,j=>by show yW t _ n j+0*t n j=0;rw[bR9 t n j];lia
theorem c82 (t:Nat->Nat->Int)(i:Nat): ∀n j,yW t (λl=>if l=i then 1 else 0) n j=if i<n then t i j else 0
 | 0,_=>by rw[a9 ad];rfl
 | n+1,j=>by
  show yW t _ n j+(if n=i then 1 else 0)*t n j=_
  rw[c82 t i n j]
  by_cases h:n=i
  .subst h;rw[a9 ad,aA rfl,aA ad]
   lia
  .rw[a9 h]
   by_cases h2:i<n
   .rw[aA h2,aA ad];lia
   .rw[a9 h2,a9 ad];lia
theorem Gen.sum (h:Gen n (Rows k t) v): ∃c:Nat->Int,∀j,j<n->v j=yW t c k j:=by
 induction h with
 | base h=>
  obtain⟨i,hi,rfl⟩:=h;exact⟨_,λj _=>by rw[c82,aA hi]⟩
 | zero=>exact⟨_,λj _=>(bR9 t k j).symm⟩
 | comb q _ _ i1 i2=>
  obtain⟨a,ha⟩:=i1;obtain⟨b,hb⟩:=i2;exact⟨λi=>a i+q*b i,λj hj=>by rw[bR8,<-ha j hj,<-hb j hj]⟩
 | cong _ h1 i1=>
  obtain⟨a,ha⟩:=i1;exact⟨a,λj hj=>by rw[<-h1 j hj,ha j hj]⟩
theorem cP8 {n:Nat}{t:Nat->Nat->Int}(c:Nat->Int): ∀k,Gen n (Rows k t) (yW t c k)
 | 0=> .zero
 | k+1=> .comb (c k) ((cP8 c k).mono λr ⟨i,hi,e⟩=> .base ⟨i,ad,e⟩) (.base ⟨k,ad,rfl⟩)
structure Tri (n:Nat)(t:Nat->Nat->Int):Prop where
 pos: ∀i,i<n->1<=t i i
 zero: ∀i,i<n-> ∀j,i<j->t i j=0
theorem bF8 {n:Nat}{t:Nat->Nat->Int}(T:Tri n t)(c:Nat->Int): ∀k j,k<=n->k<=j->yW t c k j=0
 | 0,_,_,_=>rfl
 | k+1,j,hk,hj=>by
  show yW t c k j+c k*t k j=0
  rw[bF8 T c k j ad ad,T.zero k ad j ad]
  lia
theorem Tri.cut {n:Nat}{t:Nat->Nat->Int}(T:Tri n t){v c:Nat->Int}: ∀(d k i:Nat),k-i=d->k<=n->i<=k->(∀j,j<n->v j=yW t c k j)->(∀j,i<=j->j<n->v j=0)-> ∀j,j<n->v j=yW t c i j
 | 0,k,i,hd,hk,hi,h,_=>by
  have:k=i:=ad
  subst this;exact h
 | d+1,k,i,hd,hk,hi,h,hz=>by
  obtain⟨k',rfl⟩: ∃k',k=k'+1:=⟨k-1,ad⟩
  have e:=h k' ad
  rw[hz k' ad ad]at e
  have e2:(0:Int)=yW t c k' k'+c k'*t k' k':=e;rw[bF8 T c k' k' ad<|aG _]at e2
  have p:=T.pos k' ad
  have c0:c k'=0:=by
   rcases Int.mul_eq_zero.mp (show c k'*t k' k'=0 by lia)with z|z
   .exact z
   .lia
  refine T.cut d k' i ad ad ad (λj hj=> ?_) hz
  rw[h j hj];show yW t c k' j+c k'*t k' j=_;rw[c0]
  lia
theorem Tri.gen_cut (T:Tri n t)(h:Gen n (Rows n t) v)(hi:i<=n)(hz: ∀j,i<=j->j<n->v j=0):Gen n (Rows i t) v:=by
 obtain⟨c,hc⟩:=h.sum;exact(cP8 c i).cong λj hj=>(T.cut (n-i) n i rfl (aG _) hi hc hz j hj).symm
theorem Tri.lead (T:Tri n t)(h:Gen n (Rows n t) v)(hi:i<n)(hz: ∀j,i<j->j<n->v j=0):t i i∣v i:=by
 obtain⟨c,hc⟩:=h.sum;have e:=T.cut (n-(i+1)) n (i+1) rfl (aG _) hi hc hz i hi;have e2:v i=yW t c i i+c i*t i i:=e;rw[bF8 T c i i ad<|aG _]at e2
 exact⟨c i,by rw[e2,dZ];lia⟩
structure bS0 (n:Nat)(t:Nat->Nat->Int):Prop extends Tri n t where
 ahead: ∀i,i<n-> ∀j,j<i->0<=t i j/\t i j<t j j
theorem bS0.uniq {u:Nat->Nat->Int}(T:bS0 n t)(U:bS0 n u)(h1: ∀i,i<n->Gen n (Rows n u) (t i))(h2: ∀i,i<n->Gen n (Rows n t) (u i)): ∀i,i<n-> ∀j,j<n->t i j=u i j:=by
 have diag: ∀i,i<n->t i i=u i i:=λi hi=>by
  have a:=U.toTri.lead (h1 i hi) hi λj hj hn=>T.zero i hi j hj
  have b:=T.toTri.lead (h2 i hi) hi λj hj hn=>U.zero i hi j hj
  have p1:=T.pos i hi;have p2:=U.pos i hi;have:=oF ad a
  have:=oF ad b
  lia
 intro i hi;have g:Gen n (Rows n t) λj=>t i j-u i j:=(Gen.base ⟨i,hi,rfl⟩).sub (h2 i hi)
 have main: ∀(d k:Nat),n-k=d->k<=n-> ∀j,k<=j->j<n->t i j-u i j=0:=by
  intro d
  induction d with
  | zero=>intro k hd hk j h1 h2;lia
  | succ d ih=>
   intro k hd hk j hj hn
   by_cases e:k=j
   .subst e;have dv:=T.toTri.lead g hn λj h1 h2=>ih (k+1) ad ad j ad h2
    by_cases c1:k<i
    .obtain⟨a1,a2⟩:=T.ahead i hi k c1;obtain⟨b1,b2⟩:=U.ahead i hi k c1;have dg:=diag k ad
     obtain⟨q,hq⟩:=dv;have p1:=T.pos k hn;have q0:q=0:=by
      rcases Int.lt_trichotomy q 0 with z|z|z
      .have:t k k*q<=t k k*(-1):=l7 ad ad
       lia
      .exact z
      .have:t k k*1<=t k k*q:=l7 ad ad
       lia
     rw[hq,q0]
     lia
    .by_cases c2:k=i
     .subst c2;have:=diag k hn;lia
     .rw[T.zero i hi k ad,U.zero i hi k ad];lia
   .exact ih (k+1) ad ad j ad hn
 intro j hj;have:=main n 0 ad ad j ad hj
 lia
noncomputable def mE (m:Int)(i:Nat):Nat->Int:=λj=>if j=i then m else 0
def RM (n:Nat)(m:Int)(R:(Nat->Int)->Prop)(v:Nat->Int):Prop:=R v\/ ∃i,i<n/\v=mE m i
theorem Gen.modE {n:Nat}{R:(Nat->Int)->Prop}{m:Int}{a b:Nat->Int}: ∀(k:Nat),k<=n->(∀i,i<k->Gen n R (mE m i))->Gen n R a->(∀j,j<k->m∣a j-b j)->(∀j,k<=j->j<n->a j=b j)->Gen n R b
 | 0,_,_,h,_,hz=>h.cong λj hj=>hz j ad hj
 | k+1,hk,hm,h,hd,hz=>by
  obtain⟨q,hq⟩:=hd k ad
  have h1:Gen n R λj=>a j+(-q)*mE m k j:= .comb (-q) h (hm k ad)
  refine Gen.modE k ad (λi hi=>hm i ad) h1 (λj hj=> ?_) (λj h1 h2=> ?_)
  .have:mE m k j=0:=a9 ad
   rw[this];obtain⟨p,hp⟩:=hd j ad
   exact⟨p,ad⟩
  .by_cases e:j=k
   .subst e;have:mE m j j=m:=aA rfl;rw[this,Int.neg_mul,dZ q m]
    lia
   .have:mE m k j=0:=a9 e;rw[this,hz j ad h2]
    lia
def RLs (n:Nat)(u:Nat->Nat->Int)(l:Nat->Int)(v:Nat->Int):Prop:=Rows n u v\/v=l
noncomputable def qA (u:Nat->Nat->Int)(l:Nat->Int)(m g s t:Int)(i:Nat):Nat->Nat->Int:=λr j=>if r=i then(if j<i then(s*u i j+t*l j)%m else if j=i then g else 0)else u r j
noncomputable def aQ6 (u:Nat->Nat->Int)(l:Nat->Int)(m A B:Int)(i:Nat):Nat->Int:=λj=>if j<i then(A*l j+(-B)*u i j)%m else 0
theorem cP9 (x m:Int):m∣x-x%m:=⟨x/m,by have:=iG x m;omega⟩
theorem c83 (x m:Int):m∣x%m-x:=⟨-(x/m),by have:=iG x m;rw[v5];lia⟩
theorem dQ0 {u:Nat->Nat->Int}{l:Nat->Int}{t A B:Int}(hi:i<n)(T:Tri n u)(hE: ∀j,j<i->Gen n (Rows i u) (mE m j))(lz: ∀j,i<j->l j=0)(ha:u i i=g*A)(hb:l i=g*B)(hd:s*A+t*B=1)(g1:1<=g) :
  Tri n (qA u l m g s t i)/\(∀v,Gen n (RLs n (qA u l m g s t i)<|aQ6 u l m A B i) v↔Gen n (RLs n u l) v):=by
 have nr: ∀r,r≠i->qA u l m g s t i r=u r:=λr hr=>by funext j;exact a9 hr
 refine⟨⟨λr hr=> ?_,λr hr j hj=> ?_⟩,?_⟩
 .by_cases e:r=i
  .subst e;show 1<=qA u l m g s t r r r;unfold qA;rw[aA rfl,a9 ad,aA rfl]
   exact g1
  .rw[nr r e];exact T.pos r hr
 .by_cases e:r=i
  .subst e;unfold qA;rw[aA rfl,a9 ad,a9 ad]
  .rw[nr r e];exact T.zero r hr j hj
 have E1: ∀j,j<i->Gen n (RLs n u l) (mE m j):=λj hj=>(hE j hj).mono λr ⟨q,hq,e⟩=> .base (.inl ⟨q,ad,e⟩)
 have E2: ∀j,j<i->Gen n (RLs n (qA u l m g s t i)<|aQ6 u l m A B i) (mE m j):=λj hj=>(hE j hj).mono λr ⟨q,hq,e⟩=> .base (.inl ⟨q,ad,by rw[nr q ad];exact e⟩)
 have H1:Gen n (RLs n u l) (u i):= .base (.inl ⟨i,hi,rfl⟩);have L1:Gen n (RLs n u l) l:= .base (.inr rfl);have X1:Gen n (RLs n u l) λj=>s*u i j+t*l j:=(H1.mul s).comb t L1
 have Y1:Gen n (RLs n u l) λj=>A*l j+(-B)*u i j:=(L1.mul A).comb (-B) H1
 have xi:s*u i i+t*l i=g:=by rw[ha,hb];grind
 have yi:A*l i+(-B)*u i i=0:=by rw[ha,hb];grind
 have above: ∀j,i<j->u i j=0:=λj hj=>T.zero i hi j hj
 have X2:Gen n (RLs n (qA u l m g s t i)<|aQ6 u l m A B i) λj=>s*u i j+t*l j:=by
  refine Gen.modE i ad E2 (Gen.base<|.inl ⟨i,hi,rfl⟩) (λj hj=> ?_) (λj h1 h2=> ?_)
  .show m∣qA u l m g s t i i j-_
   unfold qA;rw[aA rfl,aA hj];exact c83 _ _
  .show qA u l m g s t i i j=_
   unfold qA;rw[aA rfl,a9 ad]
   by_cases e:j=i
   .subst e;rw[aA rfl];exact xi.symm
   .rw[a9 e,above j ad,lz j ad];lia
 have Y2:Gen n (RLs n (qA u l m g s t i)<|aQ6 u l m A B i) λj=>A*l j+(-B)*u i j:=by
  refine Gen.modE i ad E2 (Gen.base<|.inr rfl) (λj hj=> ?_) (λj h1 h2=> ?_)
  .show m∣aQ6 u l m A B i j-_
   unfold aQ6;rw[aA hj];exact c83 _ _
  .show aQ6 u l m A B i j=_
   unfold aQ6;rw[a9 ad]
   by_cases e:j=i
   .subst e;exact yi.symm
   .rw[above j ad,lz j ad];lia
 intro v;constructor
 .refine Gen.mono λr hr=> ?_
  rcases hr with⟨q,hq,rfl⟩|rfl
  .by_cases e:q=i
   .subst e;refine Gen.modE q ad E1 X1 (λj hj=> ?_) (λj h1 h2=> ?_)
    .show m∣_-qA u l m g s t q q j
     unfold qA;rw[aA rfl,aA hj];exact cP9 _ _
    .show _=qA u l m g s t q q j
     unfold qA;rw[aA rfl,a9 ad]
     by_cases e:j=q
     .subst e;rw[aA rfl];exact xi
     .rw[a9 e,above j ad,lz j ad];lia
   .rw[nr q e];exact .base (.inl ⟨q,hq,rfl⟩)
  .refine Gen.modE i ad E1 Y1 (λj hj=> ?_) (λj h1 h2=> ?_)
   .show m∣_-aQ6 u l m A B i j
    unfold aQ6;rw[aA hj];exact cP9 _ _
   .show _=aQ6 u l m A B i j
    unfold aQ6;rw[a9 ad]
    by_cases e:j=i
    .subst e;exact yi
    .rw[above j ad,lz j ad];lia
 .refine Gen.mono λr hr=> ?_
  rcases hr with⟨q,hq,rfl⟩|hr
  .by_cases e:q=i
   .subst e;refine((X2.mul A).comb (-t) Y2).cong λj _=> ?_
    have:A*(s*u q j+t*l j)+ -t*(A*l j+ -B*u q j)=(s*A+t*B)*u q j:=by grind
    rw[this,hd];lia
   .exact .base (.inl ⟨q,hq,by rw[nr q e]⟩)
  .rw[hr];refine((X2.mul B).comb s Y2).cong λj _=> ?_
   have:B*(s*u i j+t*l j)+s*(A*l j+ -B*u i j)=(s*A+t*B)*l j:=by grind
   rw[this,hd];lia
structure GS (a b g s t:Int):Prop where
 g1:1<=g
 ga:g∣a
 gb:g∣b
 eq:g=s*a+t*b
 tb:t.natAbs<=2^600
 sb:s.natAbs<=2^1700
def vP:Φ:=λds Q=> ∃a b:Int,ds=[.int a,.int b]/\1<=a/\a<=2^600/\b.natAbs<=2^1000/\ ∀g s t,GS a b g s t->Q (.pu<|.tup [.int g,.int s,.int t])
def vQ:US:=(cU6 4 5<|aC (aF 5)<|aC (uOp M.gSub (aF 4)<|uOp fS (aF 6)<|aF 5) aR)
def vR:US:=(aX (cU6 2 3<|aC (aF 3)<|aC (uOp M.gSub (aF 2)<|uOp fS (aF 6)<|aF 3) aR) vQ)
def vS:US:=(aX (bV 6<|uOp aI5 (aF 2)<|aF 3) vR)
def yX:US:=(dQ<|iT<|aC (aF 2)<|aC (uOp aI5 (uOp M.gSub (aF 2)<|uOp fS (aF 4)<|aF 1)<|aF 0)<|aC (aF 4) aR)
def yY:US:=(aX (aZ5 (fO<|uOp (lQ true) (aF 3)<|uC<|.int 0) vS) yX)
def yZ:US:=(aX (cF2 (iT<|aC (uC<|.int 0)<|aC (uC<|.int 1) aR)<|qC<|eK 4<|eK 5 qB) yY)
def vT:US:=(aX (cU6 2 3<|aC (aF 0)<|aC (uOp pX (aF 1)<|aF 0) aR) yZ)
structure EI (a b g low t later:Int):Prop where
 g1:1<=g
 l0:0<=low
 lg:low<g
 ga:g<=a
 d1:a∣g-t*b
 d2:a∣low-later*b
 gc: ∀d:Int,d∣g->d∣low->d∣a/\d∣b
 sg: ∃e T L:Int,(e=1\/e= -1)/\0<=T/\0<=L/\t=e*T/\later= -e*L/\g*L+low*T=a/\T<=a
theorem EI.step {low t later:Int}(h:EI a b g low t later)(l1:low≠0):EI a b low (g-g/low*low) later (t-g/low*later):=by
 obtain⟨g1,l0,lg,ga,d1,d2,gc,e,T,L,he,hT,hL,rfl,rfl,hs,hTa⟩:=h;have lp:0<low:=ad
 have em:=iG g low;have m0:=cA g (show low≠0 by lia)
 have m1:=bZ g lp;have q0:0<=g/low:=Int.ediv_nonneg ad ad
 have ec:g/low*low=low*(g/low):=dZ _ _;generalize g/low=q at *;refine⟨ad,ad,ad,ad,d2,?_,?_,-e,L,T+q*L,?_,hL,?_,?_,?_,?_,?_⟩
 .obtain⟨x,hx⟩:=d1;obtain⟨y,hy⟩:=d2;exact⟨x-q*y,by rw[Int.mul_sub,<-hx,show a*(q*y)=q*(a*y)by grind,<-hy];grind⟩
 .intro d h1 h2;refine gc d ?_ h1;have:=v6 h2 (gN h1 ⟨q,ec⟩);rw[show g-q*low+q*low=g by lia]at this
  exact this
 .lia
 .have:=lM q0 hL;lia
 .rfl
 .grind
 .have:low*(T+q*L)+(g-q*low)*L=g*L+low*T:=by grind
  rw[this];exact hs
 .have:L*1<=L*g:=l7 g1 hL;have:=lM l0 hT;rw[dZ L g]at *
  lia
theorem nP (h:x.natAbs<=2^e)(he:e<9000):Sm x:=Sm.pow h he
theorem bF9: ∀ds Q,vP ds Q->vT {nx:=λ_=>Q (.pu .non),rt:=Q} (init ["a","b","g","l","t","r","m"] ds):=by
 rintro ds Q ⟨a,b,rfl,a1,a2,b2,h⟩;unfold vT;show(aX _ _:US) _ [some<|.pu<|.int a,some<|.pu<|.int b,none,none,none,none,none];rw[aZ];left;rw[eO _ ad]
 refine⟨ad,?_⟩
 unfold yZ;rw[aZ];left;unfold yY;rw[aZ];have a600:a.natAbs<=2^600:=ad
 refine⟨ac,ac,ac,trivial,?_⟩
 refine⟨λk ρ=> ∃g low t later m,ρ=[some<|.pu<|.int a,some<|.pu<|.int b,some<|.pu<|.int g,some<|.pu<|.int low,some<|.pu<|.int t,some<|.pu<|.int later,m]/\k=low.toNat/\EI a b g low t later,⟨_,a,b%a,0,1,none,rfl,rfl,?_⟩,?_⟩
 .have em:=iG b a;refine⟨a1,cA _ ad,bZ _ ad,Int.le_refl _,⟨1,ad⟩,⟨-(b/a),?_⟩,λd h1 h2=>⟨h1,?_⟩,-1,0,1,.inr rfl,ad,ad,ad,ad,ad,ad⟩
  .rw[v5];lia
  .have:=v6 h2 (gN h1<|uS a<|b/a);rw[em]at this;exact this
 .rintro k ρ ⟨g,low,t,later,m,rfl,rfl,I⟩;left;have g1:=I.g1;have l0:=I.l0;have lg:=I.lg;have ga:=I.ga;have sg:Sm g:=nP (e:=600) ad ad
  have slow:Sm low:=nP (e:=600) ad ad
  have hst:t.natAbs<=2^600/\later.natAbs<=2^600:=by
   obtain⟨e,T,L,he,hT,hL,ht,hl,hs,hTa⟩:=I.sg;have:L*1<=L*g:=l7 g1 hL;have:=lM l0 hT;rw[dZ L g]at *;rcases he with rfl|rfl<;>lia
  by_cases c:low=0
  .rw[a9 ad]
   unfold yX;left;have ea:g∣a/\g∣b:=I.gc g (kJ _) (by rw[c];exact oH _)
   have dv:=I.d1;obtain⟨q,hq⟩:=dv;have ed:(g-t*b)/a=q:=by rw[hq,zO _ ad]
   have sb:(t*b).natAbs<=2^600*2^1000:=by rw[dW];exact i4 hst.1 b2
   have e16:(2:Nat)^600*2^1000=2^1600:=by rw[<-i5]
   rw[e16]at sb;have e17:(2:Nat)^600+2^1600<=2^1700:=af
   have gb:g.natAbs<=2^600:=ad
   have sm1:(g-t*b).natAbs<=2^1700:=by
    have:=a02 g (t*b);generalize (g-t*b).natAbs=x at *;generalize (t*b).natAbs=y at *
    lia
   rw[kO _ ad,ed]
   refine⟨.inr ⟨nP hst.1 ad,nP b2 ad⟩,⟨ad,nP a600 ad⟩,ac,h g q t ⟨g1,ea.1,ea.2,?_,hst.1,?_⟩⟩
   .rw[dZ q a];lia
   .have:q=(g-t*b)/a:=ed.symm;rw[this];exact aM (qK _ _) sm1
  .rw[aA c];have st:=I.step c;unfold vS;rw[aZ];left;rw[kO _ ad]
   refine⟨⟨ad,slow⟩,?_⟩
   have qb:(g/low).natAbs<=2^600:=aM (qK _ _) ad
   unfold vR;rw[aZ];left;refine⟨.inr ⟨nP qb ad,slow⟩,?_⟩
   unfold vQ;left;refine⟨.inr ⟨nP qb ad,nP hst.2 ad⟩,_,?_,_,_,_,_,_,rfl,rfl,st⟩
   have:=st.l0;have:=st.lg
   lia
def a45:Φ:=λds Q=> ∃(s t m:Int) (n1 n2 k:Nat) (f h:Nat->Int),ds=[.int s,aS<|rwF n1 f,.int t,aS<|rwF n2 h,.int m,.int (k:Int)]/\k<=n1/\k<=n2/\n1<=100/\n2<=100/\1<=m/\m<=2^600/\s.natAbs<=2^1700/\t.natAbs<=2^1700/\(∀j,(f j).natAbs<=2^1000)/\(∀j,(h j).natAbs<=2^1000)/\Q (.pu<|aS<|rwF k λj=>(s*f j+t*h j)%m)
def aQ7:US:=(dQ<|aU dL<|aC (gG [0,2,4] [none,none,some 0,some 2,some 4,none] 5 (dM1<|aC (c44 (aF 1) mQ<|pH<|aF 5)<|aC (c44 (aF 3) mQ<|pH<|aF 5) aR) (qC<|eK 0<|eK 1 qB) (λρ Q=>Q true ρ)<|uOp pX (uOp iV (uOp fS (aF 2)<|aF 0)<|uOp fS (aF 3)<|aF 1)<|aF 4) aR)
theorem bY9 (h:k<=n):cutD ((rwF n f).map D.int) none (some (k:Int))=(rwF k f).map D.int:=by
 rw[cH7 _ _ (by rw[bC];exact h),<-oC]
 congr 1
 unfold rwF;rw[<-oC,List.take_range,o8 h]
theorem cJ3: ∀ds Q,a45 ds Q->aQ7 {nx:=λ_=>Q (.pu .non),rt:=Q} (init ["s","o","t","h","m","z"] ds):=by
 rintro ds Q ⟨s,t,m,n1,n2,k,f,h,rfl,k1,k2,n1b,n2b,m1,m2,sb,tb,fb,hb,q0⟩;unfold aQ7;show(dQ _:US) _ [some<|.pu<|.int s,some<|.pu<|aS<|rwF n1 f,some<|.pu<|.int t,some<|.pu<|aS<|rwF n2 h,some<|.pu<|.int m,some<|.pu<|.int (k:Int)];rw[j6,eU,eP];simp only[aS]
 refine bD4 (t0:=0) (t1:=1) k (λj=>((rwF k f).map D.int).getD j .non) (λj=>((rwF k h).map D.int).getD j .non) [some<|.pu<|.int s,some<|.pu<|.tup<|(rwF n1 f).map .int,some<|.pu<|.int t,some<|.pu<|.tup<|(rwF n2 h).map .int,some<|.pu<|.int m,some<|.pu<|.int (k:Int)] ?_ ad
  (λx y l=>[x,y,some<|.pu<|.int s,some<|.pu<|.int t,some<|.pu<|.int m,some<|.ow l]) none none rfl (λ_ _ _ _ _=>rfl) (λ_ _ _=>⟨ae,ae⟩) (λ_ _ _ _ q=>q) (λ_ _ _ _=>rfl) (λj=> .int ((s*f j+t*h j)%m)) ?_ ?_
 .intro Q' q;left;rw[bY9 k1,bY9 k2,bC,bC,Nat.min_self];exact q
 .intro j l Q' hj q;rw[nN hj,nN hj]at q⊢;left;rw[eO _ ad]
  exact⟨.inr ⟨nP sb ad,nP (fb j) ad⟩,.inr ⟨nP tb ad,nP (hb j) ad⟩,ad,q⟩
 .left
  rw[vJ];exact q0
structure TOk (n:Nat)(m:Int)(t:Nat->Nat->Int):Prop extends Tri n t where
 m1:1<=m
 m2:m<=2^600
 lo: ∀i j,0<=t i j
 hi: ∀i j,t i j<=m
 all: ∀i,i<n->Gen n (Rows n t) (mE m i)
def xQ:Φ:=λds Q=> ∃(n:Nat) (m:Int) (t:Nat->Nat->Int) (f:Nat->Int),ds=[.lst<|tbF n n t,.int m,aS<|rwF n f]/\n<=8/\TOk n m t/\(∀j,(f j).natAbs<=2^1000)/\(∀j,n<=j->f j=0)/\ ∀u,TOk n m u->(∀v,Gen n (Rows n u) v↔Gen n (RLs n t f) v)->Q (.ow<|tbF n n u)
def wP:US:=(bV 4<|aU a45<|aC (uOp aI5 (uIx (b7 6)<|aF 5)<|aF 7)<|aC (aF 4)<|aC (uOp aI5 (sK<|uIx (b7 4)<|aF 5)<|aF 7)<|aC (aF 6)<|aC (aF 1)<|aC (aF 5) aR)
def wQ:US:=(aX (b42 3 (uOp iV (uOp iV (aU a45<|aC (aF 8)<|aC (aF 6)<|aC (aF 9)<|aC (aF 4)<|aC (aF 1)<|aC (aF 5) aR)<|iT<|aC (aF 7) aR)<|c44 (aF 6) (pH<|uOp iV (aF 5)<|uC<|.int 1) mQ)<|aF 5) wP)
def wR:US:=(aX (cF2 (aU vP<|aC (uIx (b7 6)<|aF 5)<|aC (uIx (b7 4)<|aF 5) aR)<|qC<|eK 7<|eK 8<|eK 9 qB) wQ)
def pM:US:=(aX (bV 6<|uIx (b7 3)<|aF 5) wR)
def a76:US:=(sJ 3)
def a77:US:=(aX (nA (c46<|aC (nL<|b7 2) aR) (dG 5) pM) a76)
def a78:US:=(aX (bV 4<|aF 2) a77)
def xR:US:=(aX (bV 3<|aU aG0<|aC (aF 0) aR) a78)
theorem dC5 {u:Nat->Nat->Int}{l:Nat->Int}{t:Int}(hi:i<n)(hz: ∀j,i<j->u i j=0) :
  (rwF i λj=>(s*u i j+t*l j)%m).map D.int++[D.int g]++cutD ((rwF n<|u i).map D.int) (some<|(i:Int)+1) none=(rwF n<|qA u l m g s t i i).map D.int:=by
 rw[show(i:Int)+1=((i+1:Nat):Int)by lia,aA2 _ _ (by rw[bC];lia)]
 apply qY
 intro j
 by_cases h1:j<i
 .rw[iF (by simp[rwF];lia),iF (by simp[rwF];lia),gH h1,gH ad]
  congr 2
  unfold qA;rw[aA rfl,aA h1]
 .by_cases h2:j=i
  .subst h2;rw[iF<|by simp[rwF],jC<|by simp[rwF],bC,rD,gH hi]
   unfold qA;rw[aA rfl,a9 h1,aA rfl];rfl
  .rw[jC (by simp[rwF];lia),List.getElem?_drop]
   simp only[bY,bC,fL,qV];rw[show i+1+(j-(i+1))=j by lia]
   by_cases h3:j<n
   .rw[gH h3,gH h3,hz j ad]
    unfold qA;rw[aA rfl,a9 h1,a9 h2]
   .rw[fW (by rw[bC];lia),fW (by rw[bC];lia)]
theorem dQ1 {m:Nat}{u u':Nat->Nat->Int}(hi:i<n)(h: ∀r,r≠i->u' r=u r):(tbF n m u).set i (aS<|rwF m<|u' i)=tbF n m u':=by
 apply qY
 intro j
 by_cases e:i=j
 .subst e;rw[iM (by rw[j7];exact hi),aG6 hi]
 .rw[get_set_ne e]
  by_cases hj:j<n
  .rw[aG6 hj,aG6 hj,h j λz=>e z.symm]
  .rw[fW (by rw[j7];lia),fW (by rw[j7];lia)]
theorem p6:(2:Nat)^600<=2^1000:=lH ac ac
theorem p6':(2:Int)^600=((2^600:Nat):Int):=by norm_cast
theorem bM0: ∀ds Q,xQ ds Q->xR {nx:=λ_=>Q (.pu .non),rt:=Q} (init ["a","m","r","f","l","i","h","g","s","t"] ds):=by
 rintro ds Q ⟨n,m,t,f,rfl,n8,ok,fb,fz,h⟩;have m1:=ok.m1;have m2:=ok.m2;rw[p6']at m2;have t6: ∀x:Int,0<=x->x<=m->x.natAbs<=2^600:=λx h1 h2=>ad
 have t10: ∀x:Int,0<=x->x<=m->x.natAbs<=2^1000:=λx h1 h2=>aM (t6 x h1 h2) p6
 unfold xR;show(aX _ _:US) _ [some<|.pu<|.lst<|tbF n n t,some<|.pu<|.int m,some<|.pu<|aS<|rwF n f,none,none,none,none,none,none,none];rw[aZ];left;unfold a78;rw[aZ];left;unfold a77;rw[aZ]
 refine cF n (λk=> .int ((n:Int)-1-k)) [some<|.pu<|.lst<|tbF n n t,some<|.pu<|.int m,some<|.pu<|aS<|rwF n f,some<|.ow<|tbF n n t,some<|.pu<|aS<|rwF n f,none,none,none,none,none] ?_
  (λk ρ=> ∃(u:Nat->Nat->Int) (l:Nat->Int) (x5 x6 x7 x8 x9:Option B),ρ=[some<|.pu<|.lst<|tbF n n t,some<|.pu<|.int m,some<|.pu<|aS<|rwF n f,some<|.ow<|tbF n n u,some<|.pu<|aS<|rwF (n-k) l,x5,x6,x7,x8,x9]/\Tri n u/\(∀i j,0<=u i j)/\(∀i j,u i j<=m)/\(∀i,i<n-k->u i=t i)/\(∀j,n-k<=j->l j=0)/\(∀j,(l j).natAbs<=2^1000)/\ ∀v,Gen n (RLs n u l) v↔Gen n (RLs n t f) v)
  ⟨t,f,_,_,_,_,_,rfl,ok.toTri,ok.lo,ok.hi,λ_ _=>rfl,fz,fb,λv=>Iff.rfl⟩ ?_ ?_
 .intro Q' q;simp only[aS];left;rw[bC];refine⟨⟨ad,ad⟩,?_⟩
  rw[eH];exact q
 .rintro k ρ hk ⟨u,l,x5,x6,x7,x8,x9,rfl,T,lo,hi',un,lz,lb,G⟩;obtain⟨i,hi⟩: ∃i:Nat,i=n-1-k:=⟨_,rfl⟩;have hin:i<n:=ad
  have eN:n-k=i+1:=ad
  have eN':n-(k+1)=i:=ad
  have ei:(n:Int)-1-(k:Int)=(i:Int):=ad
  rw[eN]at un lz⊢;rw[ei];refine⟨ae,?_⟩
  show pM _ [some<|.pu<|.lst<|tbF n n t,some<|.pu<|.int m,some<|.pu<|aS<|rwF n f,some<|.ow<|tbF n n u,some<|.pu<|aS<|rwF (i+1) l,some<|.pu<|.int (i:Int),x6,x7,x8,x9]
  have e1:atI (tbF n n u) (i:Int)=some (aS<|rwF n<|u i):=bD5 hin;have e2:atI ((rwF n<|u i).map D.int) (i:Int)=some (.int<|u i i):=oM hin;have e3:atI ((rwF (i+1) l).map D.int) (i:Int)=some (.int<|l i):=oM ad
  unfold pM;rw[aZ];left;simp only[e1];have dg:=T.pos i hin;have dh:=hi' i i;unfold wR;rw[aZ];simp only[aS];left;simp only[e2,e3];refine⟨u i i,l i,rfl,dg,by rw[p6'];lia,lb i,λg s t' gs=> ?_⟩
  obtain⟨g1,⟨A,hA⟩,⟨B,hB⟩,heq,tb,sb⟩:=gs;refine⟨ae,ae,ae,rfl,?_⟩
  have hd:s*A+t'*B=1:=by
   have:g*(s*A+t'*B)=g*1:=by
    rw[fX];have:g*(s*A+t'*B)=s*(g*A)+t'*(g*B):=by grind
    rw[this,<-hA,<-hB];exact heq.symm
   exact uH ad this
  have gle:g<=u i i:=by
   have:g∣u i i:=⟨A,hA⟩;exact oF ad this
  have dA:u i i/g=A:=by rw[hA,zO _ ad]
  have dB:(-l i)/g= -B:=by rw[hB,show -(g*B)=g*(-B)by rw[v5],zO _ ad]
  have Ab:A.natAbs<=2^1700:=by
   rw[<-dA];exact aM (qK _ _) (aM (t6 _ (lo i i) dh)<|lH ac ac)
  have Bb:(-B).natAbs<=2^1700:=by
   rw[<-dB];refine aM (qK _ _) ?_;rw[oA];exact aM (lb i) (lH ac ac)
  have sg:Sm g:=nP (t6 g ad ad) ad
  unfold wQ;rw[aZ];left;refine⟨s,t',m,n,i+1,i,u i,l,rfl,ad,ad,ad,ad,m1,by rw[p6'];lia,sb,aM tb<|lH ac ac,λj=>t10 _ (lo i j) (hi' i j),lb,?_⟩
  simp only[aS];left;have hz: ∀j,i<j->u i j=0:=λj hj=>T.zero i hin j hj
  have lz': ∀j,i<j->l j=0:=λj hj=>lz j ad
  have hE: ∀j,j<i->Gen n (Rows i u) (mE m j):=λj hj=>by
   have g0:=ok.toTri.gen_cut (ok.all j ad) (i:=i) ad λq h1 h2=>a9 ad
   exact g0.mono λr ⟨q,hq,e⟩=> .base ⟨q,hq,by rw[un q ad];exact e⟩
  obtain⟨T',G'⟩:=dQ0 (m:=m) hin T hE lz' hA hB hd g1;have nr: ∀r,r≠i->qA u l m g s t' i r=u r:=λr hr=>by funext j;exact a9 hr
  have cl:(cutD ((rwF n<|u i).map D.int) (some<|(i:Int)+1) none).length<=n:=by
   rw[show(i:Int)+1=((i+1:Nat):Int)by lia,aA2 _ _ (by rw[bC];lia),uU,bC]
   lia
  have big:(100:Nat)<=sizeLine:=ac
  refine⟨ac,by rw[bC];lia,by rw[bY,bC];simp only[fL,qV];lia,?_⟩
  rw[j7,dM7 hin];dsimp only;rw[dC5 hin hz];have es:(tbF n n u).set i (D.tup<|(rwF n<|qA u l m g s t' i i).map D.int)=tbF n n (qA u l m g s t' i):=dQ1 hin nr;rw[es];unfold wP;left;simp only[e2,e3];rw[kO _ ad,kO _ ad,dA,dB]
  refine⟨⟨ad,sg⟩,⟨ad,sg⟩,A,-B,m,i+1,n,i,l,u i,rfl,ad,ad,ad,ad,m1,by rw[p6'];lia,Ab,Bb,lb,λj=>t10 _ (lo i j) (hi' i j),?_⟩
  have mm: ∀x:Int,0<=x%m/\x%m<m:=λx=>⟨cA _ ad,bZ _ ad⟩
  have rb: ∀r j,0<=qA u l m g s t' i r j/\qA u l m g s t' i r j<=m:=λr j=>by
   by_cases e:r=i
   .subst e;unfold qA;rw[aA rfl];split
    .have:=mm (s*u r j+t'*l j);lia
    .split<;>lia
   .rw[nr r e];exact⟨lo r j,hi' r j⟩
  refine⟨qA u l m g s t' i,aQ6 u l m A B i,some<|.pu<|.int (i:Int),some<|.pu<|.tup<|(rwF n<|u i).map .int,some<|.pu<|.int g,some<|.pu<|.int s,some<|.pu<|.int t',?_,T',λr j=>(rb r j).1,λr j=>(rb r j).2,?_,?_,?_,λv=>(G' v).trans (G v)⟩
  .rw[eN'];simp only[aS];rw[show rwF i (aQ6 u l m A B i)=rwF i (λj=>(A*l j+ -B*u i j)%m)from kR λj hj=>aA hj]
  .intro r hr;rw[eN']at hr;rw[nr r ad,un r ad]
  .intro j hj;rw[eN']at hj;exact a9 ad
  .intro j;unfold aQ6;split
   .have:=mm (A*l j+ -B*u i j);exact t10 _ ad ad
   .exact cK _
 .rintro ρ ⟨u,l,x5,x6,x7,x8,x9,rfl,T,lo,hi',un,lz,lb,G⟩;unfold a76;left;have l0:l=λ_=>0:=by funext j;exact lz j ad
  have G2: ∀v,Gen n (Rows n u) v↔Gen n (RLs n t f) v:=λv=>by
   rw[<-G v];exact⟨Gen.mono λr hr=> .base (.inl hr),Gen.mono λr hr=>hr.elim .base λe=>by rw[e,l0];exact .zero⟩
  refine h u ⟨T,m1,ok.m2,lo,hi',λi hi=>(G2 _).mpr ((ok.all i hi).mono λr hr=> .base (.inl hr))⟩ G2
noncomputable def qF (t:Nat->Nat->Int)(i:Nat)(f:Nat->Int):Nat->Int:=λj=>f j-(f i/t i i)*t i j
noncomputable def lY (t:Nat->Nat->Int):Nat->(Nat->Int)->Nat->Int
 | 0,f=>f
 | i+1,f=>lY t i (qF t i f)
theorem wS {n:Nat}{t:Nat->Nat->Int}(S:Tri n t): ∀(i:Nat) (f:Nat->Int),i<=n-> ∀j,i<=j->lY t i f j=f j
 | 0,f,_,j,_=>rfl
 | i+1,f,hi,j,hj=>by
  show lY t i (qF t i f) j=f j
  rw[wS S i _ ad j ad]
  unfold qF;rw[S.zero i ad j ad]
  lia
theorem b53 {n:Nat}{t:Nat->Nat->Int}(S:Tri n t): ∀(i:Nat) (f:Nat->Int),i<=n-> ∀j,j<i->0<=lY t i f j/\lY t i f j<t j j
 | i+1,f,hi,j,hj=>by
  show 0<=lY t i (qF t i f) j/\lY t i (qF t i f) j<t j j
  by_cases e:j=i
  .subst e;rw[wS S j _ ad j<|aG _]
   have hp:=S.pos j ad
   have h1:=cA (f j) (show t j j≠0 by lia)
   have h2:=bZ (f j) (show 0<t j j by lia)
   have h3:qF t j f j=f j%t j j:=by
    have:=iG (f j) (t j j);unfold qF;rw[dZ<|f j/t j j]
    lia
   rw[h3];exact⟨h1,h2⟩
  .exact b53 S i _ ad j ad
theorem bS1 {n:Nat}{t:Nat->Nat->Int}: ∀(i:Nat) (f:Nat->Int),Gen n (Rows i t) λj=>f j-lY t i f j
 | 0,f=>Gen.zero.cong λj _=>by show(0:Int)=f j-f j;lia
 | i+1,f=>by
  have h1:Gen n (Rows (i+1) t) λj=>qF t i f j-lY t i (qF t i f) j:=(bS1 i<|qF t i f).mono λr ⟨q,hq,e⟩=> .base ⟨q,ad,e⟩
  have h2:Gen n (Rows (i+1) t) (t i):= .base ⟨i,ad,rfl⟩
  refine(h1.comb (f i/t i i) h2).cong λj _=> ?_
  show qF t i f j-lY t i (qF t i f) j+f i/t i i*t i j=f j-lY t i (qF t i f) j
  unfold qF
  lia
theorem c84 {g:Nat->Int}{b:Nat}(ht: ∀j,(t i j).natAbs<=2^600)(hg: ∀j,(g j).natAbs<=2^b): ∀j,(qF t i g j).natAbs<=2^(b+601):=by
 intro j;unfold qF;have h1:=hg j;have h2:(g i/t i i).natAbs<=2^b:=aM (qK _ _) (hg i);have h3:((g i/t i i)*t i j).natAbs<=2^b*2^600:=by rw[dW];exact i4 h2 (ht j)
 have h4:(g j-(g i/t i i)*t i j).natAbs<=(g j).natAbs+((g i/t i i)*t i j).natAbs:=a02 _ _;have e:2^(b+601)=2^b*2^600+2^b*2^600:=by
  rw[show b+601=b+600+1 from rfl,a18,i5];lia
 have h5:2^b<=2^b*2^600:=Nat.le_mul_of_pos_right _ (Nat.pow_pos ac)
 generalize 2^b*2^600=X at *;generalize 2^b=Y at *;generalize 2^(b+601)=Z at *
 lia
def b17:Φ:=λds Q=> ∃(i n:Nat) (t:Nat->Nat->Int) (f:Nat->Int),ds=[.lst<|tbF i n t,aS<|rwF i f]/\i<=n/\n<=8/\(∀r,r<i->0<t r r)/\(∀r j,(t r j).natAbs<=2^600)/\(∀j,(f j).natAbs<=2^600)/\Q (.pu<|aS<|rwF i<|lY t i f)
def aJ9:US:=(bV 2<|aU dL<|aC (gG [4] [none,none,some 4,none] 3 (dM1<|aC (aF 2)<|aC (uIx (b7 0)<|aF 3) aR) (qC<|eK 0<|eK 1 qB) (λρ Q=>Q true ρ)<|uOp M.gSub (aF 0)<|uOp fS (aF 2)<|aF 1) aR)
def xS:US:=(aX (bV 4<|uOp aI5 (uIx (b7 2)<|aF 3)<|uIx (uV<|uIx (b7 0)<|aF 3)<|aF 3) aJ9)
def b54:US:=(sJ 2)
def b55:US:=(aX (nA (c46<|aC (nL<|b7 1) aR) (dG 3) xS) b54)
def b18:US:=(aX (bV 2<|aF 1) b55)
theorem cX9: ∀ds Q,b17 ds Q->b18 {nx:=λ_=>Q (.pu .non),rt:=Q} (init ["t","r","l","i","m"] ds):=by
 rintro ds Q ⟨I,n,t,f,rfl,hI,n8,tp,tb,fb,h⟩;unfold b18;show(aX _ _:US) _ [some<|.pu<|.lst<|tbF I n t,some<|.pu<|aS<|rwF I f,none,none,none];left;unfold b55;rw[aZ];refine cF I (λk=> .int (((I:Int))-1-k)) [some<|.pu<|.lst<|tbF I n t,some<|.pu<|aS<|rwF I f,some<|.pu<|aS<|rwF I f,none,none] ?_
  (λk ρ=> ∃g x y,ρ=[some<|.pu<|.lst<|tbF I n t,some<|.pu<|aS<|rwF I f,some<|.pu<|aS<|rwF I g,x,y]/\lY t (I-k) g=lY t I f/\ ∀j,(g j).natAbs<=2^(600+601*k)) ⟨f,none,none,rfl,rfl,λj=>fb j⟩ ?_ ?_
 .intro Q' q;simp only[aS];left;rw[bC];refine⟨⟨ad,ad⟩,?_⟩
  rw[eH];exact q
 .rintro k ρ hk ⟨g,x,y,rfl,hr,hb⟩;obtain⟨i,hi⟩: ∃i:Nat,i=I-1-k:=⟨_,rfl⟩;have hin:i<I:=ad
  have ei:(I:Int)-1-(k:Int)=(i:Int):=ad
  have hpos:=tp i hin;rw[ei];refine⟨ae,?_⟩
  show xS _ [some<|.pu<|.lst<|tbF I n t,some<|.pu<|aS<|rwF I f,some<|.pu<|aS<|rwF I g,some<|.pu<|.int (i:Int),y]
  unfold xS;rw[aZ];have e1:atI ((rwF I g).map D.int) (i:Int)=some (.int<|g i):=oM hin;have e2:atI (tbF I n t) (i:Int)=some (.tup<|(rwF n<|t i).map .int):=bD5 hin;have e3:atI ((rwF n<|t i).map D.int) (i:Int)=some (.int<|t i i):=oM ad
  simp only[aS];left;simp only[e1,e2,e3];rw[kO _ hpos];refine⟨⟨ad,nP (tb i i) ad⟩,?_⟩
  unfold aJ9;rw[sE,eU,eP];refine bD4 (t0:=0) (t1:=1) I (λj=>((rwF I g).map D.int).getD j .non) (λj=>((rwF n<|t i).map D.int).getD j .non) [some<|.pu<|.lst<|tbF I n t,some<|.pu<|.tup<|(rwF I f).map .int,some<|.pu<|.tup<|(rwF I g).map .int,some<|.pu<|.int (i:Int),some<|.pu<|.int<|g i/t i i] ?_ ad
   (λx y l=>[x,y,some<|.pu<|.int<|g i/t i i,some<|.ow l]) none none rfl (λ_ _ _ _ _=>rfl) (λ_ _ _=>⟨ae,ae⟩) (λ_ _ _ _ q=>q) (λ_ _ _ _=>rfl) (λj=> .int (qF t i g j)) ?_ ?_
  .intro Q' q;left;rw[e2];left;rw[bC,bC,o8 hI];exact q
  .intro j l Q' hj q;rw[nN hj,nN ad]at q⊢
   left
   refine⟨.inr ⟨nP (aM (qK _ _)<|hb i) ad,nP (tb i j) ac⟩,?_⟩
   exact q
  .left
   rw[vJ];refine⟨qF t i g,_,_,rfl,?_,λj=> ?_⟩
   .rw[<-hr,show I-k=i+1 by lia,show I-(k+1)=i by lia]
    rfl
   .have:=c84 (i:=i) (tb i) hb j;rw[show 600+601*(k+1)=600+601*k+601 by lia]
    exact this
 .rintro ρ ⟨g,x,y,rfl,hr,hb⟩;unfold b54;left;rw[rD]at hr;have:g=lY t I f:=hr;rw[this];exact h
noncomputable def fnL (l:List Int):Nat->Int:=λj=>l.getD j 0
theorem dQ2 (h:l.length=n):aS l=aS (rwF n<|fnL l):=by
 rw[<-h];exact cT aS (bX8 l)
theorem dC6 (h:l.length=n): ∀j,n<=j->fnL l j=0:=λj hj=>by
 unfold fnL;rw[aQ,fW ad]
 rfl
theorem cY0 {b:Nat}(h: ∀x∈l,x.natAbs<=b): ∀j,(fnL l j).natAbs<=b:=λj=>by
 unfold fnL;rw[aQ];cases e:l[j]? with
 | none=>exact cK _
 | some x=>exact h x (zV e)
def LR (L:List (List Int))(v:Nat->Int):Prop:= ∃l∈L,v=fnL l
structure LOk (n:Nat)(L:List (List Int)):Prop where
 len: ∀l∈L,l.length=n
 sm: ∀l∈L,∀x∈l,x.natAbs<=2^1000
 few:L.length<=1000
structure SOk (n:Nat)(m:Int)(L:List (List Int))(T:Nat->Nat->Int):Prop where
 st:bS0 n T
 gen: ∀v,Gen n (Rows n T) v↔Gen n (RM n m<|LR L) v
def aQ8:Φ:=λds Q=> ∃(n:Nat) (m:Int) (L:List (List Int)),ds=[.int (n:Int),.int m,.lst<|L.map aS]/\1<=n/\n<=8/\1<=m/\m<=2^600/\LOk n L/\ ∀T,SOk n m L T->Q (.pu<|.tup<|tbF n n T)
def aV7:US:=(dQ<|aU dL<|aC (aF 5) aR)
def aV8:US:=(aX (nA (cN8<|aC (aF 3) aR) (qC<|eK 6<|eK 4 qB)<|aS8 5<|uOp iV (cG9<|aU b17<|aC (aF 5)<|aC (c44 (aF 4) mQ<|pH<|aF 6) aR)<|c44 (aF 4) (pH<|aF 6) mQ) aV7)
def aV9:US:=(aX (bV 5<|n6 aR) aV8)
def a46:US:=(aX (nA (iN<|aF 2) (dG 4)<|bV 3<|aU xQ<|aC (aF 3)<|aC (aF 1)<|aC (aF 4) aR) aV9)
def aQ9:US:=(aX (bV 3<|gG [1,0] [none,some 1,some 0,none] 3 (kM<|aC (aF 0) aR) (dG 0) (λρ Q=>Q true ρ)<|uOp iV (uOp iV (uOp bQ2 (iT<|aC (uC<|.int 0) aR)<|aF 0)<|iT<|aC (aF 1) aR)<|uOp bQ2 (iT<|aC (uC<|.int 0) aR)<|uOp M.gSub (uOp M.gSub (aF 2)<|aF 0)<|uC<|.int 1) a46)
theorem dC7 (hi:i<n):((replicate i [D.int 0]).flatten++[D.int m]++(replicate (n-i-1) [D.int 0]).flatten:List D)=(rwF n<|mE m i).map .int:=by
 rw[aU1,aU1];apply qY;intro j
 by_cases h1:j<i
 .rw[iF (by simp;lia),iF (by simp;exact h1),gH ad,bS,zP,aA h1]
  show _=some (D.int<|mE m i j)
  rw[show mE m i j=0 from a9 ad]
  rfl
 .by_cases h2:j=i
  .subst h2;rw[iF ae,jC ae,gH hi,aO,zS,rD]
   show _=some (D.int<|mE m j j)
   rw[show mE m j j=m from aA rfl]
   rfl
  .rw[jC (by simp;lia)]
   simp only[bY,aO,zS,fL,qV];rw[bS,zP]
   by_cases h3:j<n
   .rw[aA ad,gH h3]
    show _=some (D.int<|mE m i j)
    rw[show mE m i j=0 from a9 h2]
    rfl
   .rw[a9 ad,fW (by rw[bC];lia)]
    rfl
theorem dQ3 (m1:1<=m)(m2:m<=2^600):TOk n m (mE m)/\ ∀v,Gen n (Rows n<|mE m) v↔Gen n (RM n m<|LR []) v:=by
 have z: ∀i j,0<=mE m i j/\mE m i j<=m:=λi j=>by unfold mE;split<;>lia
 refine⟨⟨⟨λi hi=>by rw[show mE m i i=m from aA rfl];exact m1,λi hi j hj=>a9 ad⟩,m1,m2,λi j=>(z i j).1,λi j=>(z i j).2,λi hi=> .base ⟨i,hi,rfl⟩⟩,λv=>⟨Gen.mono λr ⟨i,hi,e⟩=> .base (.inr ⟨i,hi,e⟩),Gen.mono λr hr=> ?_⟩⟩
 rcases hr with⟨l,hl,_⟩| ⟨i,hi,e⟩
 .cases hl
 .exact .base ⟨i,hi,e⟩
theorem dC8 {u:Nat->Nat->Int}{L:List (List Int)}(ok:TOk n m t)(g: ∀v,Gen n (Rows n t) v↔Gen n (RM n m<|LR L) v)(h: ∀v,Gen n (Rows n u) v↔Gen n (RLs n t<|fnL l) v): ∀v,Gen n (Rows n u) v↔Gen n (RM n m<|LR<|L++[l]) v:=by
 intro v;rw[h v];constructor
 .refine Gen.mono λr hr=> ?_
  rcases hr with hr|rfl
  .exact((g r).mp<|.base hr).mono λs hs=> .base (hs.imp (λ⟨q,hq,e⟩=>⟨q,uL _ hq,e⟩) id)
  .exact .base (.inl ⟨l,dM _<|iH.mpr rfl,rfl⟩)
 .refine Gen.mono λr hr=> ?_
  rcases hr with⟨q,hq,rfl⟩|hr
  .rcases cP.mp hq with hq|hq
   .exact((g _).mpr<|.base<|.inl ⟨q,hq,rfl⟩).mono λs hs=> .base (.inl hs)
   .rw[iH.mp hq];exact .base (.inr rfl)
  .exact((g r).mpr<|.base<|.inr hr).mono λs hs=> .base (.inl hs)
noncomputable def tH (t:Nat->Nat->Int):Nat->Nat->Nat->Int
 | 0=>λ_ _=>0
 | i+1=>λr=>if r=i then lY (tH t i) i (t i)else tH t i r
structure FOk (n i:Nat)(m:Int)(t T:Nat->Nat->Int):Prop where
 tri:Tri i T
 ahead: ∀r,r<i-> ∀j,j<r->0<=T r j/\T r j<T j j
 dg: ∀r,r<i->T r r=t r r
 bd: ∀r j,(T r j).natAbs<=2^600
 gen: ∀v,Gen n (Rows i T) v↔Gen n (Rows i t) v
theorem cJ4 {n:Nat}{m:Int}{t:Nat->Nat->Int}(ok:TOk n m t)(m2:m.natAbs<=2^600): ∀i,i<=n->FOk n i m t (tH t i)
 | 0,_=>⟨⟨λi hi=>absurd hi (kH _),λi hi=>absurd hi (kH _)⟩,λr hr=>absurd hr (kH _),λr hr=>absurd hr (kH _),λr j=>cK _,λv=>⟨Gen.mono λr ⟨q,hq,_⟩=>absurd hq (kH _),Gen.mono λr ⟨q,hq,_⟩=>absurd hq (kH _)⟩⟩
 | i+1,hi=>by
  have F:=cJ4 ok m2 i ad
  have new:tH t (i+1) i=lY (tH t i) i (t i):=aA rfl;have old: ∀r,r≠i->tH t (i+1) r=tH t i r:=λr hr=>a9 hr
  have ab: ∀j,i<=j->lY (tH t i) i (t i) j=t i j:=wS F.tri i (t i) (aG _);have rg: ∀j,j<i->0<=lY (tH t i) i (t i) j/\lY (tH t i) i (t i) j<tH t i j j:=b53 F.tri i (t i) (aG _);have tt: ∀r j,(t r j).natAbs<=2^600:=λr j=>by have:=ok.lo r j;have:=ok.hi r j;lia
  have g1:Gen n (Rows i<|tH t i) λj=>t i j-tH t (i+1) i j:=by rw[new];exact bS1 i (t i)
  refine⟨⟨λr hr=> ?_,λr hr j hj=> ?_⟩,λr hr j hj=> ?_,λr hr=> ?_,λr j=> ?_,λv=>⟨Gen.mono λq hq=> ?_,Gen.mono λq hq=> ?_⟩⟩
  .by_cases e:r=i
   .subst e;rw[new,ab r<|aG _];exact ok.pos r ad
   .rw[old r e];exact F.tri.pos r ad
  .by_cases e:r=i
   .subst e;rw[new,ab j ad];exact ok.zero r ad j hj
   .rw[old r e];exact F.tri.zero r ad j hj
  .by_cases e:r=i
   .subst e;rw[new,old j ad]
    exact rg j hj
   .rw[old r e,old j ad];exact F.ahead r ad j hj
  .by_cases e:r=i
   .subst e;rw[new,ab r<|aG _]
   .rw[old r e];exact F.dg r ad
  .by_cases e:r=i
   .subst e;rw[new]
    by_cases hj:j<r
    .have:=rg j hj;have:=F.bd j j
     lia
    .rw[ab j ad];exact tt r j
   .rw[old r e];exact F.bd r j
  .obtain⟨r,hr,rfl⟩:=hq
   by_cases e:r=i
   .subst e;have h1:Gen n (Rows (r+1) t) λj=>t r j-tH t (r+1) r j:=((F.gen _).mp g1).mono λs ⟨q,hq,e⟩=> .base ⟨q,ad,e⟩
    have h2:Gen n (Rows (r+1) t) (t r):= .base ⟨r,ad,rfl⟩
    exact(h2.sub h1).cong λj _=>ad
   .rw[old r e];exact((F.gen _).mp<|.base ⟨r,ad,rfl⟩).mono λs ⟨q,hq,e⟩=> .base ⟨q,ad,e⟩
  .obtain⟨r,hr,rfl⟩:=hq;have up: ∀{v},Gen n (Rows i<|tH t i) v->Gen n (Rows (i+1)<|tH t<|i+1) v:=λh=>h.mono λs ⟨q,hq,e⟩=> .base ⟨q,ad,by rw[old q ad];exact e⟩
   by_cases e:r=i
   .subst e;have h2:Gen n (Rows (r+1)<|tH t<|r+1) (tH t (r+1) r):= .base ⟨r,ad,rfl⟩
    exact(h2.add<|up g1).cong λj _=>ad
   .exact up ((F.gen _).mpr<|.base ⟨r,ad,rfl⟩)
theorem dQ4 (hi:i<=n)(h: ∀j,i<=j->f j=t i j):(rwF i f).map D.int++cutD ((rwF n<|t i).map D.int) (some (i:Int)) none=(rwF n f).map D.int:=by
 rw[aA2 _ _ (by rw[bC];exact hi)]
 apply qY
 intro j
 by_cases h1:j<i
 .rw[iF (by rw[bC];exact h1),gH h1,gH ad]
 .rw[jC (by rw[bC];lia),bC,List.getElem?_drop,show i+(j-i)=j by lia]
  by_cases h2:j<n
  .rw[gH h2,gH h2,h j ad]
  .rw[fW (by rw[bC];lia),fW (by rw[bC];lia)]
theorem aC6 {m:Nat}(h:i<n):(tbF n m t).getD i .non=aS (rwF m<|t i):=by rw[aQ,aG6 h];rfl
theorem nl_row (l:List Int):D.nl (.tup<|l.map D.int)=true:=by
 simp only[D.nl];exact c48 l
theorem cJ5: ∀ds Q,aQ8 ds Q->aQ9 {nx:=λ_=>Q (.pu .non),rt:=Q} (init ["k","m","r","t","w","b","i"] ds):=by
 rintro ds Q ⟨n,m,L,rfl,n1,n8,m1,m2,ok,h⟩;have big:(10000:Nat)<=sizeLine:=ac
 unfold aQ9;show(aX _ _:US) _ [some<|.pu<|.int (n:Int),some<|.pu<|.int m,some<|.pu<|.lst<|L.map aS,none,none,none,none];rw[aZ,sE]
 refine fG (t0:=0) n (λk=> .int (0+(k:Int))) [some<|.pu<|.int (n:Int),some<|.pu<|.int m,some<|.pu<|.lst<|L.map aS,none,none,none,none] ?_ ad (λx l=>[x,some<|.pu<|.int m,some<|.pu<|.int (n:Int),some<|.ow l]) none rfl (λ_ _ _=>rfl) (λ_ _=>cO _) (λ_ _ _ q=>q) (λ_ _ _=>rfl) (λk=>aS (rwF n<|mE m k)) ?_ ?_
 .intro Q' q;left;refine⟨⟨ad,ad⟩,?_⟩
  rw[eH];exact q
 .intro k l Q' hk q;left;have e1:(0+(k:Int)).toNat=k:=ad
  have e2:((n:Int)-(0+(k:Int))-1).toNat=n-k-1:=ad
  rw[e1,e2];have er:=dC7 (m:=m) hk;have el:=cT length er;rw[bC]at el;simp only[bY,fL,qV]at el;refine⟨ad,⟨ae,ad,ad,ad⟩,ad,ad,ad,⟨ae,ad,ad,ad⟩,?_,?_⟩
  .simp only[bY,fL,qV]
   lia
  .rw[er];exact q
 show a46 _ [some<|.pu<|.int (n:Int),some<|.pu<|.int m,some<|.pu<|.lst<|L.map aS,some<|.ow<|tbF n n<|mE m,none,none,none]
 unfold a46;rw[aZ];obtain⟨ok0,g0⟩:=dQ3 (n:=n) m1 m2;refine cF (L.map aS).length (λi=>(L.map aS).getD i .non) [some<|.pu<|.int (n:Int),some<|.pu<|.int m,some<|.pu<|.lst<|L.map aS,some<|.ow<|tbF n n<|mE m,none,none,none] ?_
  (λi ρ=> ∃(t:Nat->Nat->Int) (x4:Option B),ρ=[some<|.pu<|.int (n:Int),some<|.pu<|.int m,some<|.pu<|.lst<|L.map aS,some<|.ow<|tbF n n t,x4,none,none]/\TOk n m t/\ ∀v,Gen n (Rows n t) v↔Gen n (RM n m<|LR<|L.take i) v)
  ⟨_,none,rfl,ok0,g0⟩ ?_ ?_
 .intro Q' q;left;exact q
 .rintro i ρ hi ⟨t,x4,rfl,okt,gt⟩;rw[aO]at hi;have hm:=eJ hi;have ei:(L.map aS).getD i .non=aS L[i]:=by rw[aQ,bS,aV hi];rfl
  rw[ei];refine⟨ae,?_⟩
  left
  refine⟨n,m,t,fnL L[i],by rw[<-dQ2 (ok.len _ hm)],n8,okt,cY0<|ok.sm _ hm,dC6<|ok.len _ hm,λu oku gu=>⟨u,_,rfl,oku,?_⟩⟩
  have:=dC8 okt gt gu;rw[List.take_succ,aV hi];exact this
 .rintro ρ ⟨t,x4,rfl,okt,gt⟩;rw[aO,zR<|aG _]at gt;have m2':m.natAbs<=2^600:=by rw[p6']at m2;lia
  try dsimp only
  unfold aV9;rw[aZ];left;refine⟨ad,?_⟩
  unfold aV8;rw[aZ];refine cF (tbF n n t).length (λi=> .tup [.int (i:Int),(tbF n n t).getD i .non]) [some<|.pu<|.int (n:Int),some<|.pu<|.int m,some<|.pu<|.lst<|L.map aS,some<|.pu<|.lst<|tbF n n t,x4,some<|.ow [],none] ?_
   (λi ρ=> ∃(x4 x6:Option B),ρ=[some<|.pu<|.int (n:Int),some<|.pu<|.int m,some<|.pu<|.lst<|L.map aS,some<|.pu<|.lst<|tbF n n t,x4,some<|.ow<|tbF i n<|tH t i,x6]) ⟨_,_,rfl⟩ ?_ ?_
  .intro Q' q;left;exact q
  .rintro i ρ hi ⟨y4,x6,rfl⟩;rw[j7]at hi;rw[aC6 hi];have F:=cJ4 okt m2' i ad
   refine⟨ae,ae,rfl,?_⟩
   show(aS8 5 _:US) _ [some<|.pu<|.int (n:Int),some<|.pu<|.int m,some<|.pu<|.lst<|L.map aS,some<|.pu<|.lst<|tbF n n t,some<|.pu<|aS<|rwF n<|t i,some<|.ow<|tbF i n<|tH t i,some<|.pu<|.int (i:Int)]
   simp only[aS];left;rw[bY9 ad]
   refine⟨i,n,tH t i,t i,rfl,ad,n8,λr hr=>by have:=F.tri.pos r hr;lia,F.bd,λj=>by have:=okt.lo i j;have:=okt.hi i j;lia,?_⟩
   simp only[aS];have ab: ∀j,i<=j->lY (tH t i) i (t i) j=t i j:=wS F.tri i (t i) (aG _);have er:=dQ4 (f:=lY (tH t i) i (t i)) (n:=n) ad ab
   have el:=cT length er;rw[bY,bC,bC]at el;refine⟨nl_row _,by rw[bC];lia,by rw[j7];lia,some<|.pu<|.tup<|(rwF n<|t i).map .int,some<|.pu<|.int (i:Int),?_⟩
   rw[er];have:=aU8 i n (tH t i) (lY (tH t i) i<|t i);rw[aS]at this;rw[this];rfl
  .rintro ρ ⟨y4,x6,rfl⟩;rw[j7];unfold aV7;left;have F:=cJ4 okt m2' n (aG _);exact h _ ⟨⟨F.tri,F.ahead⟩,λv=>(F.gen v).trans (gt v)⟩
theorem absJ (a:Int):(if a<0 then -a else a)=(a.natAbs:Int):=by split<;>omega
theorem dC9 {l:Int}(g0:0<=g)(l0:0<=l):Int.gcd l (g%l)=Int.gcd g l:=by
 obtain⟨a,rfl⟩:=Int.eq_ofNat_of_zero_le g0;obtain⟨b,rfl⟩:=Int.eq_ofNat_of_zero_le l0;show Nat.gcd b (a%b)=Nat.gcd a b;rw[Nat.gcd_comm a b,Nat.gcd_rec b a,Nat.gcd_comm]
theorem dD0 (n:Nat)(t:Nat->Nat->Int):(tbL n t).map aS=tbF n n t:=by
 unfold tbL tbF;rw[jJ];rfl
theorem dV7 (u:Nat->Int)(r:Int)(n1:1<=n)(top:p.getD n 0=1):ps (ttF p n u) r n=r*ps u r n-u (n-1)*ps (fOf p) r (n+1):=by
 obtain⟨m,rfl⟩: ∃m,n=m+1:=⟨n-1,ad⟩
 have e1: ∀k,ps (ttF p (m+1) u) r k=ps (shF u 1) r k-u m*ps (fOf p) r k:=by
  intro k
  induction k with
  | zero=>simp[ps]
  | succ k ih=>
   show ps _ r k+ttF p (m+1) u k*r^k=(ps (shF u 1) r k+shF u 1 k*r^k)-u m*(ps (fOf p) r k+fOf p k*r^k)
   rw[ih];have e:ttF p (m+1) u k=shF u 1 k-u m*fOf p k:=by
    unfold ttF shF fOf;rw[cN]
    by_cases z:k=0
    .rw[aA z,a9 ad]
    .rw[a9 z,aA ad]
   rw[e]
   grind
 rw[e1<|m+1];have e2:ps (shF u 1) r (m+1)=r*ps u r m:=by
  have:=aV2 u r 1 m;rw[show 1+m=m+1 by lia,jN]at this
  exact this
 have e3:ps u r (m+1)=ps u r m+u m*r^m:=rfl;have e4:ps (fOf p) r (m+1+1)=ps (fOf p) r (m+1)+1*r^(m+1):=by
  show _+fOf p (m+1)*_=_
  rw[show fOf p (m+1)=1 from top]
 rw[e2,e3,e4,cN,jK]
 grind
noncomputable def tI (r q:Int):Nat->Int
 | 0=>1
 | i+1=>tI r q i*r%q
theorem aW0 (r q:Int): ∀i,∃k,tI r q i=r^i+q*k
 | 0=>⟨0,by show(1:Int)=r^0+q*0;rw[cZ];lia⟩
 | i+1=>by
  obtain⟨k,hk⟩:=aW0 r q i;refine⟨k*r-tI r q i*r/q,?_⟩;show tI r q i*r%q=_;have:=iG (tI r q i*r) q;rw[jK]
  grind
noncomputable def knT (q r:Int):Nat->Nat->Int:=λi j=>if i=0 then(if j=0 then q else 0)else if j=0 then(-tI r q i)%q else if j=i then 1 else 0
noncomputable def knD (n:Nat)(q r:Int):D:= .tup (tbF n n<|knT q r)
theorem bG0 (n2:2<=n)(n4:n<=4)(h:q∣ps v r n):Gen n (Rows n<|knT q r) v:=by
 obtain⟨k,hk⟩:=h;obtain⟨k1,h1⟩:=aW0 r q 1;obtain⟨k2,h2⟩:=aW0 r q 2;obtain⟨k3,h3⟩:=aW0 r q 3;have m: ∀i,∃e,(-tI r q i)%q= -tI r q i+q*e:=λi=>⟨-(-tI r q i/q),by have:=iG (-tI r q i) q;grind⟩
 obtain⟨e1,f1⟩:=m 1;obtain⟨e2,f2⟩:=m 2;obtain⟨e3,f3⟩:=m 3;have t0: ∀j,knT q r 0 j=if j=0 then q else 0:=λj=>rfl
 have t1: ∀j,knT q r 1 j=if j=0 then(-tI r q 1)%q else if j=1 then 1 else 0:=λj=>rfl
 have t2: ∀j,knT q r 2 j=if j=0 then(-tI r q 2)%q else if j=2 then 1 else 0:=λj=>rfl
 have t3: ∀j,knT q r 3 j=if j=0 then(-tI r q 3)%q else if j=3 then 1 else 0:=λj=>rfl
 match n,n2,n4 with
 | 2,_,_=>
  simp only[ps,cZ,jN,bW]at hk;refine(Gen.comb (k+v 1*(k1-e1)) (Gen.comb (v 1) .zero<|.base ⟨1,ac,rfl⟩)<|.base ⟨0,ac,rfl⟩).cong λj hj=> ?_
  simp only[t0,t1]
  match j,hj with
  | 0,_=>simp only[cU];rw[f1,h1,jN];grind
  | 1,_=>simp
 | 3,_,_=>
  simp only[ps,cZ,jN,bW]at hk;refine(Gen.comb (k+v 1*(k1-e1)+v 2*(k2-e2)) (Gen.comb (v 2) (Gen.comb (v 1) .zero<|.base ⟨1,ac,rfl⟩)<|.base ⟨2,ac,rfl⟩)<|.base ⟨0,ac,rfl⟩).cong λj hj=> ?_
  simp only[t0,t1,t2]
  match j,hj with
  | 0,_=>simp only[cU];rw[f1,h1,f2,h2,jN];grind
  | 1,_=>simp
  | 2,_=>simp
 | 4,_,_=>
  simp only[ps,cZ,jN,bW]at hk;refine(Gen.comb (k+v 1*(k1-e1)+v 2*(k2-e2)+v 3*(k3-e3)) (Gen.comb (v 3) (Gen.comb (v 2) (Gen.comb (v 1) .zero<|.base ⟨1,ac,rfl⟩)<|.base ⟨2,ac,rfl⟩)<|.base ⟨3,ac,rfl⟩)<|.base ⟨0,ac,rfl⟩).cong λj hj=> ?_
  simp only[t0,t1,t2,t3]
  match j,hj with
  | 0,_=>simp only[cU];rw[f1,h1,f2,h2,f3,h3,jN];grind
  | 1,_=>simp
  | 2,_=>simp
  | 3,_=>simp
theorem dD1 {j:Nat}(h:j<n):fnL (rwF n f) j=f j:=by
 unfold fnL;rw[aQ,aU6 h];rfl
theorem aH1 {m:Nat}{u:Nat->Nat->Int}(h: ∀i,i<n-> ∀j,j<m->t i j=u i j):tbF n m t=tbF n m u:=by
 unfold tbF;apply kE;intro i hi;rw[kR λj hj=>h i (dN.mp hi) j hj]
theorem Pr.no_zero {p:Int}(pp:Pr p)(h:a*b%p=0):a%p=0\/b%p=0:=by
 have p2:=pp.lo
 by_cases c:a%p=0
 .exact .inl c
 .refine .inr ?_
  have a0:=cA a (show p≠0 by lia)
  have a1:=bZ a (show 0<p by lia)
  have iv:=pp.inv (a%p) ad a1
  generalize bL0 (a%p) p (p.toNat-2)=t at iv;have e:b%p=(t*(a%p))%p*b%p:=by rw[iv,jM]
  rw[e,emL,gM,<-emR,emL a b p,h,b6,dX]
theorem dD2 {p:Int}(p2:2<=p)(a:Nat×(Nat->Int))(z:Int):va p a z%p=va p a z:=jH _ _
theorem cQ0 {p:Int}(pp:Pr p){a g:Nat×(Nat->Int)}(hg: ∀j,g.1<j->g.2 j=0){z:Int}(h:va p a z≠0)(h2:va p g z≠0): ∀k,va p (powT p a g k) z≠0
 | 0=>h
 | k+1=>by
  show va p (tm p (powT p a g k) g) z≠0
  rw[dV3 hg];intro e;rcases pp.no_zero e with e|e
  .rw[dD2 pp.lo]at e;exact cQ0 pp hg h h2 k e
  .rw[dD2 pp.lo]at e;exact h2 e
theorem bZ0 {p:Int}(pp:Pr p){z:Int}: ∀(l:List ((Nat×(Nat->Int))×Nat)) (a:Nat×(Nat->Int)),(∀x∈l,∀j,x.1.1<j->x.1.2 j=0)->va p a z≠0->(∀x∈l,va p x.1 z≠0)->va p (allT p a l) z≠0
 | [],a,_,h,_=>h
 | y::l,a,hl,h,h2=>bZ0 pp l (powT p a y.1 y.2) (λx hx=>hl x (dS _ hx)) (cQ0 pp (hl y<|jD ..) h (h2 y<|jD ..) _) λx hx=>h2 x (dS _ hx)
theorem va_lin {p:Int}(p2:2<=p){g:Nat×(Nat->Int)}(mg:MP p g.1 g.2)(h1:g.1=1)(z:Int):va p g z=(z+g.2 0)%p:=by
 have e:g.2 1=1:=by have:=mg.top;rw[h1]at this;exact this
 unfold va;rw[h1];show(0+g.2 0*z^0+g.2 1*z^1)%p=_;rw[e,cZ,jN]
 congr 1
 lia
def cJ6 (q:Int)(F:Nat×(Nat->Int))(c:Int)(k:Nat):Prop:= ∃H:Nat×(Nat->Int),MP q H.1 H.2/\F=powT q H (j8 c) k/\va q H (-c)≠0
noncomputable def hb (r q:Int)(f:Nat->Int)(m:Nat):Nat->Int
 | 0=>0
 | k+1=>(hb r q f m k*r+f (m-k))%q
theorem dQ5 {p:Int}(p2:2<=p){g:Nat×(Nat->Int)}(mg:MP p g.1 g.2){l:List ((Nat×(Nat->Int))×Nat)}{a:Nat×(Nat->Int)}(ma:MP p a.1 a.2)(hl: ∀x∈l,MP p x.1.1 x.1.2):allT p (tm p a g) l=tm p (allT p a l) g:=by
 rw[aH0 ma.hi mg.hi,b11 p2 l ma hl,aH0 mg.hi (MP.allT p2 l ma hl).hi]
theorem c85 {p:Int}(p2:2<=p){g:Nat×(Nat->Int)}(mg:MP p g.1 g.2){l:List ((Nat×(Nat->Int))×Nat)}{a:Nat×(Nat->Int)}(ma:MP p a.1 a.2)(hl: ∀x∈l,MP p x.1.1 x.1.2): ∀k,allT p (powT p a g k) l=powT p (allT p a l) g k
 | 0=>rfl
 | k+1=>by
  show allT p (tm p (powT p a g k) g) l=tm p (powT p (allT p a l) g k) g
  rw[dQ5 p2 mg (MP.powT p2 ma mg k) hl,c85 p2 mg ma hl k]
theorem cQ1: ∀r:List Int,ltL r r=false
 | []=>rfl
 | a::r=>by unfold ltL;rw[aA rfl];exact cQ1 r
theorem dD3 {x y:(Nat×(Nat->Int))×Nat}(h:ltP x y):x.1≠y.1:=by
 intro e;unfold ltP at h;rw[e]at h;rcases h with h|h
 .lia
 .rw[cQ1]at h;exact absurd h.2 ac
theorem dD4 (pq:Pr q)(c0:0<=c)(c1:c<q){g:Nat×(Nat->Int)}(mg:MP q g.1 g.2)(d1:1<=g.1)(nr:2<=g.1->NoR q g)(h:g≠j8 c):va q g (-c)≠0:=by
 have q2:=pq.lo
 by_cases d2:g.1=1
 .rw[va_lin q2 mg d2];intro z;have r:=mg.rng 0;obtain⟨k,hk⟩:=uK z;have k0:k=0:=by
   rcases Int.lt_trichotomy k 0 with z|z|z
   .have:q*k<=q*(-1):=l7 ad ad
    lia
   .exact z
   .have:q*1<=q*k:=l7 ad ad
    lia
  rw[k0,b6]at hk;refine h ?_;rw[cI6 mg d2,show g.2 0=c by lia]
 .have:=nr ad c.toNat ad
  rw[Int.toNat_of_nonneg c0]at this;exact this
theorem cQ2 (pq:Pr q)(mF:MP q F.1 F.2)(sp:SP q F xs)(c0:0<=c)(c1:c<q) :
  (∀x∈xs,x.1=j8 c->cJ6 q F c x.2)/\((∀x∈xs,x.1≠j8 c)->cJ6 q F c 0):=by
 have q2:=pq.lo;have mx: ∀x∈xs,MP q x.1.1 x.1.2:=λx hx=>(sp.mem x hx).1
 have nz: ∀x∈xs,x.1≠j8 c->va q x.1 (-c)≠0:=λx hx h=>dD4 pq c0 c1 (mx x hx) (sp.mem x hx).2.1 (sp.mem x hx).2.2.2.2.2.1 h
 have v1:va q pZ (-c)≠0:=by
  show(0+(if 0=0 then(1:Int)else 0)*(-c)^0)%q≠0
  rw[aA rfl,cZ,fX,bW,eX ac ad]
  decide
 refine⟨λx hx e=> ?_,λh=>⟨F,mF,rfl,?_⟩⟩
 .obtain⟨l1,l2,rfl⟩:=List.append_of_mem hx;have od:=sp.ord;rw[aN4,List.pairwise_cons]at od;have m1: ∀y∈l1,MP q y.1.1 y.1.2:=λy hy=>mx y (cP.mpr<|.inl hy)
  have m2: ∀y∈l2,MP q y.1.1 y.1.2:=λy hy=>mx y (cP.mpr<|.inr<|dS _ hy)
  have mA:=MP.allT q2 l1 (MP.one q2) m1;refine⟨allT q (allT q pZ l1) l2,MP.allT q2 l2 mA m2,?_,?_⟩
  .rw[<-sp.prod,oY];show allT q (powT q (allT q pZ l1) x.1 x.2) l2=_;rw[c85 q2 (mx x hx) mA m2,e]
  .rw[<-oY];refine bZ0 pq _ _ (λy hy=> ?_) v1 λy hy=> ?_
   .rcases cP.mp hy with hy|hy
    .exact(m1 y hy).hi
    .exact(m2 y hy).hi
   .rcases cP.mp hy with hy|hy
    .exact nz y (cP.mpr<|.inl hy) λz=>dD3 (od.2.2 y hy x<|jD ..) (z.trans e.symm)
    .exact nz y (cP.mpr<|.inr<|dS _ hy) λz=>dD3 (od.2.1.1 y hy) (e.trans z.symm)
 .rw[<-sp.prod];exact bZ0 pq xs pZ (λy hy=>(mx y hy).hi) v1 λy hy=>nz y hy (h y hy)
noncomputable def dA (c b:Int):Int:=b*b-4*c
noncomputable def dB (d c b:Int):Int:=b*b*c*c-4*c*c*c-4*b*b*b*d-27*d*d+18*b*c*d
noncomputable def dC (e d c b:Int):Int:= -27*b*b*b*b*e*e+18*b*b*b*c*d*e-4*b*b*b*d*d*d-4*b*b*c*c*c*e+b*b*c*c*d*d+144*b*b*c*e*e-6*b*b*d*d*e-80*b*c*c*d*e+18*b*c*d*d*d-192*b*d*e*e+16*c*c*c*c*e-4*c*c*c*d*d-128*c*c*e*e+144*c*d*d*e-27*d*d*d*d+256*e*e*e
theorem dV8 (e d c b:Int):gD 4 (eE [e,d,c,b,1])=dC e d c b:=by
 have h:=id4 e d c b;have h2:27*dC e d c b=27*gD 4 (eE [e,d,c,b,1]):=by
  rw[h];unfold dC
  grind
 lia
theorem dv2 {e:Int}(h:q∣a)(h2:q∣b)(he:e=a*x+b*y):q∣e:=by
 rw[he];exact v6 (nV h) (nV h2)
theorem dv3 {e:Int}(h:q∣a)(h2:q∣b)(h3:q∣c)(he:e=a*x+b*y+c*z):q∣e:=by
 rw[he];exact v6 (v6 (nV h)<|nV h2) (nV h3)
theorem dv1 {e:Int}(h:q∣a)(he:e=a*x):q∣e:=by rw[he];exact nV h
theorem cgA {d:Int}(h:q∣a-b)(h2:q∣c-d):q∣a+c-(b+d):=dv2 (x:=1) (y:=1) h h2 (by grind)
theorem cgM {d:Int}(h:q∣a-b)(h2:q∣c-d):q∣a*c-b*d:=dv2 (x:=c) (y:=b) h h2 (by grind)
theorem cgR (a:Int):q∣a-a:=by rw[v3];exact oH q
theorem cgE (a:Int):q∣a%q-a:=by
 have:=iG a q;exact⟨-(a/q),by grind⟩
theorem cgT (h:q∣a-b):q∣a↔q∣b:=⟨λg=>dv2 (x:=1) (y:= -1) g h (by grind),λg=>dv2 (x:=1) (y:=1) g h (by grind)⟩
theorem bG1 {q z w:Int}(h:q∣z-w)(g:Nat->Int): ∀n,q∣ps g z n-ps g w n
 | 0=>cgR _
 | n+1=>by
  have p: ∀k:Nat,q∣z^k-w^k:=by
   intro k
   induction k with
   | zero=>rw[cZ,cZ];exact cgR _
   | succ k ih=>rw[jK,jK];exact cgM ih h
  exact cgA (bG1 h g n) (cgM (cgR _)<|p n)
theorem em_dv (h:a%q=b%q):q∣a-b:=uK (Int.emod_eq_emod_iff_emod_sub_eq_zero.mp h)
structure PrI (P:Int):Prop where
 lo:2<=P
 or: ∀x y:Int,P∣x*y->P∣x\/P∣y
theorem bS2: ∀(n m:Nat),m<=n->2<=m-> ∃k,2<=k/\k∣m/\ ∀l,2<=l->l∣k->l=k
 | 0,m,h,h2=>aa
 | n+1,m,h,h2=>by
  by_cases c: ∃l,2<=l/\l∣m/\l≠m
  .obtain⟨l,l2,lm,ne⟩:=c;have:=a14 aa lm
   obtain⟨k,k2,kl,hk⟩:=bS2 n l aa l2
   exact⟨k,k2,Nat.dvd_trans kl lm,hk⟩
  .refine⟨m,h2,Nat.dvd_refl m,λl l2 lm=> ?_⟩
   exact kB λne=>c ⟨l,l2,lm,ne⟩
theorem dD5 (h:2<=c.natAbs): ∃P:Int,PrI P/\P∣c:=by
 obtain⟨k,k2,kc,hk⟩:=bS2 c.natAbs c.natAbs (aG _) h;refine⟨(k:Int),⟨aa,λx y hxy=> ?_⟩,zZ.mpr kc⟩
 have h1:k∣x.natAbs*y.natAbs:=by
  rw[<-dW];exact zZ.mp hxy
 by_cases cx:k∣x.natAbs
 .exact .inl (zZ.mpr cx)
 .have g1:Nat.gcd k x.natAbs=1:=by
   have d1:=Nat.gcd_dvd_left k x.natAbs;have d2:=Nat.gcd_dvd_right k x.natAbs;have p0:0<Nat.gcd k x.natAbs:=Nat.gcd_pos_of_pos_left _ aa
   by_cases e:Nat.gcd k x.natAbs=1
   .exact e
   .have:=hk _ aa d1
    rw[this]at d2;exact absurd d2 cx
  exact .inr (zZ.mpr<|Nat.Coprime.dvd_of_dvd_mul_left (show Nat.Coprime k x.natAbs from g1) h1)
theorem c86 {u b:Nat->Int}{i j:Nat}(hu: ∀k,k<i->u k=0)(hb: ∀k,k<j->b k=0): ∀n,conv u b n (i+j)=if i<n then u i*b j else 0
 | 0=>rfl
 | n+1=>by
  show conv u b n (i+j)+u n*shF b n (i+j)=_
  rw[c86 hu hb n];unfold shF;rcases Nat.lt_trichotomy n i with h|h|h
  .rw[hu n h,cY,dY,a9<|show ¬i<n by lia,a9<|show ¬i<n+1 by lia]
  .subst h;rw[a9<|show ¬n<n by lia,aA<|show n<=n+j by lia,aA<|show n<n+1 by lia,show n+j-n=j by lia,bW]
  .rw[aA h,aA<|show i<n+1 by lia]
   by_cases c:n<=i+j
   .rw[aA c,hb (i+j-n) ad,b6,dY]
   .rw[a9 c,b6,dY]
theorem bS3 {a:Nat->Int}{d:Nat}(h: ¬ ∀j,j<=d->P∣a j): ∃i,i<=d/\ ¬P∣a i/\ ∀k,k<i->P∣a k:=by
 induction d with
 | zero=>exact⟨0,aG _,λz=>h λj hj=>by rw[show j=0 by lia];exact z,λk hk=>absurd hk (kH _)⟩
 | succ d ih=>
  by_cases c: ∀j,j<=d->P∣a j
  .exact⟨d+1,aG _,λz=>h λj hj=>by
    by_cases e:j=d+1
    .rw[e];exact z
    .exact c j ad,λk hk=>c k ad⟩
  .obtain⟨i,h1,h2,h3⟩:=ih c;exact⟨i,ad,h2,h3⟩
theorem dQ6 (pr:PrI P){a q:Nat->Int}{d:Nat}(hd: ∀m,P∣conv a q (d+1) m):(∀j,j<=d->P∣a j)\/ ∀j,j<=e->P∣q j:=by
 by_cases ca: ∀j,j<=d->P∣a j
 .exact .inl ca
 .by_cases cq: ∀j,j<=e->P∣q j
  .exact .inr cq
  .exfalso
   obtain⟨i,i1,i2,i3⟩:=bS3 ca;obtain⟨j,j1,j2,j3⟩:=bS3 cq;have lo:=pr.lo;have e1:conv (λk=>if k<i then 0 else a k) (λk=>if k<j then 0 else q k) (d+1) (i+j)%P=conv a q (d+1) (i+j)%P:=by
    refine aU9 (λx y=> ?_) (d+1) (i+j)
    try dsimp only
    by_cases cx:x<i
    .rw[aA cx,cY,dX,lD<|nV<|i3 x cx]
    .rw[a9 cx]
     by_cases cy:y<j
     .rw[aA cy,b6,dX,lD<|Int.dvd_mul_of_dvd_right<|j3 y cy]
     .rw[a9 cy]
   rw[c86 (λk hk=>aA hk) λk hk=>aA hk,aA ad,lD<|hd _]at e1
   try dsimp only at e1
   rw[a9<|cQ _,a9<|cQ _]at e1;rcases pr.or _ _ (uK e1)with z|z
   .exact i2 z
   .exact j2 z
theorem cQ3 {a:Nat->Int}{d:Nat}(ha: ∀j,d<j->a j=0)(h: ∀j,j<=d->P∣a j): ∃b:Nat->Int,(∀j,d<j->b j=0)/\ ∀j,a j=P*b j:=by
 refine⟨λj=>if j<=d then a j/P else 0,λj hj=>a9 ad,λj=> ?_⟩
 dsimp only
 by_cases c:j<=d
 .rw[aA c,Int.mul_ediv_cancel'<|h j c]
 .rw[a9 c,ha j ad,b6]
theorem b19 (c:Int)(u b:Nat->Int)(m:Nat): ∀n,conv u (λj=>c*b j) n m=c*conv u b n m
 | 0=>by show(0:Int)=c*0;rw[b6]
 | n+1=>by
  show conv u (λj=>c*b j) n m+u n*shF (λj=>c*b j) n m=c*(conv u b n m+u n*shF b n m)
  rw[b19 c u b m n,cP0,rE]
  congr 1
  rw[<-gM,<-gM,dZ<|u n]
theorem dD6 {f:Nat->Int}{d e:Nat}(f1:f (d+e)=1): ∀(N:Nat) (c:Int) (a q:Nat->Int),c.natAbs<=N->c≠0->(∀j,d<j->a j=0)->(∀j,e<j->q j=0)->(∀m,c*f m=conv a q (d+1) m)->
  ∃a' q':Nat->Int,a' d=1/\(∀j,d<j->a' j=0)/\q' e=1/\(∀j,e<j->q' j=0)/\ ∀m,f m=conv a' q' (d+1) m
 | 0,c,a,q,hN,c0,_,_,_=>aa
 | N+1,c,a,q,hN,c0,ha,hq,h=>by
  have top:=h (d+e);rw[f1,fX,bE1 hq]at top
  by_cases c1:c.natAbs=1
  .have hs:(a d).natAbs=1/\(q e).natAbs=1:=by
    have:(a d).natAbs*(q e).natAbs=1:=by rw[<-dW,<-top,c1]
    exact⟨Nat.eq_one_of_mul_eq_one_right this,Nat.eq_one_of_mul_eq_one_left this⟩
   have sq: ∀x:Int,x.natAbs=1->x*x=1:=λx hx=>by
    rcases Int.natAbs_eq x with z|z<;>rw[hx]at z<;>rw[z]<;>rfl
   have s1:=sq _ hs.1;have s2:=sq _ c1;refine⟨λj=>a d*a j,λj=>(c*a d)*q j,s1,λj hj=>(by show a d*a j=0;rw[ha j hj,b6]),?_,λj hj=>(by show c*a d*q j=0;rw[hq j hj,b6]),λm=> ?_⟩
   .show c*a d*q e=1
    rw[gM,<-top];exact s2
   .rw[aG8,b19,<-h m];have:a d*(c*a d*(c*f m))=(a d*a d)*(c*c)*f m:=by grind
    rw[this,s1,s2]
    grind
  .obtain⟨P,pr,c',hc⟩:=dD5 (c:=c) aa
   have lo:=pr.lo;have less:c'.natAbs<c.natAbs:=by
    rw[hc,dW];have:0<c'.natAbs:=Int.natAbs_pos.mpr λz=>c0 (by rw[hc,z,b6])
    have h2:2<=P.natAbs:=aa
    have:=qO c'.natAbs h2;omega
   have c'0:c'≠0:=λz=>c0 (by rw[hc,z,b6])
   have all: ∀m,P∣conv a q (d+1) m:=λm=>by
    rw[<-h m,hc,gM];exact uS _ _
   have cut: ∀x y:Int,P*x=P*y->x=y:=λx y z=>uH aa z
   rcases dQ6 (e:=e) pr all with z|z
   .obtain⟨b,hb,eb⟩:=cQ3 ha z;have ea:a=λj=>P*b j:=funext eb
    refine dD6 f1 N c' b q aa c'0 hb hq λm=>cut _ _ ?_
    rw[<-gM,<-hc,h m,ea,aG8]
   .obtain⟨b,hb,eb⟩:=cQ3 hq z;have ea:q=λj=>P*b j:=funext eb
    refine dD6 f1 N c' a b aa c'0 ha hb λm=>cut _ _ ?_
    rw[<-gM,<-hc,h m,ea,b19]
theorem cay2 (p:List Int)(u:Nat->Int): ∀j,j<2->itT p 2 u 2 j= -(p.getD 0 0*itT p 2 u 0 j+p.getD 1 0*itT p 2 u 1 j)
 | 0,_=>by simp[itT,ttF];grind
 | 1,_=>by simp[itT,ttF];grind
theorem cay3 (p:List Int)(u:Nat->Int): ∀j,j<3->itT p 3 u 3 j= -(p.getD 0 0*itT p 3 u 0 j+p.getD 1 0*itT p 3 u 1 j+p.getD 2 0*itT p 3 u 2 j)
 | 0,_=>by simp[itT,ttF];grind
 | 1,_=>by simp[itT,ttF];grind
 | 2,_=>by simp[itT,ttF];grind
theorem cay4 (p:List Int)(u:Nat->Int): ∀j,j<4->itT p 4 u 4 j= -(p.getD 0 0*itT p 4 u 0 j+p.getD 1 0*itT p 4 u 1 j+p.getD 2 0*itT p 4 u 2 j+p.getD 3 0*itT p 4 u 3 j)
 | 0,_=>by simp[itT,ttF];grind
 | 1,_=>by simp[itT,ttF];grind
 | 2,_=>by simp[itT,ttF];grind
 | 3,_=>by simp[itT,ttF];grind
noncomputable def comb (n:Nat)(w:Nat->Int)(r:Nat->Nat->Int):Nat->Int:=λj=>k7 n λk=>w k*r k j
theorem c87 (w:Nat->Int)(r:Nat->Nat->Int)(j:Nat):comb 2 w r j=w 0*r 0 j+w 1*r 1 j:=by simp[comb,k7,cB]
theorem c88 (w:Nat->Int)(r:Nat->Nat->Int)(j:Nat):comb 3 w r j=w 0*r 0 j+w 1*r 1 j+w 2*r 2 j:=by simp[comb,k7,cB,Int.add_assoc]
theorem c89 (w:Nat->Int)(r:Nat->Nat->Int)(j:Nat):comb 4 w r j=w 0*r 0 j+w 1*r 1 j+w 2*r 2 j+w 3*r 3 j:=by simp[comb,k7,cB,Int.add_assoc]
theorem c90 (w u:Nat->Int)(n2:2<=n)(n4:n<=4): ∀j,j<n->ttF p n (comb n w<|itT p n u) j=comb n (ttF p n w) (itT p n u) j:=by
 intro j hj
 match n,n2,n4 with
 | 2,_,_=>
  have c:=cay2 p u j hj;have s1:itT p 2 u 1 j=ttF p 2 (itT p 2 u 0) j:=rfl;have s2:itT p 2 u 2 j=ttF p 2 (itT p 2 u 1) j:=rfl;have t0:ttF p 2 w 0= -(w 1*p.getD 0 0):=by simp[ttF]
  have t1:ttF p 2 w 1=w 0-w 1*p.getD 1 0:=by simp[ttF]
  rw[c87,t0,t1];unfold ttF at s1 s2⊢;rw[c87,c87];split at s1<;>split at s2<;>split<;>grind
 | 3,_,_=>
  have c:=cay3 p u j hj;have s1:itT p 3 u 1 j=ttF p 3 (itT p 3 u 0) j:=rfl;have s2:itT p 3 u 2 j=ttF p 3 (itT p 3 u 1) j:=rfl;have s3:itT p 3 u 3 j=ttF p 3 (itT p 3 u 2) j:=rfl;have t0:ttF p 3 w 0= -(w 2*p.getD 0 0):=by simp[ttF]
  have t1:ttF p 3 w 1=w 0-w 2*p.getD 1 0:=by simp[ttF]
  have t2:ttF p 3 w 2=w 1-w 2*p.getD 2 0:=by simp[ttF]
  rw[c88,t0,t1,t2];unfold ttF at s1 s2 s3⊢;rw[c88,c88]
  by_cases z:j=0
  .rw[aA z]at s1 s2 s3⊢
   grind
  .rw[a9 z]at s1 s2 s3⊢
   grind
 | 4,_,_=>
  have c:=cay4 p u j hj;have s1:itT p 4 u 1 j=ttF p 4 (itT p 4 u 0) j:=rfl;have s2:itT p 4 u 2 j=ttF p 4 (itT p 4 u 1) j:=rfl;have s3:itT p 4 u 3 j=ttF p 4 (itT p 4 u 2) j:=rfl;have s4:itT p 4 u 4 j=ttF p 4 (itT p 4 u 3) j:=rfl;have t0:ttF p 4 w 0= -(w 3*p.getD 0 0):=by simp[ttF]
  have t1:ttF p 4 w 1=w 0-w 3*p.getD 1 0:=by simp[ttF]
  have t2:ttF p 4 w 2=w 1-w 3*p.getD 2 0:=by simp[ttF]
  have t3:ttF p 4 w 3=w 2-w 3*p.getD 3 0:=by simp[ttF]
  rw[c89,t0,t1,t2,t3];unfold ttF at s1 s2 s3 s4⊢;rw[c89,c89]
  by_cases z:j=0
  .rw[aA z]at s1 s2 s3 s4⊢
   grind
  .rw[a9 z]at s1 s2 s3 s4⊢
   grind
theorem aH2 {g:Nat->Int}(n1:1<=n)(h: ∀j,j<n->f j=g j): ∀j,j<n->ttF p n f j=ttF p n g j:=by
 intro j hj;unfold ttF;rw[h (n-1) aa,h (j-1) aa]
theorem dD7 {p:List Int}{n:Nat}(u v:Nat->Int)(n2:2<=n)(n4:n<=4): ∀i j,j<n->itT p n (gE p n u v) i j=comb n (itT p n v i) (itT p n u) j
 | 0,j,_=>rfl
 | i+1,j,hj=>by
  show ttF p n (itT p n (gE p n u v) i) j=_
  rw[aH2 aa (dD7 u v n2 n4 i) j hj,c90 _ _ n2 n4 j hj]
  rfl
theorem bS4 {s:Nat->Nat->Int}(h: ∀i j,j<n->s i j=t i j):tbL n s=tbL n t:=by
 unfold tbL;exact kE λi _=>kR λj hj=>h i j hj
set_option maxHeartbeats 0 in
theorem mulD4 (A B:Nat->Nat->Int):gD 4 (tbL 4 λi=>comb 4 (A i) B)=gD 4 (tbL 4 A)*gD 4 (tbL 4 B):=by
 rw[bF7,bF7,bF7];simp only[c89]
 grind (ringSteps:=100000000)
theorem mulD3 (A B:Nat->Nat->Int):gD 4 (tbL 3 λi=>comb 3 (A i) B)=gD 4 (tbL 3 A)*gD 4 (tbL 3 B):=by
 rw[bF6,bF6,bF6];simp only[c88]
 grind
theorem mulD2 (A B:Nat->Nat->Int):gD 4 (tbL 2 λi=>comb 2 (A i) B)=gD 4 (tbL 2 A)*gD 4 (tbL 2 B):=by
 rw[bF5,bF5,bF5];simp only[c87]
 grind
theorem dQ7 (u v:Nat->Int)(n2:2<=n)(n4:n<=4):nrm p n (gE p n u v)=nrm p n u*nrm p n v:=by
 unfold nrm;rw[bS4 (t:=λi=>comb n (itT p n v i) (itT p n u))<|dD7 u v n2 n4,dZ]
 match n,n2,n4 with
 | 2,_,_=>exact mulD2 _ _
 | 3,_,_=>exact mulD3 _ _
 | 4,_,_=>exact mulD4 _ _
def valL:List Int->Int->Int
 | [],_=>0
 | c::p,r=>valL p r*r+c
theorem pdiv {a:Nat->Int}{D:Nat}(aD:a D≠0)(aH: ∀j,D<j->a j=0){K:(Nat->Int)->Prop}(cl: ∀(g:Nat->Int) (α β:Int) (E:Nat),K g->K λm=>α*g m-β*shF a E m): ∀(E:Nat) (g:Nat->Int),K g->(∀j,D+E<=j->g j=0)->
  ∃(c:Int) (q r:Nat->Int),c≠0/\(∀j,E<=j->q j=0)/\(∀j,D<=j->r j=0)/\K r/\ ∀m,c*g m=conv a q (D+1) m+r m
 | 0,g,kg,hg=>⟨1,λ_=>0,g,ac,λ_ _=>rfl,λj hj=>hg j ad,kg,λm=>by
   have: ∀n,conv a (λ_=>0) n m=0:=by
    intro n
    induction n with
    | zero=>rfl
    | succ n ih=>
     show conv a (λ_=>0) n m+a n*shF (λ_=>0) n m=0
     rw[ih];unfold shF;split<;>rw[b6]<;>rfl
   rw[this]
   lia⟩
 | E+1,g,kg,hg=>by
  obtain⟨c,q,r,c0,hq,hr,kr,e⟩:=pdiv aD aH cl E (λm=>a D*g m-g (D+E)*shF a E m) (cl g _ _ E kg) λj hj=>by
   show a D*g j-g (D+E)*shF a E j=0
   unfold shF;rw[aA ad]
   by_cases z:j=D+E
   .rw[z,show D+E-E=D by lia,dZ,v3]
   .rw[hg j ad,aH (j-E) ad,b6,b6,v3]
  refine⟨c*a D,λj=>q j+(if j=E then c*g (D+E)else 0),r,Int.mul_ne_zero c0 aD,λj hj=> ?_,hr,kr,λm=> ?_⟩
  .show q j+(if j=E then c*g (D+E)else 0)=0
   rw[hq j ad,a9 ad]
   rfl
  .have h1:=e m;rw[aG9,aA8 (c*g (D+E)) E λj hj=>aH j ad]
   have h2:c*(a D*g m-g (D+E)*shF a E m)=conv a q (D+1) m+r m:=h1;have h3:c*a D*g m=c*(a D*g m-g (D+E)*shF a E m)+c*g (D+E)*shF a E m:=by grind
   rw[h3,h2]
   lia
noncomputable def act (p:List Int)(n:Nat)(z a:Nat->Int)(N:Nat):Nat->Int:=λj=>k7 N λk=>a k*itT p n z k j
theorem cL (n:Nat)(f:Nat->Int):k7 (n+1) f=k7 n f+f n:=by
 unfold k7;rw[cB,cJ,aP5];simp
theorem aC7 {p:List Int}{n:Nat}{z a:Nat->Int}{N:Nat}(h: ∀k,N<=k->a k=0)(j:Nat): ∀M,N<=M->act p n z a M j=act p n z a N j
 | 0,hM=>by rw[show N=0 by lia]
 | M+1,hM=>by
  by_cases c:N=M+1
  .rw[c]
  .show k7 (M+1) _=_
   rw[cL,h M ad,cY,dY]
   exact aC7 h j M ad
theorem cQ4 {p:List Int}{n:Nat}{z g b:Nat->Int}(α β:Int)(j:Nat): ∀N,act p n z (λm=>α*g m-β*b m) N j=α*act p n z g N j-β*act p n z b N j
 | 0=>by show(0:Int)=α*0-β*0;lia
 | N+1=>by
  have ih:=cQ4 (p:=p) (n:=n) (z:=z) (g:=g) (b:=b) α β j N;unfold act at ih⊢;rw[cL,cL,cL,ih]
  grind
theorem dQ8 (u v:Nat->Int)(c:Int)(j:Nat):ttF p n (λi=>u i+c*v i) j=ttF p n u j+c*ttF p n v j:=by
 unfold ttF
 by_cases h:j=0
 .rw[aA h,aA h,aA h]
  grind
 .rw[a9 h,a9 h,a9 h]
  grind
theorem bS5 {p:List Int}{n:Nat}{z a:Nat->Int}(j:Nat): ∀N,act p n z (shF a 1) (N+1) j=ttF p n (act p n z a N) j
 | 0=>by
  show k7 1 (λk=>shF a 1 k*itT p n z k j)=ttF p n (λ_=>0) j
  have e:k7 1 (λk=>shF a 1 k*itT p n z k j)=shF a 1 0*itT p n z 0 j:=by simp[k7,cB]
  rw[e];unfold shF ttF;rw[a9 ad]
  split<;>lia
 | N+1=>by
  have ih:=bS5 (p:=p) (n:=n) (z:=z) (a:=a) j N;have e1:act p n z a (N+1)=λi=>act p n z a N i+a N*itT p n z N i:=funext λi=>by
   show k7 (N+1) _=_
   rw[cL];rfl
  rw[e1,dQ8];show k7 (N+1+1) _=_;rw[cL];have e2:k7 (N+1) (λk=>shF a 1 k*itT p n z k j)=ttF p n (act p n z a N) j:=ih
  rw[e2]
  congr 1
  try unfold shF
  try rw[aA ad,cN]
  try rfl
def Kz (p:List Int)(n:Nat)(z a:Nat->Int):Prop:= ∃N,(∀k,N<=k->a k=0)/\ ∀j,j<n->act p n z a N j=0
theorem cJ7 (n1:1<=n)(h: ∀j,j<n->u j=0): ∀j,j<n->ttF p n u j=0:=λj hj=>by
 unfold ttF;rw[h (n-1) ad]
 by_cases c:j=0
 .rw[aA c];lia
 .rw[a9 c,h (j-1) ad];lia
theorem Kz.one {z a:Nat->Int}(n1:1<=n)(h:Kz p n z a):Kz p n z (shF a 1):=by
 obtain⟨N,h1,h2⟩:=h;refine⟨N+1,λk hk=> ?_,λj hj=> ?_⟩
 .unfold shF;rw[aA ad,h1 (k-1) ad]
 .rw[bS5];exact cJ7 n1 h2 j hj
theorem Kz.sh {p:List Int}{n:Nat}{z a:Nat->Int}(n1:1<=n)(h:Kz p n z a): ∀E,Kz p n z (shF a E)
 | 0=>by
  have:shF a 0=a:=funext λm=>by unfold shF;rw[aA<|cK _,uZ]
  rw[this];exact h
 | E+1=>by
  have:shF a (E+1)=shF (shF a E) 1:=funext λm=>(dA3 a E 1 m).symm
  rw[this];exact Kz.one n1 (Kz.sh n1 h E)
theorem Kz.lin {z g b:Nat->Int}(α β:Int)(h:Kz p n z g)(h':Kz p n z b):Kz p n z λm=>α*g m-β*b m:=by
 obtain⟨N,h1,h2⟩:=h;obtain⟨M,h3,h4⟩:=h';refine⟨N+M,λk hk=> ?_,λj hj=> ?_⟩
 .show α*g k-β*b k=0
  rw[h1 k ad,h3 k ad,b6,b6,v3]
 .rw[cQ4,aC7 h1 j (N+M) ad,aC7 h3 j (N+M) ad,h2 j hj,h4 j hj,b6,b6,v3]
theorem Kz.poly (rp:eV p)(hn:p.length=n+1)(z:Nat->Int):Kz p n z (fOf p):=by
 have lo:=rp.ok.lo;have hi:=rp.ok.hi;have rf:=rp.rf;rw[hn,cN]at rf;refine⟨n+1,λk hk=>rf.hi k ad,λj hj=> ?_⟩
 show k7 (n+1) (λk=>fOf p k*itT p n z k j)=0
 rw[cL,rf.top,jM];rcases(show n=2\/n=3\/n=4 by lia)with rfl|rfl|rfl
 .rw[cay2 p z j hj,cL,cL];show 0+fOf p 0*_+fOf p 1*_+_=0;unfold fOf
  lia
 .rw[cay3 p z j hj,cL,cL,cL];show 0+fOf p 0*_+fOf p 1*_+fOf p 2*_+_=0;unfold fOf
  lia
 .rw[cay4 p z j hj,cL,cL,cL,cL];show 0+fOf p 0*_+fOf p 1*_+fOf p 2*_+fOf p 3*_+_=0;unfold fOf
  lia
theorem bG2 {r:Nat->Int}: ∀(D:Nat),(∀j,D<=j->r j=0)->(∃j,r j≠0)-> ∃E,E<D/\r E≠0/\ ∀j,E<j->r j=0
 | 0,h,⟨j,hj⟩=>absurd (h j<|cK _) hj
 | D+1,h,ex=>by
  by_cases c:r D=0
  .obtain⟨E,e1,e2,e3⟩:=bG2 D (λj hj=>by
    by_cases z:j=D
    .rw[z];exact c
    .exact h j ad) ex
   exact⟨E,ad,e2,e3⟩
  .exact⟨D,ad,c,λj hj=>h j ad⟩
theorem red_of (rp:eV p)(hn:p.length=n+1){a q:Nat->Int}{d:Nat}(d1:1<=d)(e1:1<=e)(de:d+e=n)(a1:a d=1)(ha: ∀j,d<j->a j=0)(q1:q e=1)(hq: ∀j,e<j->q j=0)(h: ∀m,fOf p m=conv a q (d+1) m):Red p:=by
 have lo:=rp.ok.lo;have hi:=rp.ok.hi;have rf:=rp.rf;rw[hn,cN]at rf;have ef:fOf p=conv a q (d+1):=funext h;have val: ∀z,ev p z=ps a z (d+1)*ps q z (e+1):=λz=>by
  have e2:ps (fOf p) z (n+2)=ps (fOf p) z (n+1):=aA7 (n:=n+1) (n+2) ad λj h1 h2=>rf.hi j ad
  show ps (fOf p) z p.length=_
  rw[hn,<-e2,ef,b96 (V:=e+1) (λj hj=>hq j ad) (d+1) (n+2) ad]
 by_cases c1:d=1
 .subst c1;refine .inl ⟨-a 0,?_⟩;rw[val];have:ps a (-a 0) (1+1)=0:=by
   show 0+a 0*(-a 0)^0+a 1*(-a 0)^1=0
   rw[a1]
   grind
  rw[this,cY]
 .by_cases c2:e=1
  .subst c2;refine .inl ⟨-q 0,?_⟩;rw[val];have:ps q (-q 0) (1+1)=0:=by
    show 0+q 0*(-q 0)^0+q 1*(-q 0)^1=0
    rw[q1]
    grind
   rw[this,b6]
  .obtain rfl:d=2:=ad
   obtain rfl:e=2:=ad
   refine .inr ⟨a 0,a 1,q 0,q 1,?_⟩
   rcases rp.cases with⟨x,y,rfl,_⟩| ⟨x,y,z,rfl,_⟩| ⟨x,y,z,w,rfl,_⟩
   .simp at hn;lia
   .simp at hn;lia
   .have h0:=h 0;have h1:=h 1;have h2:=h 2;have h3:=h 3;have k3:=hq 3 ad
    have f0:x=0+a 0*q 0+a 1*0+a 2*0:=h0;have f1:y=0+a 0*q 1+a 1*q 0+a 2*0:=h1;have f2:z=0+a 0*q 2+a 1*q 1+a 2*q 0:=h2;have f3:w=0+a 0*q 3+a 1*q 2+a 2*q 1:=h3;rw[a1,q1]at f2;rw[a1,q1,k3]at f3;unfold qq;rw[f0,f1,f2,f3]
    congr 1
    .grind
    .congr 1
     .grind
     .congr 1
      .grind
      .congr 1
       grind
theorem c91 {p:List Int}{n:Nat}(rp:eV p)(hn:p.length=n+1){z:Nat->Int}(hz: ∃j,j<n/\z j≠0): ∀(M D:Nat),D<=M->D<n-> ∀a:Nat->Int,a D≠0->(∀j,D<j->a j=0)->Kz p n z a->Red p
 | M,0,_,_,a,a0,ah,ka=>by
  exfalso
  obtain⟨j,hj,zj⟩:=hz;obtain⟨N,h1,h2⟩:=ka;have e:act p n z a 1 j=0:=by
   by_cases c:N<=1
   .rw[aC7 h1 j 1 c];exact h2 j hj
   .rw[<-aC7 (p:=p) (n:=n) (z:=z) (N:=1) (λk hk=>ah k ad) j N ad];exact h2 j hj
  have e':0+a 0*z j=0:=by
   have:act p n z a 1 j=k7 0 (λk=>a k*itT p n z k j)+a 0*itT p n z 0 j:=cL 0 _
   rw[this]at e;exact e
  rw[bW]at e';rcases Int.mul_eq_zero.mp e' with z'|z'
  .exact a0 z'
  .exact zj z'
 | 0,D+1,h,_,_,_,_,_=>aa
 | M+1,D+1,h,hD,a,a0,ah,ka=>by
  have lo:=rp.ok.lo;have rf:=rp.rf;rw[hn,cN]at rf;obtain⟨c,q,r,c0,hq,hr,kr,e⟩:=pdiv a0 ah (K:=Kz p n z) (λg α β E kg=>Kz.lin α β kg (Kz.sh ad ka E)) (n-D) (fOf p) (Kz.poly rp hn z) λj hj=>rf.hi j ad
  by_cases cr: ∃j,r j≠0
  .obtain⟨E,e1,e2,e3⟩:=bG2 (D+1) hr cr;exact c91 rp hn hz M E ad ad r e2 e3 kr
  .have r0: ∀j,r j=0:=λj=>kB λz=>cr ⟨j,z⟩
   obtain⟨a',q',h1,h2,h3,h4,h5⟩:=dD6 (f:=fOf p) (d:=D+1) (e:=n-(D+1)) (by rw[show D+1+(n-(D+1))=n by lia];exact rf.top) c.natAbs c a q (aG _) c0 ah (λj hj=>hq j ad) λm=>by rw[e m,r0 m,dY]
   exact red_of rp hn ad ad ad h1 h2 h3 h4 h5
noncomputable def ch2 (A:Nat->Nat->Int):Nat->Int
 | 0=>1
 | 1=> -((A 0 0)+(A 1 1))
 | 2=>((A 0 0*(A 1 1)-A 1 0*(A 0 1)))
 | _=>0
noncomputable def ch3 (A:Nat->Nat->Int):Nat->Int
 | 0=>1
 | 1=> -((A 0 0)+(A 1 1)+(A 2 2))
 | 2=>((A 0 0*(A 1 1)-A 1 0*(A 0 1))+(A 0 0*(A 2 2)-A 2 0*(A 0 2))+(A 1 1*(A 2 2)-A 2 1*(A 1 2)))
 | 3=> -((A 0 0*(A 1 1*(A 2 2)-A 2 1*(A 1 2))-A 1 0*(A 0 1*(A 2 2)-A 2 1*(A 0 2))+A 2 0*(A 0 1*(A 1 2)-A 1 1*(A 0 2))))
 | _=>0
noncomputable def ch4 (A:Nat->Nat->Int):Nat->Int
 | 0=>1
 | 1=> -((A 0 0)+(A 1 1)+(A 2 2)+(A 3 3))
 | 2=>((A 0 0*(A 1 1)-A 1 0*(A 0 1))+(A 0 0*(A 2 2)-A 2 0*(A 0 2))+(A 0 0*(A 3 3)-A 3 0*(A 0 3))+(A 1 1*(A 2 2)-A 2 1*(A 1 2))+(A 1 1*(A 3 3)-A 3 1*(A 1 3))+(A 2 2*(A 3 3)-A 3 2*(A 2 3)))
 | 3=> -((A 0 0*(A 1 1*(A 2 2)-A 2 1*(A 1 2))-A 1 0*(A 0 1*(A 2 2)-A 2 1*(A 0 2))+A 2 0*(A 0 1*(A 1 2)-A 1 1*(A 0 2)))+(A 0 0*(A 1 1*(A 3 3)-A 3 1*(A 1 3))-A 1 0*(A 0 1*(A 3 3)-A 3 1*(A 0 3))+A 3 0*(A 0 1*(A 1 3)-A 1 1*(A 0 3)))+(A 0 0*(A 2 2*(A 3 3)-A 3 2*(A 2 3))-A 2 0*(A 0 2*(A 3 3)-A 3 2*(A 0 3))+A 3 0*(A 0 2*(A 2 3)-A 2 2*(A 0 3)))+(A 1 1*(A 2 2*(A 3 3)-A 3 2*(A 2 3))-A 2 1*(A 1 2*(A 3 3)-A 3 2*(A 1 3))+A 3 1*(A 1 2*(A 2 3)-A 2 2*(A 1 3))))
 | 4=>((A 0 0*(A 1 1*(A 2 2*(A 3 3)-A 3 2*(A 2 3))-A 2 1*(A 1 2*(A 3 3)-A 3 2*(A 1 3))+A 3 1*(A 1 2*(A 2 3)-A 2 2*(A 1 3)))-A 1 0*(A 0 1*(A 2 2*(A 3 3)-A 3 2*(A 2 3))-A 2 1*(A 0 2*(A 3 3)-A 3 2*(A 0 3))+A 3 1*(A 0 2*(A 2 3)-A 2 2*(A 0 3)))+A 2 0*(A 0 1*(A 1 2*(A 3 3)-A 3 2*(A 1 3))-A 1 1*(A 0 2*(A 3 3)-A 3 2*(A 0 3))+A 3 1*(A 0 2*(A 1 3)-A 1 2*(A 0 3)))-A 3 0*(A 0 1*(A 1 2*(A 2 3)-A 2 2*(A 1 3))-A 1 1*(A 0 2*(A 2 3)-A 2 2*(A 0 3))+A 2 1*(A 0 2*(A 1 3)-A 1 2*(A 0 3)))))
 | _=>0
noncomputable def chn (n:Nat)(A:Nat->Nat->Int)(k:Nat):Int:=if n=2 then ch2 A k else if n=3 then ch3 A k else ch4 A k
noncomputable def hoF (n:Nat)(A:Nat->Nat->Int):Nat->Nat->Int
 | 0=>λ_=>0
 | i+1=>λj=>comb n (hoF n A i) A j+(if j=0 then chn n A i else 0)
set_option maxHeartbeats 0 in
theorem dQ9 (n2:2<=n)(n4:n<=4)(A:Nat->Nat->Int)(j:Nat)(hj:j<n):hoF n A (n+1) j=0:=by
 match n,n2,n4 with
 | 2,_,_=>
  have h:j=0\/j=1:=ad
  rcases h with rfl|rfl<;>simp[hoF,c87,chn,ch2]<;>grind
 | 3,_,_=>
  have h:j=0\/j=1\/j=2:=ad
  rcases h with rfl|rfl|rfl<;>simp[hoF,c88,chn,ch3]<;>grind (ringSteps:=100000000)
 | 4,_,_=>
  have h:j=0\/j=1\/j=2\/j=3:=ad
  rcases h with rfl|rfl|rfl|rfl<;>simp[hoF,c89,chn,ch4]<;>grind (ringSteps:=100000000)
set_option maxHeartbeats 0 in
theorem chn_val (n2:2<=n)(n4:n<=4)(A:Nat->Nat->Int)(z:Int):valL (rwF (n+1) λj=>chn n A (n-j)) z=gD 4 (tbL n λi j=>z*(if i=j then 1 else 0)-A i j):=by
 match n,n2,n4 with
 | 2,_,_=>
  show(((0*z+1)*z+ch2 A 1)*z+ch2 A 2)=_
  rw[bF5];simp[ch2]
  grind
 | 3,_,_=>
  show((((0*z+1)*z+ch3 A 1)*z+ch3 A 2)*z+ch3 A 3)=_
  rw[bF6];simp[ch3]
  grind (ringSteps:=100000000)
 | 4,_,_=>
  show(((((0*z+1)*z+ch4 A 1)*z+ch4 A 2)*z+ch4 A 3)*z+ch4 A 4)=_
  rw[bF7];simp[ch4]
  grind (ringSteps:=100000000)
theorem dR0 (n2:2<=n)(n4:n<=4)(A:Nat->Nat->Int):chn n A n=(if n%2=0 then 1 else -1)*gD 4 (tbL n A):=by
 match n,n2,n4 with
 | 2,_,_=>
  show ch2 A 2=1*_
  rw[bF5];unfold ch2
  grind
 | 3,_,_=>
  show ch3 A 3= -1*_
  rw[bF6];unfold ch3
  grind
 | 4,_,_=>
  show ch4 A 4=1*_
  rw[bF7];unfold ch4
  grind
theorem dD8 (n2:2<=n)(n4:n<=4)(A:Nat->Nat->Int):chn n A 0=1:=by
 match n,n2,n4 with
 | 2,_,_=>rfl
 | 3,_,_=>rfl
 | 4,_,_=>rfl
theorem bG3 {g:Nat->Int}(h: ∀i,i<n->f i=g i):k7 n f=k7 n g:=by
 unfold k7;rw[kE λi hi=>h i (dN.mp hi)]
theorem it_one (n2:2<=n)(n4:n<=4)(i j:Nat)(hi:i<n)(hj:j<n):itT p n (nO 1) i j=if i=j then 1 else 0:=by
 match n,n2,n4 with
 | 2,_,_=>
  have h:(i=0\/i=1)/\(j=0\/j=1):=ad
  rcases h with⟨rfl|rfl,rfl|rfl⟩<;>simp[itT,ttF,nO]
 | 3,_,_=>
  have h:(i=0\/i=1\/i=2)/\(j=0\/j=1\/j=2):=ad
  rcases h with⟨rfl|rfl|rfl,rfl|rfl|rfl⟩<;>simp[itT,ttF,nO]
 | 4,_,_=>
  have h:(i=0\/i=1\/i=2\/i=3)/\(j=0\/j=1\/j=2\/j=3):=ad
  rcases h with⟨rfl|rfl|rfl|rfl,rfl|rfl|rfl|rfl⟩<;>simp[itT,ttF,nO]
theorem dR1 (v:Nat->Int)(r:Nat->Nat->Int)(j:Nat):comb n (cz n v) r j=comb n v r j:=bG3 λk hk=>by rw[show cz n v k=v k from aA hk]
theorem dR2 {g:Nat->Int}(h:rwF n f=rwF n g)(j:Nat)(hj:j<n):f j=g j:=by
 have e:(rwF n f)[j]? =(rwF n g)[j]? :=by rw[h]
 rw[aU6 hj,aU6 hj]at e;exact gL e
theorem bG4 {p:List Int}{n:Nat}{f g:Nat->Int}(n1:1<=n)(h: ∀j,j<n->f j=g j): ∀i j,j<n->itT p n f i j=itT p n g i j
 | 0,j,hj=>h j hj
 | i+1,j,hj=>aH2 n1 (bG4 n1 h i) j hj
theorem cY1 {g:Nat->Int}(n1:1<=n)(h: ∀j,j<n->f j=g j):nrm p n f=nrm p n g:=by
 unfold nrm;rw[bS4 λi j hj=>bG4 n1 h i j hj]
theorem dR3 (k:Int)(u:Nat->Int)(j:Nat):ttF p n (λi=>k*u i) j=k*ttF p n u j:=by
 unfold ttF
 by_cases h:j=0
 .rw[aA h,aA h];grind
 .rw[a9 h,a9 h];grind
theorem dD9 {p:List Int}{n:Nat}(k:Int)(u:Nat->Int): ∀i j,itT p n (λj=>k*u j) i j=k*itT p n u i j
 | 0,j=>rfl
 | i+1,j=>by
  have e:itT p n (λj=>k*u j) i=λj=>k*itT p n u i j:=funext λj=>dD9 k u i j
  show ttF p n (itT p n (λj=>k*u j) i) j=_
  rw[e,dR3];rfl
theorem cJ8 {s:Nat->Nat->Int}(h: ∀i j,i<n->j<n->s i j=t i j):tbL n s=tbL n t:=by
 unfold tbL;refine kE λi hi=> ?_
 exact kR λj hj=>h i j (dN.mp hi) hj
theorem dE0 (n2:2<=n)(n4:n<=4){k:Int}(k0:k≠0):nrm p n (nO k)≠0:=by
 have e:nrm p n (nO k)=gD 4 (tbL n λi j=>k*if i=j then 1 else 0):=by
  unfold nrm;rw[cJ8 λi j hi hj=> ?_]
  have ec:nO k=λj=>k*nO 1 j:=funext λj=>by
   unfold nO;split
   .rw[fX]
   .rw[b6]
  rw[ec,dD9,it_one n2 n4 i j hi hj]
 rw[e]
 match n,n2,n4 with
 | 2,_,_=>
  rw[bF5];simp;exact k0
 | 3,_,_=>
  rw[bF6];simp;exact k0
 | 4,_,_=>
  rw[bF7];simp;exact k0
theorem dE1 (rp:eV p)(hn:p.length=n+1)(irr: ¬Red p){y:Nat->Int}(hy: ∃j,j<n/\y j≠0):nrm p n y≠0:=by
 intro h0;have lo:=rp.ok.lo;have hi:=rp.ok.hi;have n2:2<=n:=ad
 have n4:n<=4:=ad
 have cn:chn n (itT p n y) n=0:=by
  rw[dR0 n2 n4];have:gD 4 (tbL n<|itT p n y)=0:=h0;rw[this,b6]
 have key: ∀i,(∃j,j<n/\hoF n (itT p n y) i j≠0)-> ∃j,j<n/\hoF n (itT p n y) (i+1) j≠0:=λi hh=>by
  refine kB λno=> ?_
  have nx: ∀j,j<n->hoF n (itT p n y) (i+1) j=0:=λj hj=>kB λz=>no ⟨j,hj,z⟩
  have st: ∀j,j<n->comb n (hoF n (itT p n y) i) (itT p n y) j+(if j=0 then chn n (itT p n y) i else 0)=0:=nx;generalize hoF n (itT p n y) i=a at *;generalize chn n (itT p n y) i=c at *
  by_cases c0:c=0
  .refine irr ?_
   obtain⟨E,e1,e2,e3⟩:=bG2 (r:=cz n a) n (λj hj=>a9 ad) (by
    obtain⟨j,hj,z⟩:=hh;exact⟨j,by rw[show cz n a j=a j from aA hj];exact z⟩)
   refine c91 rp hn hy n E ad e1 (cz n a) e2 e3 ⟨n,λk hk=>a9 ad,λj hj=> ?_⟩
   have:=st j hj;rw[c0]at this;have e4:act p n y (cz n a) n j=comb n a (itT p n y) j:=dR1 a (itT p n y) j;rw[e4];have e5:(if j=0 then(0:Int)else 0)=0:=by split<;>rfl
   rw[e5,dY]at this;exact this
  .have m:=dQ7 (p:=p) (n:=n) y a n2 n4;rw[h0,cY]at m;refine dE0 (p:=p) n2 n4 (k:= -c) ad ?_
   rw[<-m];refine cY1 ad λj hj=> ?_
   have:=st j hj;show(if j=0 then -c else 0)=comb n a (itT p n y) j
   by_cases z:j=0
   .rw[aA z]at this ⊢; lia
   .rw[a9 z]at this ⊢; lia
 have all: ∀i,∃j,j<n/\hoF n (itT p n y) (i+1) j≠0:=by
  intro i
  induction i with
  | zero=>
   refine⟨0,ad,?_⟩
   show comb n (λ_=>0) (itT p n y) 0+(if 0=0 then chn n (itT p n y) 0 else 0)≠0
   rw[aA rfl,dD8 n2 n4];have:comb n (λ_=>0) (itT p n y) 0=0:=by
    unfold comb;have: ∀k,k7 k (λi=>(0:Int)*itT p n y i 0)=0:=by
     intro k
     induction k with
     | zero=>rfl
     | succ k ih=>rw[cL,ih,cY];rfl
    exact this n
   rw[this]
   decide
  | succ i ih=>exact key (i+1) ih
 obtain⟨j,hj,z⟩:=all n;exact z (dQ9 n2 n4 _ j hj)
theorem u5 {u' v':Nat->Int}(n1:1<=n)(hu: ∀j,j<n->u j=u' j)(hv: ∀j,j<n->v j=v' j)(j:Nat)(hj:j<n):gE p n u v j=gE p n u' v' j:=
 bG3 λi hi=>by rw[hv i hi,bG4 n1 hu i j hj]
theorem cQ5 (u:Nat->Int)(j:Nat)(hj:j<n):cz n u j=u j:=aA hj
theorem pN (n2:2<=n)(n4:n<=4)(u v:Nat->Int)(j:Nat)(hj:j<n):gE p n u v j=gE p n v u j:=by
 have h:=dR2 (cX8 (p:=p) (u:=cz n u) (v:=cz n v) n2 n4 (λk hk=>a9 ad) λk hk=>a9 ad) j hj
 rw[u5 ad (cQ5 u) (cQ5 v) j hj,u5 ad (cQ5 v) (cQ5 u) j hj]at h
 exact h
theorem bG5 (v w:Nat->Int)(c:Int)(a:Nat->Nat->Int)(j:Nat):comb n (λi=>v i+c*w i) a j=comb n v a j+c*comb n w a j:=by
 unfold comb;have: ∀k,k7 k (λi=>(v i+c*w i)*a i j)=k7 k (λi=>v i*a i j)+c*k7 k λi=>w i*a i j:=by
  intro k
  induction k with
  | zero=>show(0:Int)=0+c*0;lia
  | succ k ih=>rw[cL,cL,cL,ih];grind
 exact this n
theorem aW1 (u v w:Nat->Int)(c:Int)(j:Nat):gE p n u (λi=>v i+c*w i) j=gE p n u v j+c*gE p n u w j:=bG5 v w c _ j
theorem b20 (u v:Nat->Int)(c:Int)(j:Nat):gE p n u (λi=>c*v i) j=c*gE p n u v j:=by
 have h:=bG5 (n:=n) (λ_=>0) v c (itT p n u) j
 have e:(λi=>(λ_=>(0:Int)) i+c*v i)=λi=>c*v i:=funext λi=>bW _
 rw[e]at h;have z:comb n (λ_=>0) (itT p n u) j=0:=by
  have:=bG5 (n:=n) (λ_=>0) (λ_=>0) 1 (itT p n u) j
  rw[show(λi=>(λ_=>(0:Int)) i+1*(λ_=>(0:Int)) i)=λ_=>0 from rfl]at this
  lia
 rw[z,bW]at h;exact h
theorem cQ6 (n1:1<=n)(u:Nat->Int)(j:Nat):gE p n u (nO 1) j=u j:=by
 unfold gE;have: ∀k,1<=k->k7 k (λi=>nO 1 i*itT p n u i j)=u j:=by
  intro k hk
  induction k with
  | zero=>lia
  | succ k ih=>
   rw[cL]
   by_cases z:k=0
   .subst z;show 0+1*u j=u j
    lia
   .rw[ih ad,show nO 1 k=0 from a9 z]
    lia
 exact this n n1
theorem bZ1 {p:List Int}{n:Nat}(n2:2<=n)(n4:n<=4)(x v:Nat->Int): ∀k l,l<n->itT p n (gE p n x v) k l=gE p n x (itT p n v k) l
 | 0,_,_=>rfl
 | k+1,l,hl=>by
  show ttF p n (itT p n (gE p n x v) k) l=_
  rw[aH2 ad (bZ1 n2 n4 x v k) l hl]
  exact c90 (itT p n v k) x n2 n4 l hl
theorem aC8 (u v:Nat->Int)(c r:Int): ∀n,ps (λj=>u j+c*v j) r n=ps u r n+c*ps v r n
 | 0=>by show(0:Int)=0+c*0;lia
 | n+1=>by
  show ps (λj=>u j+c*v j) r n+(u n+c*v n)*r^n=_
  rw[aC8 u v c r n];show _=ps u r n+u n*r^n+c*(ps v r n+v n*r^n)
  grind
theorem aH3 (r:Int): ∀k,ps (λ_=>0) r k=0
 | 0=>rfl
 | k+1=>by
  show ps (λ_=>0) r k+0*r^k=0
  rw[aH3 r k,cY];rfl
theorem bG6 {u v:Nat->Int}{r:Int}: ∀n,(∀j,j<n->u j=v j)->ps u r n=ps v r n
 | 0,_=>rfl
 | n+1,h=>by
  show ps u r n+u n*r^n=ps v r n+v n*r^n
  rw[bG6 n λj hj=>h j ad,h n ad]
theorem dE2 {p:List Int}{n:Nat}{u:Nat->Int}{q r:Int}(n1:1<=n)(top:p.getD n 0=1)(hf:q∣ps (fOf p) r (n+1)): ∀i,q∣ps (itT p n u i) r n-r^i*ps u r n
 | 0=>by rw[cZ,jM];exact cgR _
 | i+1=>by
  show q∣ps (ttF p n<|itT p n u i) r n-_
  rw[dV7 _ r n1 top,jK];exact dv2 (x:=r) (y:= -itT p n u i (n-1)) (dE2 (u:=u) n1 top hf i) hf (by grind)
theorem ps_tim (n1:1<=n)(top:p.getD n 0=1)(hf:q∣ps (fOf p) r (n+1)):q∣ps (gE p n u v) r n-ps u r n*ps v r n:=by
 have e: ∀m,ps (λj=>k7 m λi=>v i*itT p n u i j) r n=k7 m λi=>v i*ps (itT p n u i) r n:=by
  intro m
  induction m with
  | zero=>
   have: ∀k,ps (λj=>k7 0 λi=>v i*itT p n u i j) r k=0:=by
    intro k
    induction k with
    | zero=>rfl
    | succ k ih=>
     show ps (λj=>k7 0 λi=>v i*itT p n u i j) r k+0*r^k=0
     rw[ih,cY];rfl
   exact this n
  | succ m ih=>
   rw[cL,<-ih,<-aC8]
   congr 1
   exact funext λj=>cL m _
 rw[show ps (gE p n u v) r n=_ from e n]
 have: ∀m,q∣(k7 m λi=>v i*ps (itT p n u i) r n)-ps u r n*ps v r m:=by
  intro m
  induction m with
  | zero=>exact⟨0,by show(0:Int)-_*0=q*0;lia⟩
  | succ m ih=>
   rw[cL];show q∣_-ps u r n*(ps v r m+v m*r^m);exact dv2 (x:=1) (y:=v m) ih (dE2 (u:=u) n1 top hf m) (by grind)
 exact this n
theorem cQ7 {b:Nat->Int}{d:Nat}(h1:b d=1)(hb: ∀j,d<j->b j=0): ∀(N:Nat) {f:Nat->Int},(∀m,N+d<=m->f m=0)-> ∀m,d<=m->divL b d N f m=0
 | 0,f,h,m,hm=>h m ad
 | N+1,f,h,m,hm=>by
  refine cQ7 h1 hb N (λk hk=> ?_) m hm
  show f k-f (N+d)*shF b N k=0
  unfold shF;rw[aA ad]
  by_cases e:k=N+d
  .rw[e,show N+d-N=d by lia,h1];lia
  .rw[h k ad,hb (k-N) ad];lia
theorem cQ8 {b:Nat->Int}{d:Nat}{z:Int}(hb: ∀j,d<j->b j=0)(hz:ps b z (d+1)=0): ∀(N:Nat) {f:Nat->Int} {L:Nat},N+d<=L->ps (divL b d N f) z L=ps f z L
 | 0,f,L,_=>rfl
 | N+1,f,L,hL=>by
  show ps (divL b d N<|divS b d N f) z L=_
  rw[cQ8 hb hz N ad]
  have e:divS b d N f=λm=>f m+(-f (N+d))*shF b N m:=funext λm=>by unfold divS;grind
  have e2:=aV2 b z N (L-N);rw[show N+(L-N)=L by lia,aA7 (n:=d+1) (L-N) ad λj hj _=>hb j ad,hz,b6]at e2
  rw[e,aC8,e2]
  lia
theorem dE3 {H g:Nat×(Nat->Int)}(h:(n,md q f)=tm q H g)(fz: ∀j,n<j->f j=0)(gz: ∀j,g.1<j->g.2 j=0): ∃R,∀z,ps f z (n+1)=ps H.2 z (H.1+1)*ps g.2 z (g.1+1)+q*ps R z (n+2):=by
 have c: ∀j,q∣f j-conv H.2 g.2 (H.1+1) j:=λj=>em_dv (show f j%q=conv H.2 g.2 (H.1+1) j%q from congrFun (cT Prod.snd h) j)
 have d:n=H.1+g.1:=cT Prod.fst h;refine⟨λj=>(f j-conv H.2 g.2 (H.1+1) j)/q,λz=> ?_⟩
 have e:f=λj=>conv H.2 g.2 (H.1+1) j+q*((f j-conv H.2 g.2 (H.1+1) j)/q):=funext λj=>by rw[Int.mul_ediv_cancel'<|c j];lia
 have e2:=aA7 (f:=f) (z:=z) (n:=n+1) (n+2) ad (λj hj _=>fz j ad)
 have e3:=b96 (u:=H.2) (z:=z) (V:=g.1+1) (λj hj=>gz j ad) (H.1+1) (n+2) ad
 rw[<-e2,<-e3,<-aC8,<-e]
theorem cY2 (n1:1<=n)(fz: ∀j,n<j->f j=0)(h: ∃x∈a75 n f (j8 c),x%(q*q)≠0): ¬q*q∣ps f (-c) (n+1):=by
 intro dv;obtain⟨x,hx,nx⟩:=h;have lz: ∀j,1<j->(j8 c).2 j=0:=λj hj=>by
  show(if j=0 then c else if j=1 then 1 else 0)=0
  rw[a9 ad,a9 ad]
 have up:=cQ7 (b:=(j8 c).2) (d:=1) rfl lz n (f:=f) (λm hm=>fz m ad)
 have pd:=cQ8 (b:=(j8 c).2) (d:=1) (z:= -c) lz (by show 0+c*(-c)^0+1*(-c)^1=0;rw[cZ,jN];lia) n (f:=f) (L:=n+1) ad
 rw[aA7 (n:=1) (n+1) ad λj hj _=>up j hj]at pd
 have e0:divL (j8 c).2 1 n f 0=ps f (-c) (n+1):=by
  rw[<-pd];show _=0+divL (j8 c).2 1 n f 0*(-c)^0;rw[cZ]
  lia
 unfold a75 rwF at hx;rw[show n+1-(j8 c).1=n from rfl]at hx
 obtain⟨j,_,rfl⟩:=fB.mp hx
 by_cases z:j=0
 .subst z;exact nx (lD<|e0▸dv)
 .exact nx (by rw[show divL (j8 c).2 (j8 c).1 n f j=0 from up j ad,dX])
theorem dR4 (n1:1<=n)(fz: ∀j,n<j->f j=0)(pq:Pr q)(mF:MP q n (md q f))(sp:SP q (n,md q f) xs)(fine:bL4 n f q xs){x:(Nat×(Nat->Int))×Nat}(hx:x∈xs)(d1:x.1.1=1): ∃r,q∣r+x.1.2 0/\q∣ps f r (n+1)/\ ¬q*q∣ps f r (n+1):=by
 have q2:=pq.lo;obtain⟨mx,_,_,x1,_⟩:=sp.mem x hx;have e:=cI6 mx d1;have r:=mx.rng 0;generalize x.1.2 0=c at *;obtain⟨H,mH,eF,vH⟩:=(cQ2 pq (F:=(n,md q f)) mF sp r.1 r.2).1 x hx e;have ml:=MP.lin q2 r.1 r.2;have lv: ∀z,ps (j8 c).2 z ((j8 c).1+1)=z+c:=λz=>by
  show 0+c*z^0+1*z^1=_
  rw[cZ,jN]
  lia
 obtain⟨k,hk⟩: ∃k,x.2=k+1:=⟨x.2-1,ad⟩
 rw[hk]at eF;obtain⟨R,eR⟩:=dE3 (H:=powT q H (j8 c) k) (g:=j8 c) eF fz ml.hi;have a:=eR (-c);rw[lv,show -c+c=0 by lia,b6,bW]at a
 by_cases h2:2<=x.2
 .refine⟨-c,⟨0,ad⟩,⟨_,a⟩,cY2 n1 fz ?_⟩
  have:=fine x hx h2;rw[e]at this;exact this
 .obtain rfl:k=0:=ad
  by_cases h:q*q∣ps f (-c) (n+1)
  .have b:=eR (-c-q);rw[lv]at b;have vd: ¬q∣ps H.2 (-c) (H.1+1):=λd=>vH (lD d)
   refine⟨-c-q,⟨-1,ad⟩,⟨-ps H.2 (-c-q) (H.1+1)+ps R (-c-q) (n+2),by rw[b];show ps H.2 (-c-q) (H.1+1)*_+_=_;grind⟩,λh'=>vd ?_⟩
   obtain⟨s,es⟩:=h;obtain⟨t,et⟩:=h';have q0:q≠0:=ad
   have c1:ps R (-c) (n+2)=q*s:=uH q0 (by grind)
   have c2: -ps H.2 (-c-q) (H.1+1)+ps R (-c-q) (n+2)=q*t:=uH q0 (by
    have:ps (powT q H (j8 c) 0).2 (-c-q) ((powT q H (j8 c) 0).1+1)=ps H.2 (-c-q) (H.1+1):=rfl;rw[this]at b
    grind)
   have g1:=bG1 (q:=q) (z:= -c-q) (w:= -c) ⟨-1,ad⟩ H.2 (H.1+1)
   have g2:=bG1 (q:=q) (z:= -c-q) (w:= -c) ⟨-1,ad⟩ R (n+2)
   exact dv3 (x:= -1) (y:=1) (z:=s-t) g1 g2 (kJ q) (by grind)
  .exact⟨-c,⟨0,ad⟩,⟨_,a⟩,h⟩
theorem cQ9 (g:Nat->Int)(r:Int): ∀k,ps g r (k+1)=g 0+r*ps (λl=>g (l+1)) r k
 | 0=>by show 0+g 0*r^0=g 0+r*0;rw[cZ];lia
 | k+1=>by
  show ps g r (k+1)+g (k+1)*r^(k+1)=g 0+r*(ps (λl=>g (l+1)) r k+g (k+1)*r^k)
  rw[cQ9 g r k,jK]
  grind
noncomputable def syn (f:Nat->Int)(r:Int)(N:Nat):Nat->Int:=λj=>ps (λl=>f (j+1+l)) r (N-j)
theorem aW2 {N j:Nat}(h:j<N):syn f r N j=f (j+1)+r*syn f r N (j+1):=by
 unfold syn;obtain⟨k,hk⟩: ∃k,N-j=k+1:=⟨N-j-1,ad⟩
 rw[hk,cQ9,show N-(j+1)=k by lia]
 congr 3
 exact funext λl=>by rw[show j+1+(l+1)=j+1+1+l by lia]
theorem bZ2 {N j:Nat}(h:N<=j):syn f r N j=0:=by
 unfold syn;rw[show N-j=0 by lia]
 rfl
theorem c92 (f:Nat->Int)(r:Int)(N:Nat):ps f r (N+1)=f 0+r*syn f r N 0:=by
 rw[cQ9];unfold syn
 congr 3
 exact funext λl=>by rw[show 0+1+l=l+1 by lia]
theorem dR5 (n1:1<=n)(h:ps u r n=0)(j:Nat)(hj:j<n):ttF p n (syn u r<|n-1) j+(-r)*syn u r (n-1) j=u j:=by
 unfold ttF;rw[bZ2 (j:=n-1) ad]
 by_cases z:j=0
 .subst z;have:=c92 u r (n-1);rw[show n-1+1=n by lia,h]at this
  rw[aA rfl]
  grind
 .obtain⟨k,rfl⟩: ∃k,j=k+1:=⟨j-1,ad⟩
  rw[a9 z,cN,aW2 (j:=k) ad]
  grind
theorem dE4 (r:Int)(n1:1<=n)(top:p.getD n 0=1)(j:Nat)(hj:j<n):ttF p n (syn (fOf p) r n) j+(-r)*syn (fOf p) r n j=nO (-ps (fOf p) r (n+1)) j:=by
 have q1:syn (fOf p) r n (n-1)=1:=by
  rw[aW2 ad,show n-1+1=n by lia,bZ2<|aG n,show fOf p n=1 from top]
  lia
 unfold ttF nO;rw[q1]
 by_cases z:j=0
 .subst z;have:=c92 (fOf p) r n;rw[aA rfl,aA rfl,this];show 0-1*fOf p 0+_=_
  grind
 .obtain⟨k,rfl⟩: ∃k,j=k+1:=⟨j-1,ad⟩
  rw[a9 z,a9 z,cN,aW2 (j:=k) ad]
  show fOf p (k+1)+_-1*fOf p (k+1)+_=_
  grind
theorem dE5 (n2:2<=n)(n4:n<=4)(top:p.getD n 0=1)(h:ps u r n=0)(j:Nat)(hj:j<n):gE p n (syn (fOf p) r n) u j= -ps (fOf p) r (n+1)*syn u r (n-1) j:=by
 have n1:1<=n:=ad
 obtain⟨Q,eQ⟩: ∃Q,Q=syn (fOf p) r n:=⟨_,rfl⟩;obtain⟨s,es⟩: ∃s,s=syn u r (n-1):=⟨_,rfl⟩;have a:=λj hj=>dR5 (p:=p) n1 h j hj
 have b:=dE4 r n1 top;rw[<-eQ]at b⊢;rw[<-es]at a⊢;have c: ∀j,j<n->gE p n Q (ttF p n s) j=gE p n s (ttF p n Q) j:=λj hj=>by
  have e1:ttF p n (gE p n Q s) j=gE p n Q (ttF p n s) j:=bZ1 n2 n4 Q s 1 j hj;have e2:ttF p n (gE p n s Q) j=gE p n s (ttF p n Q) j:=bZ1 n2 n4 s Q 1 j hj;rw[<-e1,<-e2];exact aH2 n1 (λi hi=>pN n2 n4 Q s i hi) j hj
 rw[u5 n1 (λ_ _=>rfl) (λi hi=>(a i hi).symm) j hj,aW1,c j hj,pN n2 n4 Q s j hj,<-aW1,u5 n1 (λ_ _=>rfl) b j hj,u5 (v':=λi=> -ps (fOf p) r (n+1)*nO 1 i) n1 (λ_ _=>rfl) (λi _=>by unfold nO;split<;>lia) j hj,b20,cQ6 n1]
theorem b21 (n1:1<=n)(c r:Int):ps (nO c) r n=c:=by
 obtain⟨m,rfl⟩: ∃m,n=m+1:=⟨n-1,ad⟩
 have a:ps (λl=>nO c (l+1)) r m=0:=(bG6 (u:=λl=>nO c (l+1)) (v:=λ_=>0) m λj _=>a9 (Nat.succ_ne_zero j)).trans (aH3 r m)
 rw[cQ9,a,b6,dY];rfl
theorem dR6 (n1:1<=n)(top:p.getD n 0=1)(r z:Int):ps (fOf p) z (n+1)=ps (fOf p) r (n+1)+(z-r)*ps (syn (fOf p) r n) z n:=by
 have q1:syn (fOf p) r n (n-1)=1:=by
  rw[aW2 ad,show n-1+1=n by lia,bZ2<|aG n,show fOf p n=1 from top]
  lia
 have a:=dV7 (p:=p) (syn (fOf p) r n) z n1 top;have b:=bG6 (r:=z) n (dE4 r n1 top);rw[aC8,a,q1]at b;rw[b21 n1]at b
 grind
theorem dB_sh (r d c b:Int):dB d c b=dB (d+c*r+b*(r*r)+r*r*r) (c+2*b*r+3*(r*r)) (b+3*r):=by unfold dB;grind
theorem dC_sh (r e d c b:Int):dC e d c b=dC (e+d*r+c*(r*r)+b*(r*r*r)+r*r*r*r) (d+2*c*r+3*b*(r*r)+4*(r*r*r)) (c+3*b*r+6*(r*r)) (b+4*r):=by unfold dC;grind
theorem dB_sq (d c b:Int):dB d c b=d*(-4*b*b*b-27*d+18*b*c)+c*c*(b*b-4*c):=by unfold dB;grind
theorem dC_sq (e d c b:Int):dC e d c b=e*(-27*b*b*b*b*e+18*b*b*b*c*d-4*b*b*c*c*c+144*b*b*c*e-6*b*b*d*d-80*b*c*c*d-192*b*d*e+16*c*c*c*c-128*c*c*e+144*c*d*d+256*e*e)+d*d*(-4*b*b*b*d+b*b*c*c+18*b*c*d-4*c*c*c-27*d*d):=by unfold dC;grind
theorem cJ9 {F D e:Int}(h:q*q∣F)(h2:q∣D)(he:e=F*x+D*D*y):q*q∣e:=dv2 h (a12 h2 h2) he
theorem dR7 (rp:eV p)(hn:p.length=n+1)(h:q*q∣ps (fOf p) r (n+1))(h2:q∣ps (syn (fOf p) r n) r n):q*q∣gD 4 (eE p):=by
 rcases rp.cases with⟨x,y,rfl,_⟩| ⟨x,y,z,rfl,_⟩| ⟨x,y,z,w,rfl,_⟩
 .have e:3=n+1:=hn;obtain rfl:n=2:=ad
  rw[show ps (fOf [x,y,1]) r (2+1)=_ from ev2 x y r]at h
  rw[show ps (syn (fOf [x,y,1]) r 2) r 2=y+2*r by simp[syn,ps,fOf];grind]at h2
  rw[id2];exact cJ9 (x:= -4) (y:=1) h h2 (by grind)
 .have e:4=n+1:=hn;obtain rfl:n=3:=ad
  rw[show ps (fOf [x,y,z,1]) r (3+1)=_ from ev3 x y z r]at h
  rw[show ps (syn (fOf [x,y,z,1]) r 3) r 3=y+2*z*r+3*(r*r)by simp[syn,ps,fOf];grind]at h2
  rw[id3];show q*q∣dB x y z;rw[dB_sh r,dB_sq];exact cJ9 h h2 rfl
 .have e:5=n+1:=hn;obtain rfl:n=4:=ad
  rw[show ps (fOf [x,y,z,w,1]) r (4+1)=_ from ev4 x y z w r]at h
  rw[show ps (syn (fOf [x,y,z,w,1]) r 4) r 4=y+2*z*r+3*w*(r*r)+4*(r*r*r)by simp[syn,ps,fOf];grind]at h2
  rw[dV8,dC_sh r,dC_sq];exact cJ9 h h2 rfl
theorem nr2 (a b:Int):nrm [a,b,1] 2 (bD [a,b,1])= -dA a b:=by
 have D:=bF5 (itT [a,b,1] 2<|bD [a,b,1]);have e00:itT [a,b,1] 2 (bD [a,b,1]) 0 0=(1+((0:Nat):Int))*b:=rfl;have e01:itT [a,b,1] 2 (bD [a,b,1]) 0 1=(1+((1:Nat):Int))*1:=rfl;have e10:itT [a,b,1] 2 (bD [a,b,1]) 1 0=0-itT [a,b,1] 2 (bD [a,b,1]) 0 1*a:=rfl;have e11:itT [a,b,1] 2 (bD [a,b,1]) 1 1=itT [a,b,1] 2 (bD [a,b,1]) 0 0-itT [a,b,1] 2 (bD [a,b,1]) 0 1*b:=rfl
 have N:nrm [a,b,1] 2 (bD [a,b,1])=gD 4 (tbL 2<|itT [a,b,1] 2<|bD [a,b,1]):=rfl;rw[N,D];clear N D;generalize itT [a,b,1] 2 (bD [a,b,1]) 0 0=x00 at *;generalize itT [a,b,1] 2 (bD [a,b,1]) 0 1=x01 at *;generalize itT [a,b,1] 2 (bD [a,b,1]) 1 0=x10 at *;generalize itT [a,b,1] 2 (bD [a,b,1]) 1 1=x11 at *;subst e00 e01 e10 e11;unfold dA
 grind
theorem nr3 (a b c:Int):nrm [a,b,c,1] 3 (bD [a,b,c,1])= -dB a b c:=by
 have D:=bF6 (itT [a,b,c,1] 3<|bD [a,b,c,1]);have e00:itT [a,b,c,1] 3 (bD [a,b,c,1]) 0 0=(1+((0:Nat):Int))*b:=rfl;have e01:itT [a,b,c,1] 3 (bD [a,b,c,1]) 0 1=(1+((1:Nat):Int))*c:=rfl;have e02:itT [a,b,c,1] 3 (bD [a,b,c,1]) 0 2=(1+((2:Nat):Int))*1:=rfl;have e10:itT [a,b,c,1] 3 (bD [a,b,c,1]) 1 0=0-itT [a,b,c,1] 3 (bD [a,b,c,1]) 0 2*a:=rfl
 have e11:itT [a,b,c,1] 3 (bD [a,b,c,1]) 1 1=itT [a,b,c,1] 3 (bD [a,b,c,1]) 0 0-itT [a,b,c,1] 3 (bD [a,b,c,1]) 0 2*b:=rfl;have e12:itT [a,b,c,1] 3 (bD [a,b,c,1]) 1 2=itT [a,b,c,1] 3 (bD [a,b,c,1]) 0 1-itT [a,b,c,1] 3 (bD [a,b,c,1]) 0 2*c:=rfl;have e20:itT [a,b,c,1] 3 (bD [a,b,c,1]) 2 0=0-itT [a,b,c,1] 3 (bD [a,b,c,1]) 1 2*a:=rfl
 have e21:itT [a,b,c,1] 3 (bD [a,b,c,1]) 2 1=itT [a,b,c,1] 3 (bD [a,b,c,1]) 1 0-itT [a,b,c,1] 3 (bD [a,b,c,1]) 1 2*b:=rfl;have e22:itT [a,b,c,1] 3 (bD [a,b,c,1]) 2 2=itT [a,b,c,1] 3 (bD [a,b,c,1]) 1 1-itT [a,b,c,1] 3 (bD [a,b,c,1]) 1 2*c:=rfl;have N:nrm [a,b,c,1] 3 (bD [a,b,c,1])=gD 4 (tbL 3<|itT [a,b,c,1] 3<|bD [a,b,c,1]):=rfl;rw[N,D];clear N D
 generalize itT [a,b,c,1] 3 (bD [a,b,c,1]) 0 0=x00 at *;generalize itT [a,b,c,1] 3 (bD [a,b,c,1]) 0 1=x01 at *;generalize itT [a,b,c,1] 3 (bD [a,b,c,1]) 0 2=x02 at *;generalize itT [a,b,c,1] 3 (bD [a,b,c,1]) 1 0=x10 at *;generalize itT [a,b,c,1] 3 (bD [a,b,c,1]) 1 1=x11 at *;generalize itT [a,b,c,1] 3 (bD [a,b,c,1]) 1 2=x12 at *;generalize itT [a,b,c,1] 3 (bD [a,b,c,1]) 2 0=x20 at *
 generalize itT [a,b,c,1] 3 (bD [a,b,c,1]) 2 1=x21 at *;generalize itT [a,b,c,1] 3 (bD [a,b,c,1]) 2 2=x22 at *;subst e00 e01 e02 e10 e11 e12 e20 e21 e22;unfold dB
 grind
theorem nr4 (a b c d:Int):nrm [a,b,c,d,1] 4 (bD [a,b,c,d,1])=dC a b c d:=by
 have D:=bF7 (itT [a,b,c,d,1] 4<|bD [a,b,c,d,1]);have e00:itT [a,b,c,d,1] 4 (bD [a,b,c,d,1]) 0 0=(1+((0:Nat):Int))*b:=rfl;have e01:itT [a,b,c,d,1] 4 (bD [a,b,c,d,1]) 0 1=(1+((1:Nat):Int))*c:=rfl;have e02:itT [a,b,c,d,1] 4 (bD [a,b,c,d,1]) 0 2=(1+((2:Nat):Int))*d:=rfl;have e03:itT [a,b,c,d,1] 4 (bD [a,b,c,d,1]) 0 3=(1+((3:Nat):Int))*1:=rfl
 have e10:itT [a,b,c,d,1] 4 (bD [a,b,c,d,1]) 1 0=0-itT [a,b,c,d,1] 4 (bD [a,b,c,d,1]) 0 3*a:=rfl;have e11:itT [a,b,c,d,1] 4 (bD [a,b,c,d,1]) 1 1=itT [a,b,c,d,1] 4 (bD [a,b,c,d,1]) 0 0-itT [a,b,c,d,1] 4 (bD [a,b,c,d,1]) 0 3*b:=rfl;have e12:itT [a,b,c,d,1] 4 (bD [a,b,c,d,1]) 1 2=itT [a,b,c,d,1] 4 (bD [a,b,c,d,1]) 0 1-itT [a,b,c,d,1] 4 (bD [a,b,c,d,1]) 0 3*c:=rfl
 have e13:itT [a,b,c,d,1] 4 (bD [a,b,c,d,1]) 1 3=itT [a,b,c,d,1] 4 (bD [a,b,c,d,1]) 0 2-itT [a,b,c,d,1] 4 (bD [a,b,c,d,1]) 0 3*d:=rfl;have e20:itT [a,b,c,d,1] 4 (bD [a,b,c,d,1]) 2 0=0-itT [a,b,c,d,1] 4 (bD [a,b,c,d,1]) 1 3*a:=rfl;have e21:itT [a,b,c,d,1] 4 (bD [a,b,c,d,1]) 2 1=itT [a,b,c,d,1] 4 (bD [a,b,c,d,1]) 1 0-itT [a,b,c,d,1] 4 (bD [a,b,c,d,1]) 1 3*b:=rfl
 have e22:itT [a,b,c,d,1] 4 (bD [a,b,c,d,1]) 2 2=itT [a,b,c,d,1] 4 (bD [a,b,c,d,1]) 1 1-itT [a,b,c,d,1] 4 (bD [a,b,c,d,1]) 1 3*c:=rfl;have e23:itT [a,b,c,d,1] 4 (bD [a,b,c,d,1]) 2 3=itT [a,b,c,d,1] 4 (bD [a,b,c,d,1]) 1 2-itT [a,b,c,d,1] 4 (bD [a,b,c,d,1]) 1 3*d:=rfl;have e30:itT [a,b,c,d,1] 4 (bD [a,b,c,d,1]) 3 0=0-itT [a,b,c,d,1] 4 (bD [a,b,c,d,1]) 2 3*a:=rfl
 have e31:itT [a,b,c,d,1] 4 (bD [a,b,c,d,1]) 3 1=itT [a,b,c,d,1] 4 (bD [a,b,c,d,1]) 2 0-itT [a,b,c,d,1] 4 (bD [a,b,c,d,1]) 2 3*b:=rfl;have e32:itT [a,b,c,d,1] 4 (bD [a,b,c,d,1]) 3 2=itT [a,b,c,d,1] 4 (bD [a,b,c,d,1]) 2 1-itT [a,b,c,d,1] 4 (bD [a,b,c,d,1]) 2 3*c:=rfl;have e33:itT [a,b,c,d,1] 4 (bD [a,b,c,d,1]) 3 3=itT [a,b,c,d,1] 4 (bD [a,b,c,d,1]) 2 2-itT [a,b,c,d,1] 4 (bD [a,b,c,d,1]) 2 3*d:=rfl
 have N:nrm [a,b,c,d,1] 4 (bD [a,b,c,d,1])=gD 4 (tbL 4<|itT [a,b,c,d,1] 4<|bD [a,b,c,d,1]):=rfl;rw[N,D];clear N D;generalize itT [a,b,c,d,1] 4 (bD [a,b,c,d,1]) 0 0=x00 at *;generalize itT [a,b,c,d,1] 4 (bD [a,b,c,d,1]) 0 1=x01 at *;generalize itT [a,b,c,d,1] 4 (bD [a,b,c,d,1]) 0 2=x02 at *;generalize itT [a,b,c,d,1] 4 (bD [a,b,c,d,1]) 0 3=x03 at *
 generalize itT [a,b,c,d,1] 4 (bD [a,b,c,d,1]) 1 0=x10 at *;generalize itT [a,b,c,d,1] 4 (bD [a,b,c,d,1]) 1 1=x11 at *;generalize itT [a,b,c,d,1] 4 (bD [a,b,c,d,1]) 1 2=x12 at *;generalize itT [a,b,c,d,1] 4 (bD [a,b,c,d,1]) 1 3=x13 at *;generalize itT [a,b,c,d,1] 4 (bD [a,b,c,d,1]) 2 0=x20 at *;generalize itT [a,b,c,d,1] 4 (bD [a,b,c,d,1]) 2 1=x21 at *
 generalize itT [a,b,c,d,1] 4 (bD [a,b,c,d,1]) 2 2=x22 at *;generalize itT [a,b,c,d,1] 4 (bD [a,b,c,d,1]) 2 3=x23 at *;generalize itT [a,b,c,d,1] 4 (bD [a,b,c,d,1]) 3 0=x30 at *;generalize itT [a,b,c,d,1] 4 (bD [a,b,c,d,1]) 3 1=x31 at *;generalize itT [a,b,c,d,1] 4 (bD [a,b,c,d,1]) 3 2=x32 at *;generalize itT [a,b,c,d,1] 4 (bD [a,b,c,d,1]) 3 3=x33 at *
 subst e00 e01 e02 e03 e10 e11 e12 e13 e20 e21 e22 e23 e30 e31 e32 e33;unfold dC
 grind
theorem dE6 (rp:eV p)(hn:p.length=n+1)(irr: ¬Red p):gD 4 (eE p)≠0:=by
 have a: ∀y:Nat->Int,(∃j,j<n/\y j≠0)->nrm p n y≠0:=λy hy=>dE1 rp hn irr hy
 rcases rp.cases with⟨x,y,rfl,_⟩| ⟨x,y,z,rfl,_⟩| ⟨x,y,z,w,rfl,_⟩
 .have e:3=n+1:=hn;obtain rfl:n=2:=ad
  have:=a (bD [x,y,1]) ⟨1,ac,by show(1+((1:Nat):Int))*1≠0;decide⟩
  rw[nr2]at this;rw[id2];show dA x y≠0
  lia
 .have e:4=n+1:=hn;obtain rfl:n=3:=ad
  have:=a (bD [x,y,z,1]) ⟨2,ac,by show(1+((2:Nat):Int))*1≠0;decide⟩
  rw[nr3]at this;rw[id3];show dB x y z≠0
  lia
 .have e:5=n+1:=hn;obtain rfl:n=4:=ad
  have:=a (bD [x,y,z,w,1]) ⟨3,ac,by show(1+((3:Nat):Int))*1≠0;decide⟩
  rw[nr4]at this;rw[dV8];exact this
theorem cY3: ∀m:Fin 200,2<=m.1-> ∃q∈prL,(m.1:Int)%q=0:=af
theorem pr_of (h:PrI P)(h2:P<200):P∈prL:=by
 have lo:=h.lo;obtain⟨q,hq,e⟩:=cY3 ⟨P.toNat,ad⟩ (by show 2<=P.toNat;lia)
 have q2:=(aA6 hq).lo;have e':P%q=0:=by
  have:((P.toNat:Nat):Int)%q=0:=e
  rwa [Int.toNat_of_nonneg ad]at this
 obtain⟨k,hk⟩:=uK e';have k0:0<k:=by
  rcases Int.lt_or_le 0 k with h|h
  .exact h
  .have:=Int.mul_nonpos_of_nonneg_of_nonpos (show 0<=q by lia) h
   lia
 rcases h.or q k (by rw[<-hk];exact kJ P)with d|d
 .have:=oF ad d
  have:q*1<=q*k:=l7 ad ad
  obtain rfl:q=P:=ad
  exact hq
 .have:=oF k0 d;have:2*k<=q*k:=Int.mul_le_mul_of_nonneg_right q2 ad
  lia
theorem dE7 (rp:eV p)(hn:p.length=n+1)(rg:RG p)(hP:PrI P)(h:P*P∣ps (fOf p) r (n+1))(h2:P∣ps (syn (fOf p) r n) r n):False:=by
 have rf:=rp.rf;rw[hn,cN]at rf;have top:p.getD n 0=1:=rf.top;have n2:2<=n:=by have:=rp.ok.lo;lia
 have ms:=dR7 rp hn h h2;have m0:=dE6 rp hn rg.irr;have lo:=hP.lo;have m1:=rg.meas;have hi:P<200:=by
  refine kB λc=> ?_
  have a:200*200<=P*P:=rA ad ad ad ad
  have b:=aN0.mpr ms;have:=a14 ad b
  lia
 have hq:=pr_of hP hi;have pq:=aA6 hq;obtain⟨xf,sps,fine⟩:=rg.wh;rw[hn,cN]at sps fine;have sq:sqB (gD 4<|eE p) P=true:=iJ (lD ms);have sp:=sps P hq sq;have mF:=rf.mp pq.lo;have f1:P∣ps (fOf p) r (n+1):=gN (uS P P) h;obtain⟨x,hx,ex⟩: ∃x∈xf P,x.1=j8 ((-r)%P):=by
  refine kB λno=> ?_
  obtain⟨H,mH,eF,vH⟩:=(cQ2 pq (F:=(n,md P<|fOf p)) mF sp (cA (-r) ad)<|bZ (-r) ad).2 λx hx e=>no ⟨x,hx,e⟩
  rw[show H=(n,md P<|fOf p)from eF.symm]at vH
  refine vH ?_
  show ps (md P<|fOf p) (-((-r)%P)) (n+1)%P=0
  have a:=bG1 (q:=P) (z:= -((-r)%P)) (w:=r) (dv1 (x:= -1) (cgE<|-r)<|by grind) (md P<|fOf p) (n+1)
  have b: ∀k,P∣ps (md P<|fOf p) r k-ps (fOf p) r k:=by
   intro k
   induction k with
   | zero=>exact cgR _
   | succ k ih=>exact dv2 (x:=1) (y:=r^k) ih (cgE<|fOf p k) (by show ps (md P<|fOf p) r k+fOf p k%P*r^k-(ps (fOf p) r k+fOf p k*r^k)=_;grind)
  exact lD ((cgT a).mpr<|(cgT<|b<|n+1).mpr f1)
 obtain⟨z,z1,z2,z3⟩:=dR4 (f:=fOf p) ad rf.hi pq mF sp (fine P hq sq) hx (by rw[ex];rfl)
 rw[ex]at z1;have zr:P∣z-r:=dv2 (x:=1) (y:= -1) z1 (cgE<|-r) (by show z-r=(z+(-r)%P)*1+_;grind)
 refine z3 ?_
 rw[dR6 ad top r z]
 have q1:P∣ps (syn (fOf p) r n) z n:=(cgT<|bG1 zr _ n).mpr h2;exact dv2 (x:=1) (y:=1) h (a12 zr q1) (by grind)
theorem dE8 {S:Int->Prop}(h: ∀a b k:Int,S a->S b->S (a+k*b))(a b:Int)(ha:S a)(hb:S b):S (Int.gcd a b:Int):=by
 have neg: ∀{x:Int},S x->S (x.natAbs:Int):=λ{x} hx=>by
  rcases Int.natAbs_eq x with e|e
  .rw[<-e];exact hx
  .have:=h x x (-2) hx hx;rw[show(x.natAbs:Int)=x+ -2*x by lia]
   exact this
 have key: ∀u v:Nat,S (u:Int)->S (v:Int)->S (Nat.gcd u v:Int):=by
  intro u v
  induction u,v using Nat.gcd.induction with
  | H0 v=>intro _ hv;rw[Nat.gcd_zero_left];exact hv
  | H1 u v _ ih=>
   intro hu hv;rw[Nat.gcd_rec];refine ih ?_ hu;have:=h v u (-((v:Int)/u)) hv hu;rw[show((v%u:Nat):Int)=v+ -((v:Int)/u)*u by rw[aP1,Int.emod_def];grind]
   exact this
 exact key _ _ (neg ha) (neg hb)
theorem dE9 (c:Int)(u:Nat->Int)(r:Int)(n:Nat):ps (λj=>c*u j) r n=c*ps u r n:=by
 have a:ps (λj=>c*u j) r n=ps (λj=>(λ_=>0) j+c*u j) r n:=bG6 n λj _=>by dsimp only;lia
 rw[a,aC8,aH3]
 lia
theorem dF0 (rp:eV p)(hn:p.length=n+1)(rg:RG p){l:Int}(m1:1<=m)(hd:m*l∣ps (fOf p) r (n+1)){P:(Nat->Int)->Prop}(lin: ∀a b k,P a->P b->P λj=>a j+k*b j)(cong: ∀a b,(∀j,j<n->a j=b j)->P a->P b)
  (prod: ∀a b,m∣ps a r n->l∣ps b r n->P (gE p n a b)) {w:Nat->Int} (hw:m*l∣ps w r n):P w:=by
 have rf:=rp.rf;rw[hn,cN]at rf;have top:p.getD n 0=1:=rf.top;have n2:2<=n:=by have:=rp.ok.lo;lia
 have n4:=rf.n4;have n1:1<=n:=ad
 have cst: ∀(c:Int) (v:Nat->Int) j,gE p n v (nO c) j=c*v j:=λc v j=>by
  have e:nO c=λi=>c*nO 1 i:=funext λi=>by unfold nO;split<;>lia
  rw[e,b20,cQ6 n1]
 have pm: ∀v,l∣ps v r n->P λj=>m*v j:=λv hv=>cong _ _ (λj hj=>by rw[pN n2 n4 _ _ j hj,cst]) (prod (nO m) v (by rw[b21 n1];exact kJ m) hv)
 have pl: ∀v,m∣ps v r n->P λj=>l*v j:=λv hv=>cong _ _ (λj hj=>cst l v j) (prod v (nO l) hv (by rw[b21 n1];exact kJ l))
 have pz:P λ_=>0:=cong _ _ (λj _=>b6 m) (pm (λ_=>0) (by rw[aH3];exact oH l))
 obtain⟨u,eu⟩: ∃u:Nat->Int,u=λj=>w j+(-ps w r n)*nO 1 j:=⟨_,rfl⟩
 have u0:ps u r n=0:=by rw[eu,aC8,b21 n1];lia
 obtain⟨Q,eQ⟩: ∃Q,Q=syn (fOf p) r n:=⟨_,rfl⟩;obtain⟨D,eD⟩: ∃D,D=ps Q r n:=⟨_,rfl⟩;have pD:P λj=>D*u j:=by
  obtain⟨F,eF⟩:=hd;have a:P λj=>m*(-F*l*syn u r (n-1) j):=pm (λj=> -F*l*syn u r (n-1) j) (by rw[dE9];exact⟨-F*ps (syn u r<|n-1) r n,by grind⟩)
  have b:P (gE p n (λj=>Q j+(-D)*nO 1 j) u):=prod _ _ (by rw[aC8,b21 n1,eD,show ps Q r n+ -ps Q r n*1=0 by lia];exact oH m) (by rw[u0];exact oH l)
  refine cong _ _ (λj hj=> ?_) (lin _ _ (-1) a b)
  have c:=dE5 n2 n4 top u0 j hj;rw[<-eQ,eF]at c;rw[pN n2 n4 _ _ j hj,aW1,cst,pN n2 n4 u Q j hj,c]
  grind
 have cl: ∀a b k:Int,(P λj=>a*u j)->(P λj=>b*u j)->P λj=>(a+k*b)*u j:=λa b k ha hb=>cong _ _ (λj _=>by grind) (lin _ _ k ha hb)
 have g1:=dE8 (S:=λa=>P λj=>a*u j) cl m l (pm u (by rw[u0];exact oH l)) (pl u (by rw[u0];exact oH m))
 have g2:=dE8 (S:=λa=>P λj=>a*u j) cl _ D g1 pD
 have g0:Int.gcd (Int.gcd m l) D=1:=by
  refine kB λc=> ?_
  have dm:(Int.gcd (Int.gcd m l) D:Int)∣m:=gN (a04 ..) (a04 ..);have dl:(Int.gcd (Int.gcd m l) D:Int)∣l:=gN (a04 ..) (Int.gcd_dvd_right ..);have dD:(Int.gcd (Int.gcd m l) D:Int)∣D:=Int.gcd_dvd_right ..;have z:Int.gcd (Int.gcd m l) D≠0:=λz=>by
   rw[z]at dm;have:=Int.zero_dvd.mp dm
   lia
  obtain⟨q,hq,dq⟩:=dD5 (c:=(Int.gcd (Int.gcd m l) D:Int)) ad
  refine dE7 rp hn rg hq (gN (a12 (gN dq dm)<|gN dq dl) hd) ?_
  rw[<-eQ,<-eD];exact gN dq dD
 rw[g0]at g2;obtain⟨c,ec⟩:=hw;refine cong _ _ (λj _=> ?_) (lin _ _ 1 (pm (λj=>l*c*nO 1 j) (by rw[dE9];exact⟨c*ps (nO 1) r n,by grind⟩)) g2)
 rw[eu,ec]
 grind
theorem cK0 (n2:2<=n): ∀i,i<n->q∣ps (knT q r i) r n:=λi hi=>by
 by_cases z:i=0
 .subst z;have e:ps (knT q r 0) r n=q:=(bG6 (v:=nO q) n λj _=>rfl).trans (b21 ad q r)
  rw[e];exact kJ q
 .obtain⟨k,hk⟩:=aW0 r q i;have e:ps (knT q r i) r n=(-tI r q i)%q+r^i:=by
   have: ∀N,ps (knT q r i) r (N+1)=(-tI r q i)%q+if i<=N then r^i else 0:=by
    intro N
    induction N with
    | zero=>
     show 0+knT q r i 0*r^0=_
     unfold knT;rw[a9 z,aA rfl,a9 ad,cZ]
     lia
    | succ N ih=>
     show ps (knT q r i) r (N+1)+knT q r i (N+1)*r^(N+1)=_
     have e2:knT q r i (N+1)=if N+1=i then 1 else 0:=by
      unfold knT;rw[a9 z,a9<|show ¬N+1=0 by lia]
     rw[ih,e2]
     by_cases c:N+1=i
     .rw[aA c,a9<|show ¬i<=N by lia,aA<|show i<=N+1 by lia,c]
      lia
     .rw[a9 c]
      by_cases d:i<=N
      .rw[aA d,aA<|show i<=N+1 by lia];lia
      .rw[a9 d,a9<|show ¬i<=N+1 by lia];lia
   obtain⟨N,rfl⟩: ∃N,n=N+1:=⟨n-1,ad⟩
   rw[this N,aA ad]
  have f:=iG (-tI r q i) q;rw[e];exact⟨-k-(-tI r q i)/q,by grind⟩
theorem cY4 (q1:1<=q)(c1:1<=c):bS0 n λi j=>c*knT q r i j:=by
 refine⟨⟨λi hi=> ?_,λi hi j hj=> ?_⟩,λi hi j hj=> ?_⟩
 .show 0<c*knT q r i i
  refine kK ad ?_
  unfold knT
  by_cases z:i=0
  .rw[aA z,aA z];lia
  .rw[a9 z,a9 z,aA rfl];decide
 .show c*knT q r i j=0
  unfold knT
  by_cases z:i=0
  .rw[aA z,a9 ad];lia
  .rw[a9 z,a9 ad,a9 ad];lia
 .show 0<=c*knT q r i j/\c*knT q r i j<c*knT q r j j
  have:0<=knT q r i j/\knT q r i j<knT q r j j:=by
   unfold knT;rw[a9 ad]
   by_cases z:j=0
   .rw[aA z,aA z,aA z];exact⟨cA _ ad,bZ _ ad⟩
   .rw[a9 z,a9 ad,a9 z,a9 z,aA rfl]
    decide
  exact⟨lM ad this.1,Int.mul_lt_mul_of_pos_left this.2 ad⟩
theorem Gen.tim {S T:(Nat->Int)->Prop}(n2:2<=n)(n4:n<=4)(h: ∀a b,R a->S b->Gen n T λj=>c*gE p n a b j){a b:Nat->Int}(ha:Gen n R a)(hb:Gen n S b):Gen n T λj=>c*gE p n a b j:=by
 have one: ∀{a b:Nat->Int},R a->Gen n S b->Gen n T λj=>c*gE p n a b j:=by
  intro a b ra hb
  induction hb with
  | zero=>
   refine Gen.zero.cong λj hj=> ?_
   .rw[u5 (v':=λi=>0*nO 1 i) ad (λ_ _=>rfl) (λi _=>by rw[cY]) j hj,b20]
    lia
  | base hb=>exact h _ _ ra hb
  | comb k _ _ i1 i2=>exact(Gen.comb k i1 i2).cong λj _=>by rw[aW1];grind
  | cong _ e ih=>exact ih.cong λj hj=>by rw[u5 ad (λ_ _=>rfl) e j hj]
 induction ha with
 | zero=>
  refine Gen.zero.cong λj hj=> ?_
  .rw[pN n2 n4 _ _ j hj,u5 (v':=λi=>0*nO 1 i) ad (λ_ _=>rfl) (λi _=>by rw[cY]) j hj,b20]
   lia
 | base ra=>exact one ra hb
 | comb k _ _ i1 i2=>exact(Gen.comb k i1 i2).cong λj hj=>by rw[pN n2 n4 (λ_=>_+_) b j hj,aW1,pN n2 n4 b _ j hj,pN n2 n4 b _ j hj];grind
 | cong _ e ih=>exact ih.cong λj hj=>by rw[u5 ad e (λ_ _=>rfl) j hj]
noncomputable def b71 (p:List Int)(n:Nat)(A B:Nat->Nat->Int)(N:Nat):List (List Int):=(List.range N).map λx=>rwF n (gE p n (A<|x/n)<|B<|x%n)
theorem dR8 (rp:eV p)(hn:p.length=n+1)(rg:RG p){l k h:Int}(m1:1<=m)(l1:1<=l)(k1:1<=k)(h1:1<=h)(hd:m*l∣ps (fOf p) r (n+1)){T:Nat->Nat->Int}
  (S:SOk n (k*m*(h*l)) (b71 p n (λi j=>k*knT m r i j) (λi j=>h*knT l r i j)<|n*n) T): ∀i,i<n-> ∀j,j<n->T i j=k*h*knT (m*l) r i j:=by
 have rf:=rp.rf;rw[hn,cN]at rf;have top:p.getD n 0=1:=rf.top;have n2:2<=n:=by have:=rp.ok.lo;lia
 have n4:=rf.n4;have n1:1<=n:=ad
 have sc: ∀a b j,j<n->gE p n (λi=>k*a i) (λi=>h*b i) j=k*h*gE p n a b j:=λa b j hj=>by
  rw[b20,pN n2 n4 _ _ j hj,b20,pN n2 n4 _ _ j hj]
  grind
 have kh:1<=k*h:=kK k1 h1;refine bS0.uniq S.st (cY4 (kK m1 l1) kh) (λi hi=> ?_) λi hi=> ?_
 .have up: ∀w,m*l∣ps w r n->Gen n (Rows n λi j=>k*h*knT (m*l) r i j) λj=>k*h*w j:=λw hw=>by
   have:=bG0 n2 n4 hw;clear hw
   induction this with
   | zero=>exact Gen.zero.cong λj _=>ad
   | base hv=>
    obtain⟨i,hi,rfl⟩:=hv;exact .base ⟨i,hi,rfl⟩
   | comb c _ _ i1 i2=>exact(Gen.comb c i1 i2).cong λj _=>by grind
   | cong _ e ih=>exact ih.cong λj hj=>by rw[e j hj]
  refine Gen.mono (λv hv=> ?_) ((S.gen _).mp<|.base ⟨i,hi,rfl⟩)
  rcases hv with⟨x,hx,rfl⟩| ⟨c,hc,rfl⟩
  .obtain⟨y,hy,rfl⟩:=fB.mp hx;have hy:=dN.mp hy;have a:=cK0 (q:=m) (r:=r) n2 (y/n) (Nat.div_lt_of_lt_mul hy);have b:=cK0 (q:=l) (r:=r) n2 (y%n) (Nat.mod_lt _ ad)
   refine(up (gE p n (knT m r<|y/n)<|knT l r<|y%n) ?_).cong λj hj=>by rw[dD1 hj,sc _ _ j hj]
   exact(cgT<|ps_tim n1 top hd).mpr (a12 a b)
  .refine(up (λj=>m*l*(if j=c then 1 else 0)) (by rw[dE9];exact uS ..)).cong λj _=> ?_
   unfold mE;split<;>grind
 .rw[S.gen];refine dF0 (P:=λw=>Gen n (RM n (k*m*(h*l))<|LR<|b71 p n (λi j=>k*knT m r i j) (λi j=>h*knT l r i j)<|n*n) λj=>k*h*w j) rp hn rg m1 hd (λa b c ha hb=>(Gen.comb c ha hb).cong λj _=>by grind) (λa b e ha=>ha.cong λj hj=>by rw[e j hj]) (λa b ha hb=> ?_) (cK0 n2 i hi)
  refine Gen.tim n2 n4 (λa b ha hb=> ?_) (bG0 n2 n4 ha) (bG0 n2 n4 hb)
  obtain⟨i,hi,rfl⟩:=ha;obtain⟨j,hj,rfl⟩:=hb;have lt:n*i+j<n*n:=by
   have:n*(i+1)<=n*n:=uO n hi;rw[Nat.mul_add]at this
   lia
  refine(Gen.base<|.inl ⟨_,fB.mpr ⟨n*i+j,dN.mpr lt,rfl⟩,rfl⟩).cong λc hc=> ?_
  rw[dD1 hc,Nat.mul_add_div ad,Nat.mul_add_mod,Nat.div_eq_of_lt hj,aP0 hj,a21]
  exact sc _ _ c hc
def vU:Φ:=λds Q=> ∃a b:Int,ds=[.int a,.int b]/\0<=a/\0<=b/\Q (.pu<|.int (a.gcd b:Nat))
def aR0:US:=(aX (aZ5 (fO<|uOp (lQ true) (aF 1)<|uC<|.int 0)<|cU6 0 1<|aC (aF 1)<|aC (uOp pX (aF 0)<|aF 1) aR)<|dQ<|aU cF5<|aC (aF 0) aR)
theorem cK1: ∀ds Q,vU ds Q->aR0 {nx:=λ_=>Q (.pu .non),rt:=Q} (init ["a","b"] ds):=by
 rintro ds Q ⟨a,b,rfl,a0,b0,h⟩;unfold aR0;show(aX _ _:US) _ [some<|.pu<|.int a,some<|.pu<|.int b];refine⟨λn ρ=> ∃g l:Int,ρ=[some<|.pu<|.int g,some<|.pu<|.int l]/\n=l.natAbs/\0<=g/\0<=l/\g.gcd l=a.gcd b,⟨_,_,_,rfl,rfl,a0,b0,rfl⟩,?_⟩
 rintro n ρ ⟨g,l,rfl,rfl,g0,l0,e⟩;left;split
 .rename_i hl
  have hl':l≠0:=by simpa using hl
  have e1:=cA g hl';have e2:=bZ g (show 0<l by lia)
  rw[eO _<|show 0<l by lia]
  exact⟨hl',_,ad,_,_,rfl,rfl,l0,e1,(dC9 g0 l0).trans e⟩
 .rename_i hl
  have hl':l=0:=by simpa using hl
  subst hl';rw[Int.gcd_zero_right]at e;rw[absJ,e];exact h
def b22:Φ:=λds Q=> ∃(n a b:Nat) (f:Nat->Int) (z:Int),ds=[aS<|rwF n f,.int z]/\dA2 n a b f z/\Q (.pu<|.int<|ps f z n)
def b23:US:=(aX (bV 2<|uC<|.int 0)<|aX (nA (cO0<|aC (aF 0) aR) (dG 3)<|bV 2<|uOp iV (uOp fS (aF 2)<|aF 1)<|aF 3)<|sJ 2)
theorem cY5: ∀ds Q,b22 ds Q->b23 {nx:=λ_=>Q (.pu .non),rt:=Q} (init ["f","z","v","c"] ds):=by
 rintro ds Q ⟨n,a,b,f,z,rfl,ok,h⟩;unfold b23;simp only[aS];show(aX _ _:US) _ [some<|.pu<|.tup<|(rwF n f).map .int,some<|.pu<|.int z,none,none];left;refine cF n (λk=>((rwF n f).map D.int).getD (n-1-k) .non) [some<|.pu<|.tup<|(rwF n f).map .int,some<|.pu<|.int z,some<|.pu<|.int 0,none] ?_
  (λk ρ=> ∃c,ρ=[some<|.pu<|.tup<|(rwF n f).map .int,some<|.pu<|.int z,some<|.pu<|.int<|hor f n z k,c]) ⟨none,rfl⟩ ?_ ?_
 .intro Q' q;left;rw[bC];exact q
 .rintro k ρ hk ⟨c,rfl⟩;rw[nN aa]
  left
  have room:=ok.room;have:(b+1)*k<=(b+1)*n:=uO _ aa
  exact⟨ae,.inr ⟨Sm.pow (aG7 ok.fb ok.zb k) aa,Sm.pow ok.zb (by have:=ok.b8;omega)⟩,_,rfl⟩
 .rintro ρ ⟨c,rfl⟩;left;rw[bY0];exact h
def aC9:Φ:=λds Q=> ∃(n:Nat) (t:Nat->Nat->Int),ds=[.tup<|tbF n n t,.int (n:Int)]/\n<=8/\Q (.pu<|.bl true)
def aW3:US:=(dQ<|aU cG1<|aC (gG [1] [none,some 1,none] 2 (iN<|aF 0) (dG 0) (λρ Q=>Q true ρ)<|aU cJ1<|aC (aF 0)<|aC (aF 1) aR) aR)
def aD0:US:=(aX (iU (uOr (cU5<|fO<|aU cU7<|aC (aF 0)<|aC (uC<|.ty "tuple") aR)<|fO<|uOp (lQ true) (nL<|b7 0)<|aF 1) (dQ<|uC<|.bl false) fT) aW3)
theorem c93: ∀ds Q,aC9 ds Q->aD0 {nx:=λ_=>Q (.pu .non),rt:=Q} (init ["f","m"] ds):=by
 rintro ds Q ⟨n,t,rfl,n8,h⟩;unfold aD0;show(aX _ _:US) _ [some<|.pu<|.tup<|tbF n n t,some<|.pu<|.int (n:Int)];rw[aZ];left;simp only[isI,j7,not_true,fM,aO0,Bool.not_true];unfold aW3;rw[j6,eU,eP]
 refine fG (t0:=0) n (λi=>(tbF n n t).getD i .non) [some<|.pu<|.tup<|tbF n n t,some<|.pu<|.int (n:Int)] ?_ aa (λx l=>[x,some<|.pu<|.int (n:Int),some<|.ow l]) none rfl (λ_ _ _=>rfl) (λ_ _=>cO _) (λ_ _ _ q=>q) (λ_ _ _=>rfl) (λ_=> .bl true) ?_ ?_
 .intro Q' q;left;rw[j7];exact q
 .intro i l Q' hi q;rw[aC6 hi]at q⊢;left;exact⟨rwF n<|t i,by rw[aG5],by rw[aG5];omega,q⟩
 .left
  have e:(List.range n).map (λ_=>D.bl true)=(replicate n true).map D.bl:=by apply lK<;>simp
  rw[e,a30];dsimp only;rw[show(replicate n true).all id=true by simp]
  exact h
def uD:Φ:=λds Q=> ∃(n:Nat) (q r:Int),ds=[.int (n:Int),.int q,.int r]/\1<=n/\n<=4/\1<=q/\r.natAbs<=2^30/\Q (.pu<|knD n q r)
def bG7:US:=(dQ<|aU dL<|aC (aF 3) aR)
def bG8:US:=(aX (nA (kM<|aC (aF 0) aR) (dG 5)<|aX (bV 6<|uOp fS (n6<|aC (uC<|.int 0) aR)<|aF 0)<|aX (iU (fO<|uOp (lQ false) (aF 5)<|uC<|.int 0) (b42 6 (aF 1)<|uC<|.int 0)<|aX (bV 4<|uOp pX (uOp fS (aF 4)<|aF 2)<|aF 1)<|aX (b42 6 (uOp pX (sK<|aF 4)<|aF 1)<|uC<|.int 0)<|b42 6 (uC<|.int 1)<|aF 5)<|aS8 3<|aU dL<|aC (aF 6) aR) bG7)
def b24:US:=(aX (bV 3<|n6 aR)<|aX (bV 4<|uC<|.int 1) bG8)
theorem cY6: ∀ds Q,uD ds Q->b24 {nx:=λ_=>Q (.pu .non),rt:=Q} (init ["m","p","r","o","f","i","w"] ds):=by
 rintro ds Q ⟨n,q,r,rfl,n1,n4,q2,r1,h⟩;unfold b24;show(aX _ _:US) _ [some<|.pu<|.int (n:Int),some<|.pu<|.int q,some<|.pu<|.int r,none,none,none,none];left;refine⟨ac,?_⟩
 unfold bG8;rw[aZ];refine cF n (λk=> .int (0+(k:Int))) [some<|.pu<|.int (n:Int),some<|.pu<|.int q,some<|.pu<|.int r,some<|.ow [],some<|.pu<|.int 1,none,none] (λQ' q'=> ?_)
  (λk ρ=> ∃x y,ρ=[some<|.pu<|.int (n:Int),some<|.pu<|.int q,some<|.pu<|.int r,some<|.ow<|tbF k n<|knT q r,some<|.pu<|.int<|tI r q<|k-1,x,y]) ⟨none,none,rfl⟩ ?_ ?_
 .left
  refine⟨⟨ad,ad⟩,?_⟩
  rw[eH];exact q'
 .rintro k ρ hk ⟨x,y,rfl⟩;rw[bW];left;rw[eH,bR1];refine⟨ac,ac,⟨ad,ad,aM (show(0+1)*n<=10 by lia) ac⟩,?_⟩
  have x0:ixN n 0=some 0:=by unfold ixN;simp;lia
  have xk:ixN n (k:Int)=some k:=by unfold ixN;simp;lia
  have ln:(tbF k n<|knT q r).length<sizeLine:=bG (show(tbF k n<|knT q r).length<10 by rw[j7];lia) ac
  by_cases c:k=0
  .subst c;rw[aA<|by rfl,bC,x0]
   dsimp only;rw[aU7 ad]
   have e:tbF 0 n (knT q r)++[aS<|rwF n λx=>if x=0 then q else 0]=tbF (0+1) n (knT q r):=by
    rw[aU8];refine aH1 λi hi j hj=> ?_
    have:i=0:=ad
    subst this;rfl
   rw[show tbF 0 n (knT q r)++[D.tup<|(rwF n λx=>if x=0 then q else 0).map D.int]=_ from e]
   exact⟨ln,_,_,rfl⟩
  .rw[a9 ad]
   have ek:tI r q (k-1)*r%q=tI r q k:=by
    obtain⟨m,rfl⟩: ∃m,k=m+1:=⟨k-1,ad⟩
    rfl
   refine⟨cmR ad ad,ad,ad,?_⟩
   rw[eO (tI r q (k-1)*r) ad,ek,eO _ ad,bC,x0]
   dsimp only;rw[aU7 ad,bC,xk]
   dsimp only;rw[aU7 ad]
   have e:tbF k n (knT q r)++[aS<|rwF n λx=>if x=k then 1 else if x=0 then(-tI r q k)%q else 0]=tbF (k+1) n (knT q r):=by
    rw[aU8];refine aH1 λi hi j hj=> ?_
    by_cases w:i=k
    .rw[aA w,w];unfold knT;rw[a9 c]
     by_cases z:j=0
     .rw[a9 ad,aA z,aA z]
     .rw[a9 z,a9 z]
    .rw[a9 w]
   rw[show tbF k n (knT q r)++[D.tup<|(rwF n λx=>if x=k then 1 else if x=0 then(-tI r q k)%q else 0).map D.int]=_ from e]
   exact⟨ln,_,_,rfl⟩
 .rintro ρ ⟨x,y,rfl⟩;dsimp only;unfold bG7;left;exact h
def aD1:Φ:=λds Q=> ∃(n:Nat) (t:Nat->Nat->Int) (k:Int),ds=[.tup<|tbF n n t,.int k]/\n<=4/\0<=k/\k<=1000/\Q (.pu<|.tup<|tbF n n λi j=>k*t i j)
def bG9:US:=(dQ<|aU dL<|aC (gG [1] [none,some 1,none] 2 (iN<|aF 0) (dG 0) (λρ Q=>Q true ρ)<|aU dL<|aC (gG [1] [none,some 1,none] 2 (iN<|aF 0) (dG 0) (λρ Q=>Q true ρ)<|uOp fS (aF 1)<|aF 0) aR) aR)
theorem dF1: ∀ds Q,aD1 ds Q->bG9 {nx:=λ_=>Q (.pu .non),rt:=Q} (init ["t","k"] ds):=by
 rintro ds Q ⟨n,t,k,rfl,n4,k0,k1,h⟩;unfold bG9;show(dQ _:US) _ [some<|.pu<|.tup<|tbF n n t,some<|.pu<|.int k];rw[j6,eU,eP]
 refine fG (t0:=0) n (λi=>(tbF n n t).getD i .non) [some<|.pu<|.tup<|tbF n n t,some<|.pu<|.int k] ?_ aa (λx l=>[x,some<|.pu<|.int k,some<|.ow l]) none rfl (λ_ _ _=>rfl) (λ_ _=>cO _) (λ_ _ _ q=>q) (λ_ _ _=>rfl) (λi=>aS (rwF n λj=>k*t i j)) ?_ ?_
 .intro Q' q;left;rw[j7];exact q
 .intro i l Q' hi q;rw[aC6 hi]at q⊢;simp only[aS]at q⊢;rw[eU,eP];refine fG (t0:=0) n (λj=>((rwF n<|t i).map D.int).getD j .non) [some<|.pu<|.tup<|(rwF n<|t i).map D.int,some<|.pu<|.int k,some<|.ow l] ?_ aa (λx l=>[x,some<|.pu<|.int k,some<|.ow l]) none rfl (λ_ _ _=>rfl) (λ_ _=>cO _) (λ_ _ _ q=>q) (λ_ _ _=>rfl) (λj=> .int (k*t i j)) ?_ ?_
  .intro Q' q;left;rw[bC];exact q
  .intro j l Q' hj q;rw[nN hj]at q⊢;left;exact⟨cmL ad ad,q⟩
  .left
   have e:(List.range n).map (λj=>D.int (k*t i j))=(rwF n λj=>k*t i j).map D.int:=by unfold rwF;rw[jJ];rfl
   rw[e];exact q
 .left
  exact h
def b97:Φ:=λds Q=> ∃m k z:Int,ds=[.int m,.int k,.int z]/\1<=m/\0<=z/\z<=100000/\ ∀g,1<=g->g∣m->Q (.pu<|.int g)
def c94:US:=(dQ<|aU vU<|aC (aF 0)<|aC (uOp fS (uOp fS (uOp fS (uOp fS (uOp b63 (uC<|.int 2)<|uC<|.int 20)<|uOp b63 (uC<|.int 3)<|uC<|.int 12)<|uOp b63 (uC<|.int 5)<|uC<|.int 8)<|uOp b63 (uC<|.int 7)<|uC<|.int 6)<|uOp iV (uC<|.int 1)<|aF 2) aR)
def c95:US:=(aX (iU (fO<|uOp (lQ false) (aF 1)<|uC<|.int 1) (dQ<|aU vU<|aC (aF 0)<|aC (uOp fS (uOp fS (uOp fS (uOp fS (uOp fS (uOp fS (uOp fS (uC<|.int 11)<|uC<|.int 13)<|uC<|.int 17)<|uC<|.int 19)<|uC<|.int 23)<|uC<|.int 29)<|uC<|.int 31)<|uOp iV (uC<|.int 1)<|aF 2) aR) fT) c94)
def bZ3:US:=(aX (iU (fO<|uOp (lQ false) (aF 1)<|uC<|.int 0) (sJ 0) fT) c95)
theorem dR9: ∀ds Q,b97 ds Q->bZ3 {nx:=λ_=>Q (.pu .non),rt:=Q} (init ["m","k","z"] ds):=by
 rintro ds Q ⟨m,k,z,rfl,m1,z0,z1,h⟩;have gd: ∀b:Int,0<=b->vU [.int m,.int b] Q:=λb b0=>by
  have:0<m.gcd b:=Nat.pos_of_ne_zero λe=>by
   have:=(Int.gcd_eq_zero_iff.mp e).1
   lia
  exact⟨m,b,rfl,ad,b0,h _ ad<|a04 ..⟩
 unfold bZ3;show(aX _ _:US) _ [some<|.pu<|.int m,some<|.pu<|.int k,some<|.pu<|.int z];rw[aZ];left
 by_cases c:k=0
 .rw[aA c];exact h m m1 (kJ m)
 .rw[a9 c];unfold c95;rw[aZ];left
  by_cases d:k=1
  .rw[aA d];refine⟨cmL ac ac,cmL ac ac,cmL ac ac,cmL ac ac,cmL ac ac,cmL ac ac,cmR ad ad,gd _ ad⟩
  .rw[a9 d];unfold c94;left;exact⟨cpl ac ac ac,cpl ac ac ac,cmL ac ac,cpl ac ac ac,cmL ac ac,cpl ac ac ac,cmR ac ac,cmR ad ad,gd _ ad⟩
theorem dS0 (r s:Int):knT 1 r=knT 1 s:=by
 funext i j
 unfold knT;simp only[Int.emod_one]
theorem dF2 (q1:1<=q)(q2:q.natAbs<=2^e)(i j:Nat):(knT q r i j).natAbs<=2^e:=by
 have:1<=2^e:=Nat.one_le_two_pow;unfold knT
 by_cases z:i=0
 .rw[aA z];split
  .exact q2
  .exact cK _
 .rw[a9 z];split
  .have:=cA (-tI r q i) (show q≠0 by lia)
   have:=bZ (-tI r q i) (show 0<q by lia)
   lia
  .split
   .exact this
   .exact cK _
def mT:Φ:=λds Q=> ∃(C:Addr) (p:List Int) (n:Nat) (m l k h r:Int),ds=[jT C p,.tup<|tbF n n λi j=>k*knT m r i j,.tup<|tbF n n λi j=>h*knT l r i j]/\eV p/\p.length=n+1/\RG p/\1<=m/\1<=l/\1<=k/\1<=h/\m.natAbs<=2^200/\l.natAbs<=2^200/\k.natAbs<=2^10/\h.natAbs<=2^10/\m*l∣ps (fOf p) r (n+1)/\Q (.pu<|.tup<|tbF n n λi j=>k*h*knT (m*l) r i j)
def xT:US:=(dQ<|aU aQ8<|aC (bC4 "degree"<|aF 0)<|aC (uOp fS (uIx (uV<|uIx (b7 1)<|uC<|.int 0)<|uC<|.int 0)<|uIx (uV<|uIx (b7 2)<|uC<|.int 0)<|uC<|.int 0)<|aC (aF 3) aR)
def a47:US:=(aX (bV 3<|b01 [0,2] [none,none,some 0,some 2,none] 4 (iN<|aF 1) (dG 0) (λρ Q=>Q true ρ)<|dN0 4 (iN<|aF 3) (dG 1) (λρ Q=>Q true ρ)<|aU aQ3<|aC (aF 2)<|aC (aF 0)<|aC (aF 1) aR) xT)
theorem bZ4: ∀ds Q,mT ds Q->a47 {nx:=λ_=>Q (.pu .non),rt:=Q} (init ["r","o","h","w"] ds):=by
 rintro ds Q ⟨C,p,n,m,l,k,h,r,rfl,rp,hn,rg,m1,l1,k1,h1,m2,l2,k2,h2,hd,q⟩;have n2:2<=n:=by have:=rp.ok.lo;lia
 have n4:n<=4:=by have:=rp.ok.hi;lia
 obtain⟨A,eA⟩: ∃A:Nat->Nat->Int,A=λi j=>k*knT m r i j:=⟨_,rfl⟩
 obtain⟨B,eB⟩: ∃B:Nat->Nat->Int,B=λi j=>h*knT l r i j:=⟨_,rfl⟩
 have bA: ∀i j,(A i j).natAbs<=2^210:=λi j=>by rw[eA];exact aM (fV k2<|dF2 m1 m2 i j) ac
 have bB: ∀i j,(B i j).natAbs<=2^210:=λi j=>by rw[eB];exact aM (fV h2<|dF2 l1 l2 i j) ac
 have key: ∀T,SOk n (k*m*(h*l)) (b71 p n A B<|n*n) T->Q (.pu<|.tup<|tbF n n T):=λT S=>by
  rw[eA,eB]at S;rw[aH1<|dR8 rp hn rg m1 l1 k1 h1 hd S];exact q
 have a0:A 0 0=k*m:=by rw[eA];rfl
 have b0:B 0 0=h*l:=by rw[eB];rfl
 rw[<-eA,<-eB];clear q eA eB;unfold a47;show(aX _ _:US) _ [some<|.pu<|jT C p,some<|.pu<|.tup<|tbF n n A,some<|.pu<|.tup<|tbF n n B,none];rw[aZ,sE];unfold b01;left;have snoc: ∀i j,j<n->b71 p n A B (i*n+(j+1))=b71 p n A B (i*n+j)++[rwF n<|gE p n (A i)<|B j]:=λi j hj=>by
  unfold b71;rw[<-oE,cB,cJ,a17 i n];show _++[rwF n<|gE p n (A<|(n*i+j)/n)<|B<|(n*i+j)%n]=_;rw[Nat.mul_add_div ad,Nat.mul_add_mod,Nat.div_eq_of_lt hj,aP0 hj,a21]
 have len: ∀i,i<=n*n->((b71 p n A B i).map aS).length<=16:=λi hi=>by
  unfold b71;rw[aO,aO,uQ];exact aM hi (i4 n4 n4)
 refine⟨λi ρ'=> ∃x y,ρ'=[x,y,some<|.pu<|jT C p,some<|.pu<|.tup<|tbF n n B,some<|.ow<|(b71 p n A B<|i*n).map aS],⟨none,none,by rw[Nat.zero_mul];rfl⟩,?_,?_⟩
 .rintro i ρ' hi ⟨x,y,rfl⟩;rw[j7]at hi;rw[aC6 hi];refine⟨cO _,?_⟩;unfold dN0 uPut;left;refine⟨λj ρ'=> ∃y,ρ'=[some<|.pu<|aS<|rwF n<|A i,y,some<|.pu<|jT C p,some<|.pu<|.tup<|tbF n n B,some<|.ow<|(b71 p n A B<|i*n+j).map aS],⟨y,rfl⟩,?_,?_⟩
  .rintro j ρ' hj ⟨y,rfl⟩;rw[j7]at hj;rw[aC6 hj];left;have lt:i*n+j<n*n:=by
    have:(i+1)*n<=n*n:=qO n hi;rw[Nat.add_mul]at this
    lia
   refine⟨aM9 rfl,C,p,n,210,A i,B j,rfl,rp,hn,ac,bA i,bB j,qU (len _<|oG lt) ac,some<|.pu<|aS<|rwF n<|B j,?_⟩
   rw[snoc i j hj,cJ];rfl
  .rintro ρ' ⟨y,rfl⟩;rw[j7];exact⟨_,_,by rw[Nat.add_mul,one_mul]⟩
 .rintro ρ' ⟨x,y,rfl⟩;rw[j7];show xT _ [some<|.pu<|jT C p,some<|.pu<|.tup<|tbF n n A,some<|.pu<|.tup<|tbF n n B,some<|.ow<|(b71 p n A B<|n*n).map aS];unfold xT;rw[j6,eU,eP,wO (C:=C) (p:=p) rfl];left;have z:((0:Nat):Int)=0:=rfl;rw[<-z,bD5<|show 0<n by lia,bD5<|show 0<n by lia]
  simp only[aS];rw[oM<|show 0<n by lia,oM<|show 0<n by lia,a0,b0,show(p.length:Int)-1=(n:Int)by lia]
  have sA:(k*m).natAbs<=2^210:=a0▸bA 0 0;have sB:(h*l).natAbs<=2^210:=b0▸bB 0 0;have km:1<=k*m:=kK k1 m1;have hl:1<=h*l:=kK h1 l1;refine⟨.inr ⟨nP sA ac,nP sB ac⟩,n,k*m*(h*l),b71 p n A B<|n*n,rfl,ad,ad,kK km hl,?_,⟨λx hx=> ?_,λx hx y hy=> ?_,?_⟩,key⟩
  .rw[p6'];have:=fV sA sB;have:2^210*2^210<=2^600:=ac
   lia
  .obtain⟨c,_,rfl⟩:=fB.mp hx;exact aG5 _ _
  .obtain⟨c,_,rfl⟩:=fB.mp hx;obtain⟨j,_,rfl⟩:=fB.mp hy;exact aM (cJ2 n4 rp.ok.small (bA _) (bB _) j) ac
  .have:=len (n*n) (aG _);rw[aO]at this
   lia
theorem bH0: ∀t:List (List Int),pdL (t.map aS)=some (t.map λr=>PyData.tuple (r.map .int))
 | []=>by simp[pdL]
 | r::t=>by simp[pdL,cI1,bH0 t]
theorem c96: ∀t:List (List Int),PyData.depthAll (t.map λr=>PyData.tuple (r.map .int))<=1
 | []=>by simp[PyData.depthAll]
 | r::t=>by
  have:=c96 t;simp[PyData.depthAll,PyData.depth,bD6];omega
theorem c97: ∀t:List (List Int),PyData.eqvAll (t.map λr=>PyData.tuple (r.map .int)) (t.map λr=>PyData.tuple (r.map .int))=true
 | []=>by simp[PyData.eqvAll]
 | r::t=>by
  have e:=cO8 r r;rw[iJ rfl]at e;simp only[cR,PyData.eqvAll,e,c97 t,Bool.and_self]
theorem aW4 {neg:Bool}{T:Nat->Nat->Int}{Q:B->Prop}(h:Q (.pu<|.bl<|neg ^^ true)):bV8 neg (.tup<|tbF n n T) (.tup<|tbF n n T) Q:=by
 rw[<-dD0];generalize tbL n T=t;refine⟨.tuple<|t.map λr=>PyData.tuple (r.map .int),.tuple<|t.map λr=>PyData.tuple (r.map .int),by simp[pd,bH0],by simp[pd,bH0],?_,?_⟩
 .have:=c96 t;simp[PyData.depth];omega
 .simp only[PyData.eqv];rw[c97];exact h
def c98:US:=(dQ<|cM9 (uOp (bV8 false) (aU mT<|aC (aF 1)<|aC (aF 9)<|aC (aF 13) aR)<|aF 9)<|uOp (bV8 false) (aU mT<|aC (aF 1)<|aC (aF 13)<|aC (aF 10) aR)<|aF 10)
def c99:US:=(aX (bV 13<|aU uD<|aC (aF 3)<|aC (uC<|.int 1)<|aC (uC<|.int 0) aR) c98)
def cA0:US:=(aX (iU (uOr (cU5<|fO<|aU aC9<|aC (aF 12)<|aC (aF 3) aR)<|uOr (fO<|uOp (bV8 true) (aF 12)<|aF 11)<|fO<|uOp (bV8 true) (aU mT<|aC (aF 1)<|aC (aF 10)<|aC (aF 9) aR)<|aF 11) (dQ<|uC<|.bl false) fT) c99)
def cA1:US:=(aX (bV 12<|aU mT<|aC (aF 1)<|aC (aF 9)<|aC (aF 10) aR) cA0)
def cA2:US:=(aX (bV 11<|aU aD1<|aC (aU uD<|aC (aF 3)<|aC (uOp fS (aF 7)<|aF 8)<|aC (aF 5) aR)<|aC (uOp fS (uOp iV (uC<|.int 1)<|uIx (b7 4)<|uC<|.int 6)<|uOp iV (uC<|.int 1)<|uIx (b7 4)<|uC<|.int 7) aR) cA1)
def cA3:US:=(aX (bV 10<|aU aD1<|aC (aU uD<|aC (aF 3)<|aC (aF 8)<|aC (aF 5) aR)<|aC (uOp iV (uC<|.int 1)<|uIx (b7 4)<|uC<|.int 7) aR) cA2)
def bZ5:US:=(aX (bV 9<|aU aD1<|aC (aU uD<|aC (aF 3)<|aC (aF 7)<|aC (aF 5) aR)<|aC (uOp iV (uC<|.int 1)<|uIx (b7 4)<|uC<|.int 6) aR) cA3)
def cR0:US:=(aX (bV 8<|aU b97<|aC (uOp aI5 (aF 6)<|aF 7)<|aC (uIx (b7 4)<|uC<|.int 4)<|aC (uIx (b7 4)<|uC<|.int 5) aR) bZ5)
def cR1:US:=(aX (bV 7<|aU b97<|aC (aF 6)<|aC (uIx (b7 4)<|uC<|.int 2)<|aC (uIx (b7 4)<|uC<|.int 3) aR) cR0)
def bZ6:US:=(aX (bV 6<|aU cF5<|aC (aU b22<|aC (aF 2)<|aC (aF 5) aR) aR) cR1)
def cR2:US:=(aX (iU (fO<|uOp (lQ false) (uIx (b7 4)<|uC<|.int 0)<|uC<|.int 7) (bV 5<|uOp M.gSub (uIx (b7 4)<|uC<|.int 8)<|uOp fS (uC<|.int 5)<|uOp b63 (uC<|.int 10)<|uC<|.int 7) fT) bZ6)
def cR3:US:=(aX (bV 5<|uOp M.gSub (uIx (b7 4)<|uC<|.int 1)<|uC<|.int 200) cR2)
def cR4:US:=(aX (bV 4<|aU sN<|aC (aU aU2<|aC (aF 0)<|aC (uC<|.int 3) aR)<|aC (n6<|aC (uC<|.int 8)<|aC (uC<|.int 401)<|aC (uC<|.int 4)<|aC (uOp b63 (uC<|.int 10)<|uC<|.int 4)<|aC (uC<|.int 3)<|aC (uOp b63 (uC<|.int 10)<|uC<|.int 4)<|aC (uC<|.int 12)<|aC (uC<|.int 12)<|aC (uOp b63 (uC<|.int 10)<|uC<|.int 8) aR)<|aC (uC<|.int 999999929) aR) cR3)
def cR5:US:=(aX (bV 3<|uOp M.gSub (nL<|b7 2)<|uC<|.int 1) cR4)
def cR6:US:=(aX (bV 2<|bC4 "poly"<|aF 1) cR5)
def bZ7:US:=(aX (bV 1<|aU bY6<|aC (aF 0)<|aC (uC<|.int 0)<|aC (uC<|.int 999999937) aR) cR6)
def Nine (xs:List Int):Prop:= ∃d0 d1 d2 d3 d4 d5 d6 d7 d8:Int,xs=[d0,d1,d2,d3,d4,d5,d6,d7,d8]/\(0<=d1/\d1<401)/\(0<=d3/\d3<10000)/\(0<=d5/\d5<10000)/\(0<=d6/\d6<12)/\(0<=d7/\d7<12)/\(0<=d8/\d8<100000000)
theorem dS1 {xs:List Int}(h:Below xs [8,401,4,10000,3,10000,12,12,100000000]):Nine xs:=by
 match xs,h.1 with
 | [d0,d1,d2,d3,d4,d5,d6,d7,d8],_=>exact⟨d0,d1,d2,d3,d4,d5,d6,d7,d8,rfl,h.2 1 d1 401 rfl rfl,h.2 3 d3 10000 rfl rfl,h.2 5 d5 10000 rfl rfl,h.2 6 d6 12 rfl rfl,h.2 7 d7 12 rfl rfl,h.2 8 d8 100000000 rfl rfl⟩
theorem bZ8 {d0 d1 d2 d3 d4 d5 d6 d7 d8:Int}:atI [D.int d0,.int d1,.int d2,.int d3,.int d4,.int d5,.int d6,.int d7,.int d8] 0=some (.int d0)/\atI [D.int d0,.int d1,.int d2,.int d3,.int d4,.int d5,.int d6,.int d7,.int d8] 1=some (.int d1)/\atI [D.int d0,.int d1,.int d2,.int d3,.int d4,.int d5,.int d6,.int d7,.int d8] 2=some (.int d2)/\atI [D.int d0,.int d1,.int d2,.int d3,.int d4,.int d5,.int d6,.int d7,.int d8] 3=some (.int d3)/\atI [D.int d0,.int d1,.int d2,.int d3,.int d4,.int d5,.int d6,.int d7,.int d8] 4=some (.int d4)/\atI [D.int d0,.int d1,.int d2,.int d3,.int d4,.int d5,.int d6,.int d7,.int d8] 5=some (.int d5)/\atI [D.int d0,.int d1,.int d2,.int d3,.int d4,.int d5,.int d6,.int d7,.int d8] 6=some (.int d6)/\atI [D.int d0,.int d1,.int d2,.int d3,.int d4,.int d5,.int d6,.int d7,.int d8] 7=some (.int d7)/\atI [D.int d0,.int d1,.int d2,.int d3,.int d4,.int d5,.int d6,.int d7,.int d8] 8=some (.int d8):=
 ⟨cG (j:=0) rfl,cG (j:=1) rfl,cG (j:=2) rfl,cG (j:=3) rfl,cG (j:=4) rfl,cG (j:=5) rfl,cG (j:=6) rfl,cG (j:=7) rfl,cG (j:=8) rfl⟩
theorem ev_not (hn:p.length=n+1)(irr: ¬Red p)(r:Int):ps (fOf p) r (n+1)≠0:=λe=>irr (.inl ⟨r,by unfold ev;rw[hn];exact e⟩)
theorem dS2 {Q:B->Prop}{d0 d1 d2 d3 d4 d5 d6 d7 d8 v l:Int}(rp:eV p)(hn:p.length=n+1)(rg:RG p)(h:Q (.pu<|.bl true))(h6:0<=d6/\d6<12)(h7:0<=d7/\d7<12)(hr:r.natAbs<=2^30)(m1:1<=m)(l1:1<=l)(m2:m.natAbs<=2^200)(l2:l.natAbs<=2^200)(hd:m*l∣ps (fOf p) r (n+1)) :
  bZ5 {nx:=λ_=>Q (.pu .non),rt:=Q} [some<|.pu<|.rol<|ns.map .int,some<|.pu<|jT C p,some<|.pu<|aS p,some<|.pu<|.int (n:Int),some<|.ow [.int d0,.int d1,.int d2,.int d3,.int d4,.int d5,.int d6,.int d7,.int d8],some<|.pu<|.int r,some<|.pu<|.int v,some<|.pu<|.int m,some<|.pu<|.int l,none,none,none,none,none]:=by
 have lo:=rp.ok.lo;have hi:=rp.ok.hi;obtain⟨a0,a1,a2,a3,a4,a5,a6,a7,a8⟩:= @bZ8 d0 d1 d2 d3 d4 d5 d6 d7 d8;have ml:=kK m1 l1;unfold bZ5;left;refine⟨n,m,r,rfl,ad,ad,m1,hr,?_⟩
 left
 rw[a6];left;refine⟨n,knT m r,1+d6,rfl,ad,ad,ad,?_⟩
 left
 unfold cA3;left;refine⟨n,l,r,rfl,ad,ad,l1,hr,?_⟩
 left
 rw[a7];left;refine⟨n,knT l r,1+d7,rfl,ad,ad,ad,?_⟩
 left
 unfold cA2;left;refine⟨.inr ⟨nP m2 ac,nP l2 ac⟩,n,m*l,r,rfl,ad,ad,ml,hr,?_⟩
 left
 rw[a6,a7];have k12:(1+d6)*(1+d7)<=12*12:=rA ad ad ad ac
 have k11:0<=(1+d6)*(1+d7):=lM ad ad
 left
 refine⟨cmL ad ad,n,knT (m*l) r,(1+d6)*(1+d7),rfl,ad,k11,ad,?_⟩
 left
 unfold cA1;left;refine⟨C,p,n,m,l,1+d6,1+d7,r,rfl,rp,hn,rg,m1,l1,ad,ad,m2,l2,ad,ad,hd,?_⟩
 left
 unfold cA0;left;refine⟨n,_,rfl,ad,?_⟩
 left
 (try rw[a9 ac])
 refine aW4 ?_
 (try dsimp only)
 (try rw[a9 ac])
 refine⟨C,p,n,l,m,1+d7,1+d6,r,rfl,rp,hn,rg,l1,m1,ad,ad,l2,m2,ad,ad,by rw[dZ];exact hd,?_⟩
 rw[dZ (1+d7)<|1+d6,dZ l m];refine aW4 ?_
 (try dsimp only)
 (try rw[a9 ac])
 unfold c99;left;refine⟨n,1,0,rfl,ad,ad,ac,ac,?_⟩
 left
 unfold c98;left;have one:D.tup (tbF n n λi j=>1*knT 1 r i j)=knD n 1 0:=by
  unfold knD;rw[dS0 0 r]
  congr 1
  exact aH1 λi _ j _=>jM _
 refine⟨C,p,n,m,1,1+d6,1,r,by rw[one],rp,hn,rg,m1,ac,ad,ac,m2,ac,ad,ac,by rw[fX];exact gN (uS ..) hd,?_⟩
 rw[fX,fX];refine aW4 ?_
 (try dsimp only)
 (try rw[aA ac])
 refine⟨C,p,n,1,l,1,1+d7,r,by rw[one],rp,hn,rg,ac,l1,ac,ad,ac,l2,ac,ad,by rw[jM];exact gN (Int.dvd_mul_left ..) hd,?_⟩
 rw[jM,jM];refine aW4 ?_;exact h
theorem cR7 {Q:B->Prop}{d0 d1 d2 d3 d4 d5 d6 d7 d8:Int}(rp:eV p)(hn:p.length=n+1)(rg:RG p)(h:Q (.pu<|.bl true))(h3:0<=d3/\d3<10000)(h5:0<=d5/\d5<10000)(h6:0<=d6/\d6<12)(h7:0<=d7/\d7<12)(hr:r.natAbs<=2^30) :
  bZ6 {nx:=λ_=>Q (.pu .non),rt:=Q} [some<|.pu<|.rol<|ns.map .int,some<|.pu<|jT C p,some<|.pu<|aS p,some<|.pu<|.int (n:Int),some<|.ow [.int d0,.int d1,.int d2,.int d3,.int d4,.int d5,.int d6,.int d7,.int d8],some<|.pu<|.int r,none,none,none,none,none,none,none,none]:=by
 have lo:=rp.ok.lo;have hi:=rp.ok.hi;have rf:=rp.rf;rw[hn,cN]at rf;obtain⟨a0,a1,a2,a3,a4,a5,a6,a7,a8⟩:= @bZ8 d0 d1 d2 d3 d4 d5 d6 d7 d8;have ok:dA2 (n+1) 9 30 (fOf p) r:=⟨rf.fb,hr,by have:=rf.n4;lia,ac,by have:=rf.n4;lia⟩
 unfold bZ6;left;have er:=rp.row;rw[hn,cN]at er;refine⟨n+1,9,30,fOf p,r,by rw[er],ok,?_⟩
 left
 rw[absJ];have v0:=ev_not hn rg.irr r;have v1:(ps (fOf p) r<|n+1).natAbs<=2^200:=by
  have:=aG7 (n:=n+1) ok.fb ok.zb (n+1);rw[bY0]at this;exact aM this (lH ac (by have:=rf.n4;lia))
 have vd:((ps (fOf p) r<|n+1).natAbs:Int)∣ps (fOf p) r (n+1):=Int.natAbs_dvd.mpr (kJ _);unfold cR1;left;rw[a2,a3];left;refine⟨_,d2,d3,rfl,ad,h3.1,ad,λm m1 md=> ?_⟩
 have m2:m.natAbs<=2^200:=by
  have:=oF ad md
  lia
 left
 unfold cR0;left;rw[a4,a5];left;rw[kO _ ad]
 obtain⟨w,hw⟩:=md;have w0:0<w:=by
  rcases Int.lt_or_le 0 w with c|c
  .exact c
  .have:=Int.mul_nonpos_of_nonneg_of_nonpos (show 0<=m by lia) c
   lia
 have w1:w<=m*w:=by
  have:=Int.mul_le_mul_of_nonneg_right m1 (show 0<=w by lia)
  lia
 rw[hw,zO w ad]
 refine⟨⟨ad,?_⟩,w,d4,d5,rfl,w0,h5.1,ad,λl l1 ld=> ?_⟩
 .exact nP m2 ac
 .have l2:=oF w0 ld;left;exact dS2 rp hn rg h h6 h7 hr m1 l1 m2 ad (gN (gN (Int.mul_dvd_mul_left m ld)<|hw▸kJ _) vd)
theorem rd_law: ∀ds Q,bP2 ds Q->bZ7 {nx:=λ_=>Q (.pu .non),rt:=Q} (init ["s","r","p","n","d","z","v","m","l","o","t","u","f","w"] ds):=by
 rintro ds Q ⟨ns,rfl,hns,h⟩;unfold bZ7;show(aX _ _:US) _ [some<|.pu<|.rol<|ns.map .int,none,none,none,none,none,none,none,none,none,none,none,none,none];rw[aZ];left;refine⟨ns,0,999999937,rfl,hns,ac,ac,λC p rp rg=> ?_⟩
 try dsimp only
 have lo:=rp.ok.lo;have hi:=rp.ok.hi;obtain⟨n,hn⟩: ∃n,p.length=n+1:=⟨p.length-1,ad⟩
 have rf:=rp.rf;rw[hn,cN]at rf;unfold cR6;rw[aZ,sE,bR7 (C:=C) (p:=p) rfl];dsimp only[List.set];unfold cR5;simp only[aS];left;rw[aO,hn,show((n+1:Nat):Int)-1=(n:Int)by lia]
 unfold cR4;left;refine⟨ns,3,rfl,hns,ac,ac,λc=> ?_⟩
 left
 refine⟨cpl ac ac ac,cpl ac ac ac,cpl ac ac ac,ac,c,[8,401,4,10000,3,10000,12,12,100000000],999999929,rfl,ac,ac,ac,λxs hx=> ?_⟩
 obtain⟨d0,d1,d2,d3,d4,d5,d6,d7,d8,rfl,h1,h3,h5,h6,h7,h8⟩:=dS1 hx;obtain⟨a0,a1,a2,a3,a4,a5,a6,a7,a8⟩:= @bZ8 d0 d1 d2 d3 d4 d5 d6 d7 d8;unfold cR3;simp only[cR,jI];left;rw[a1];left;unfold cR2;left;rw[a0];left
 by_cases c0:d0=7
 .rw[aA c0,a8];left;refine⟨cpl ac ac ac,cmL ac ac,?_⟩
  exact cR7 rp hn rg h h3 h5 h6 h7 ad
 .rw[a9 c0];exact cR7 rp hn rg h h3 h5 h6 h7 ad
abbrev qG:=tD
abbrev qH:=tE
theorem a86: ∀ds Q,qG ds Q->qH {nx:=λ_=>Q (.pu .non),rt:=Q} (init ["f","p","u","s","total","v","w"] ds):=b69
theorem cY7:bootBuiltins "sorted"=some (.builtin "sorted"):=af
end M
end
namespace M
set_option maxHeartbeats 4000000
def top (i:Nat):Stmt:=PySem.Challenge.pw_ringhouse_k33_products_known.main.body.getD i (.Pass ⟨0,0,0,0⟩)
def nk:NameKind->Bool
 | .local=>true
 | .cell=>true
 | _=>false
def nm (s:Stmt):List Str:=((aJ s).names.filter λx=>nk x.2).map (·.1)
def pm (s:Stmt):List Str:=(nm s).take (jQ s).args.length
abbrev aW5:Stmt:=top 8
abbrev cR8:List Str:=nm aW5
abbrev cA4:List Str:=pm aW5
abbrev vV:Stmt:=top 9
abbrev bH1:List Str:=nm vV
abbrev b56:List Str:=pm vV
abbrev kP:Stmt:=top 10
abbrev a79:List Str:=nm kP
abbrev zA:List Str:=pm kP
abbrev sS:Stmt:=top 11
abbrev b57:List Str:=nm sS
abbrev aW6:List Str:=pm sS
abbrev aH4:Stmt:=top 13
abbrev cR9:List Str:=nm aH4
abbrev jU:List Str:=pm aH4
abbrev oZ:Stmt:=top 14
abbrev aD2:List Str:=nm oZ
abbrev aW7:List Str:=pm oZ
abbrev uE:Stmt:=top 16
abbrev b25:List Str:=nm uE
abbrev bH2:List Str:=pm uE
abbrev pA:Stmt:=top 17
abbrev aD3:List Str:=nm pA
abbrev aW8:List Str:=pm pA
abbrev pO:Stmt:=top 18
abbrev aW9:List Str:=nm pO
abbrev aK0:List Str:=pm pO
abbrev nQ:Stmt:=top 21
abbrev aK1:List Str:=nm nQ
abbrev aD4:List Str:=pm nQ
abbrev aD5:Stmt:=top 22
abbrev cA5:List Str:=nm aD5
abbrev bS6:List Str:=pm aD5
abbrev jV:Stmt:=top 23
abbrev zB:List Str:=nm jV
abbrev wT:List Str:=pm jV
abbrev aH5:Stmt:=top 25
abbrev b26:List Str:=["k","m","rows","triangle","row","table","i"]
abbrev bH3:List Str:=["k","m","rows"]
abbrev pP:Stmt:=top 26
abbrev aX0:List Str:=nm pP
abbrev aK2:List Str:=pm pP
abbrev uF:Stmt:=top 27
abbrev b27:List Str:=nm uF
abbrev bH4:List Str:=pm uF
abbrev zC:Stmt:=top 28
abbrev bH5:List Str:=nm zC
abbrev bS7:List Str:=pm zC
abbrev pB:Stmt:=top 30
abbrev aD6:List Str:=nm pB
abbrev aX1:List Str:=pm pB
abbrev iD:Stmt:=top 33
abbrev rQ:List Str:=nm iD
abbrev wU:List Str:=pm iD
abbrev iP:Stmt:=top 34
abbrev vW:List Str:=nm iP
abbrev tU:List Str:=pm iP
abbrev zD:Stmt:=top 36
abbrev bS8:List Str:=nm zD
abbrev bH6:List Str:=pm zD
abbrev pQ:Stmt:=top 37
abbrev aX2:List Str:=nm pQ
abbrev aK3:List Str:=pm pQ
abbrev jA:Stmt:=top 38
abbrev wV:List Str:=nm jA
abbrev vX:List Str:=pm jA
abbrev hJ:Stmt:=top 39
abbrev sT:List Str:=nm hJ
abbrev qI:List Str:=pm hJ
abbrev pR:Stmt:=top 41
abbrev aX3:List Str:=nm pR
abbrev aK4:List Str:=pm pR
abbrev pC:Stmt:=top 43
abbrev aD7:List Str:=nm pC
abbrev aX4:List Str:=pm pC
abbrev kS:Stmt:=top 44
abbrev xU:List Str:=nm kS
abbrev aD8:List Str:=pm kS
abbrev mU:Stmt:=top 46
abbrev a48:List Str:=nm mU
abbrev aK5:List Str:=pm mU
abbrev lZ:Stmt:=top 47
abbrev aD9:List Str:=nm lZ
abbrev a80:List Str:=pm lZ
abbrev rR:Stmt:=top 48
abbrev aR1:List Str:=nm rR
abbrev b58:List Str:=pm rR
abbrev mC:Stmt:=top 49
abbrev aE0:List Str:=nm mC
abbrev a81:List Str:=pm mC
abbrev pS:Stmt:=top 51
abbrev aX5:List Str:=nm pS
abbrev aK6:List Str:=pm pS
abbrev nR:Stmt:=top 52
abbrev aK7:List Str:=nm nR
abbrev aE1:List Str:=pm nR
abbrev gU:Stmt:=top 53
abbrev oP:List Str:=nm gU
abbrev tV:List Str:=pm gU
abbrev hV:Stmt:=top 54
abbrev sU:List Str:=nm hV
abbrev qJ:List Str:=pm hV
abbrev kT:Stmt:=top 57
abbrev xV:List Str:=nm kT
abbrev aE2:List Str:=pm kT
abbrev mV:Stmt:=top 58
abbrev a49:List Str:=nm mV
abbrev aK8:List Str:=pm mV
abbrev jW:Stmt:=top 59
abbrev vY:List Str:=nm jW
abbrev a82:List Str:=pm jW
abbrev fZ:Stmt:=top 63
abbrev wW:List Str:=nm fZ
abbrev vZ:List Str:=pm fZ
abbrev hZ:Stmt:=top 64
abbrev w6:List Str:=nm hZ
abbrev a83:List Str:=pm hZ
abbrev bH7:Stmt:=top 66
abbrev dF3:List Str:=nm bH7
abbrev cS0:List Str:=pm bH7
abbrev aX6:Stmt:=top 67
abbrev cS1:List Str:=nm aX6
abbrev cA6:List Str:=pm aX6
abbrev aX7:Stmt:=top 68
abbrev cS2:List Str:=nm aX7
abbrev cA7:List Str:=pm aX7
abbrev zE:Stmt:=top 69
abbrev bS9:List Str:=nm zE
abbrev bH8:List Str:=pm zE
abbrev b28:Stmt:=top 70
abbrev cK2:List Str:=nm b28
abbrev cS3:List Str:=pm b28
abbrev pT:Stmt:=top 71
abbrev aX8:List Str:=nm pT
abbrev aK9:List Str:=pm pT
abbrev bH9:Stmt:=top 72
abbrev dF4:List Str:=nm bH9
abbrev cS4:List Str:=pm bH9
abbrev zF:Stmt:=top 73
abbrev bT0:List Str:=nm zF
abbrev bI0:List Str:=pm zF
abbrev aE3:Stmt:=top 74
abbrev cA8:List Str:=nm aE3
abbrev bT1:List Str:=pm aE3
abbrev aE4:Stmt:=top 75
abbrev cA9:List Str:=nm aE4
abbrev bT2:List Str:=pm aE4
abbrev aX9:Stmt:=top 76
abbrev cS5:List Str:=nm aX9
abbrev cB0:List Str:=pm aX9
abbrev bT3:Stmt:=top 77
abbrev dF5:List Str:=nm bT3
abbrev dF6:List Str:=pm bT3
abbrev rS:Stmt:=top 78
abbrev aR2:List Str:=nm rS
abbrev b59:List Str:=pm rS
abbrev aH6:Stmt:=top 79
abbrev bZ9:List Str:=nm aH6
abbrev cB1:List Str:=pm aH6
abbrev bI1:Stmt:=top 80
abbrev dF7:List Str:=nm bI1
abbrev cS6:List Str:=pm bI1
abbrev aY0:Stmt:=top 81
abbrev dV9:List Str:=nm aY0
abbrev PP_law:List Str:=pm aY0
local macro_rules| `(tactic| walk_at "s")=> `(tactic| exact⟨rfl,rfl,rfl,by decide +kernel,rfl,by decide +kernel,by decide +kernel⟩)
theorem bI2:b9 cR8 cA4 (aJ aW5):=by walk_at "s"
theorem cB2:b9 bH1 b56 (aJ vV):=by walk_at "s"
theorem eS:b9 a79 zA (aJ kP):=by walk_at "s"
theorem u6:b9 b57 aW6 (aJ sS):=by walk_at "s"
theorem pU:b9 cR9 jU (aJ aH4):=by walk_at "s"
theorem c00:b9 aD2 aW7 (aJ oZ):=by walk_at "s"
theorem aR3:b9 b25 bH2 (aJ uE):=by walk_at "s"
theorem a50:b9 aD3 aW8 (aJ pA):=by walk_at "s"
theorem xW:b9 aW9 aK0 (aJ pO):=by walk_at "s"
theorem iQ:b9 aK1 aD4 (aJ nQ):=by walk_at "s"
theorem zG:b9 cA5 bS6 (aJ aD5):=by walk_at "s"
theorem aY1:b9 zB wT (aJ jV):=by walk_at "s"
theorem oQ:b9 b26 bH3 (aJ aH5):=by walk_at "s"
theorem gY:b9 aX0 aK2 (aJ pP):=by walk_at "s"
theorem cK3:b9 b27 bH4 (aJ uF):=by walk_at "s"
theorem zH:b9 bH5 bS7 (aJ zC):=by walk_at "s"
theorem aY2:b9 aD6 aX1 (aJ pB):=by walk_at "s"
theorem aY3:b9 rQ wU (aJ iD):=by walk_at "s"
theorem aI9:b9 vW tU (aJ iP):=by walk_at "s"
theorem aR4:b9 bS8 bH6 (aJ zD):=by walk_at "s"
theorem xX:b9 aX2 aK3 (aJ pQ):=by walk_at "s"
theorem oR:b9 wV vX (aJ jA):=by walk_at "s"
theorem gI:b9 sT qI (aJ hJ):=by walk_at "s"
theorem xY:b9 aX3 aK4 (aJ pR):=by walk_at "s"
theorem a51:b9 aD7 aX4 (aJ pC):=by walk_at "s"
theorem jX:b9 xU aD8 (aJ kS):=by walk_at "s"
theorem bM1:b9 a48 aK5 (aJ mU):=by walk_at "s"
theorem kQ:b9 aD9 a80 (aJ lZ):=by walk_at "s"
theorem cB3:b9 aR1 b58 (aJ rR):=by walk_at "s"
theorem nT:b9 aE0 a81 (aJ mC):=by walk_at "s"
theorem xZ:b9 aX5 aK6 (aJ pS):=by walk_at "s"
theorem iR:b9 aK7 aE1 (aJ nR):=by walk_at "s"
theorem tW:b9 oP tV (aJ gU):=by walk_at "s"
theorem fH:b9 sU qJ (aJ hV):=by walk_at "s"
theorem bI3:b9 xV aE2 (aJ kT):=by walk_at "s"
theorem bM2:b9 a49 aK8 (aJ mV):=by walk_at "s"
theorem iY:b9 vY a82 (aJ jW):=by walk_at "s"
theorem w8:b9 wW vZ (aJ fZ):=by walk_at "s"
theorem nU:b9 w6 a83 (aJ hZ):=by walk_at "s"
theorem dS3:b9 dF3 cS0 (aJ bH7):=by walk_at "s"
theorem bI4:b9 cS1 cA6 (aJ aX6):=by walk_at "s"
theorem zI:b9 cS2 cA7 (aJ aX7):=by walk_at "s"
theorem a52:b9 bS9 bH8 (aJ zE):=by walk_at "s"
theorem aH7:b9 cK2 cS3 (aJ b28):=by walk_at "s"
theorem y8:b9 aX8 aK9 (aJ pT):=by walk_at "s"
theorem aH8:b9 dF4 cS4 (aJ bH9):=by walk_at "s"
theorem bI5:b9 bT0 bI0 (aJ zF):=by walk_at "s"
theorem aH9:b9 cA8 bT1 (aJ aE3):=by walk_at "s"
theorem uG:b9 cA9 bT2 (aJ aE4):=by walk_at "s"
theorem dF8:b9 cS5 cB0 (aJ aX9):=by walk_at "s"
theorem sc_row:b9 dF5 dF6 (aJ bT3):=by walk_at "s"
theorem cB4:b9 aR2 b59 (aJ rS):=by walk_at "s"
theorem dF9:b9 bZ9 cB1 (aJ aH6):=by walk_at "s"
theorem dS4:b9 dF7 cS6 (aJ bI1):=by walk_at "s"
theorem oS:b9 dV9 PP_law (aJ aY0):=by walk_at "s"
abbrev pV:Stmt:=(bX2<|top 3).getD 0 (.Pass ⟨0,0,0,0⟩)
theorem bM3:b9 ["self","left","right"] ["self","left","right"] (aJ pV):=by walk_at "s"
abbrev wA:Stmt:=(bX2<|top 5).getD 0 (.Pass ⟨0,0,0,0⟩)
theorem cB5:b9 ["self","prime","number"] ["self","prime","number"] (aJ wA):=by walk_at "s"
abbrev aE5:Stmt:=(bX2<|top 62).getD 0 (.Pass ⟨0,0,0,0⟩)
theorem cS7:b9 ["self","poly","size"] ["self","poly"] (aJ aE5):=by walk_at "s"
structure Zs (mg:Str->Option Value):Prop where
 z0:mg "len"=none
 z1:mg "max"=none
 z2:mg "list"=none
 z3:mg "reversed"=none
 z4:mg "range"=none
 z5:mg "enumerate"=none
 z6:mg "tuple"=none
 z7:mg "sum"=none
 z8:mg "zip"=none
 z9:mg "all"=none
 z10:mg "abs"=none
 z11:mg "min"=none
 z12:mg "sorted"=none
 z13:mg "isinstance"=none
 z14:mg "int"=none
 z15:mg "bool"=none
abbrev DT (P:Program)(w:World)(K:Frag)(mg:Str->Option Value)(base:Heap)(N:List Str)(q:Str)(t:Stmt)(k:Nat)(u:US):Prop:= ∀{f:Addr} {cdv:Value} {A:Around} {outer:List Env} {s:Shared} {H:Hp} {E:XK},i8 k (A.deeper<|envOfC q (aJ t) s.heap.objs.size f cdv)->sW (v9 CX0 P w K mg base N q (aJ t) f cdv A outer s H E).nox (eG t) u
section
variable (P:Program)(w:World)(K:Frag)(mg:Str->Option Value)(base:Heap)
abbrev cB6:=Fn P w K mg base "cut" cA4 1 aA4
abbrev cB7:=Fn P w K mg base "padded" b56 1 aB8
abbrev mW:=Fn P w K mg base "poly_parted" zA 2 gT
abbrev aY4:=Fn P w K mg base "poly_at" aW6 1 u4
abbrev dG0:=Fn P w K mg base "det" jU 5 (hG 4)
abbrev c01:=Fn P w K mg base "without" aW7 1 a35
abbrev cK4:=Fn P w K mg base "times" bH2 3 aQ3
abbrev c02:=Fn P w K mg base "t_times" aW8 1 a42
abbrev bM4:=Fn P w K mg base "table_of" aK0 2 xM
abbrev bI6:=Fn P w K mg base "shared_by" aD4 1 vP
abbrev cY8:=Fn P w K mg base "root" bS6 1 b13
abbrev wX:=Fn P w K mg base "small_primes" wT 1 l6
abbrev cK5:=Fn P w K mg base "stair" bH3 3 aQ8
abbrev bM5:=Fn P w K mg base "taken_in" aK2 2 xQ
abbrev cK6:=Fn P w K mg base "mixed" bH4 1 a45
abbrev cY9:=Fn P w K mg base "rest" bS7 1 b17
abbrev c03:=Fn P w K mg base "product" aX1 4 mT
abbrev aY5:=Fn P w K mg base "is_ring_poly" wU 1 pJ
abbrev nI:=Fn P w K mg base "need_ring_poly" tU 2 i7
abbrev cK7:=Fn P w K mg base "apart" bH6 4 aQ0
abbrev aL0:=Fn P w K mg base "dividers" aK3 1 sF
abbrev aR5:=Fn P w K mg base "line_and_rest" vX 3 oN
abbrev a87:=Fn P w K mg base "two_by_two_apart" qI 3 kW
abbrev bM6:=Fn P w K mg base "two_with" aK4 2 xK
abbrev c04:=Fn P w K mg base "measure" aX4 6 a38
abbrev bI7:=Fn P w K mg base "root_sums" aD8 1 vF
abbrev y9:=Fn P w K mg base "mod_poly" aK5 2 jO
abbrev b72:=Fn P w K mg base "mod_parted" a80 4 t7
abbrev cB8:=Fn P w K mg base "scaled" b58 3 wN
abbrev b73:=Fn P w K mg base "inverse_of" a81 1 sY
abbrev bM7:=Fn P w K mg base "split_by" aK6 6 xF
abbrev bI8:=Fn P w K mg base "lines_out" aE1 5 vK
abbrev aJ0:=Fn P w K mg base "rootless_parts" tV 2 nE
abbrev a88:=Fn P w K mg base "two_by_two_split" qJ 1 qG
abbrev bI9:=Fn P w K mg base "papers_of" aE2 8 vM
abbrev bM8:=Fn P w K mg base "parts_at" aK8 7 xH
abbrev b74:=Fn P w K mg base "outside_of" a82 3 tF
abbrev cS8:=Fn P w K mg base "_law_cell" cS0 1 aU2
abbrev cB9:=Fn P w K mg base "_law_mixed" cA6 1 aA1
abbrev cC0:=Fn P w K mg base "_law_draws" cA7 2 sN
abbrev cK8:=Fn P w K mg base "_law_shifted" bH8 1 a44
abbrev dS5:=Fn P w K mg base "_law_poly" cS3 3 bY5
abbrev bM9:=Fn P w K mg base "_law_known_ring" aK9 2 xO
abbrev dS6:=Fn P w K mg base "_law_ring" cS4 12 bY6
abbrev cK9:=Fn P w K mg base "_law_shared" bI0 1 vU
abbrev cZ0:=Fn P w K mg base "_law_value" bT1 1 b22
abbrev cZ1:=Fn P w K mg base "_law_known" bT2 1 uD
abbrev dG1:=Fn P w K mg base "_law_whole" cB0 1 aU3
abbrev TF_row:=Fn P w K mg base "_law_row" dF6 2 cJ1
abbrev cC1:=Fn P w K mg base "_law_is_table" b59 3 aC9
abbrev dG2:=Fn P w K mg base "_law_often" cB1 1 aD1
abbrev dS7:=Fn P w K mg base "_law_part" cS6 2 b97
end
section
variable {P:Program}{w:World}{K:Frag}{mg:Str->Option Value}{base:Heap}
theorem cZ2 (Z:Zs mg):DT P w K mg base cR8 "cut" aW5 0 bD8:=λhr=>
 (bU 1 bI2.nd (gR (cD 0) rfl Z.z0)<|bO (a91 iI (PUW.pt<|b86 (jS c36 (aT 1) aK)<|aS7<|jS lU (dO (cD 0)<|aN cC (aT 1) aK) aK)<|bN<|us_g 1 bI2.nd aK iu_sub)<|fU<|uA (aT 0) nK<|j5<|aT 1)
theorem c05 (Z:Zs mg):DT P w K mg base bH1 "padded" vV 0 aB9:=λhr=>
 (fU<|aN dI (aT 0)<|aN bW1 (eC<|bK aE)<|aN cC (aT 1)<|gR (cD 0) rfl Z.z0)
theorem aY6 (Z:Zs mg)(a55:cB6 P w K mg base):DT P w K mg base a79 "poly_parted" kP 1 rM:=λhr=>
 (bU 2 eS.nd (aN cC (gR (cD 1) rfl Z.z0) aK)<|bU 3 eS.nd (gF (cu_max rfl) rfl Z.z1 bt_max (bK<|aI (aN cC (gR (cD 0) rfl Z.z0)<|aT 2) aE))<|bU 4 eS.nd (cV b88 rfl Z.z2 b94 (aP 0 aE))<|bU 5 eS.nd (aN bT (gC<|bK aE)<|aT 3)<|bO (xC 6 eS.nd (bV9 rfl Z.z3 rfl Z.z4 (aP 3 aE))<|bU 7 eS.nd (dO (cD 4)<|aN dI (aT 6)<|aT 2)<|bO (rJ 5 (pv 5) (aT 7)<|aT 6)<|bN<|aZ6 iI rfl (cN9 (by rfl) Z.z5<|aP 1 aE) (sX rfl (dJ 8 (cM eS.nd rfl (Or.inl rfl))<|dJ 9 (cM eS.nd rfl (Or.inl rfl)) nS) (cH<|cH kN)) (bN<|dM0 4 (pv 4) (aN dI (aT 6)<|aT 8) (aN bT (aT 7)<|aT 9) d12))<|fU<|eC<|aI (dR a55 hr<|aI (cV fP rfl Z.z6 eT (aP 5 aE)) aE)<|aI (dR a55 hr<|aI (cV fP rfl Z.z6 eT (aP 4 aE)) aE) aE)
theorem bN0 (Z:Zs mg):DT P w K mg base b57 "poly_at" sS 0 a41:=λhr=>
 (bU 2 u6.nd aK<|bO (xC 3 u6.nd (cO1 rfl Z.z3 (aP 0 aE))<|bN<|aT4 2 u6.nd<|aN dI (aN bT (aT 2)<|aT 1)<|aT 3)<|bN<|mL 2<|pv 2)
theorem aI0 (Z:Zs mg){k:Nat}{hG:Φ}(hk:1<=k)(aY8:Fn P w K mg base "det" jU k hG)(pE:c01 P w K mg base):DT P w K mg base cR9 "det" aH4 k (bD1 hG):=λhr=>
 (bO (cN1 (b84 lU (gR (a25 0<|pv 0) rfl Z.z0) aK<|bT8 _) (bN<|d35<|bA9 (a68<|bA9 (a25 0<|pv 0) aK λ_ _=>rfl) aK λ_ _=>rfl) cF1)<|bO (a90 1 pU.nd rfl (Or.inl rfl) aK (hl:=il (n:=4) rfl ac))<|bO (a90 2 pU.nd rfl (Or.inl rfl) aK (hl:=il (n:=4) rfl ac))<|bO (aZ6 iI rfl (gQ rfl Z.z4 (aI (gR (a25 0<|pv 0) rfl Z.z0) aE)) (a26 3<|cM pU.nd rfl (Or.inl rfl)) (bO (d37 1 pU.nd rfl (Or.inl rfl) (aN bT (aN bT (gZ 2<|pv 2)<|bA9 (a68<|bA9 (a25 0<|pv 0) (gZ 3<|pv 3) λ_ _=>rfl) aK λ_ _=>rfl)<|aT1 aY8 hr (aG _) rfl (aI (aT1 pE hr hk rfl (aI (gZ 0<|pv 0)<|aI (gZ 3<|pv 3) aE)) aE)) cF3 (hl:=il (n:=4) rfl ac))<|bN<|a90 2 pU.nd rfl (Or.inl rfl) (kU<|gZ 2<|pv 2) (hl:=il (n:=4) rfl ac)))<|bN<|mL 1<|pv 1)
theorem bN1 (Z:Zs mg):DT P w K mg base aD2 "without" oZ 0 a36:=λhr=>
 (fU<|cV fP rfl Z.z6 eT (aI (sM ["row",".acc"] (aJ oZ).names aD2 (iX<|aN dI (yO (cD 0) nK<|j5<|aT 1)<|yO (cD 0) (j5<|aN dI (aT 1) aK) nK) (λ_ _ _ _ _ _=>fY) λ_ _ _ _ _ _=>(yO (cD 0) (j5 aK) nK)) aE))
theorem cC2 (Z:Zs mg)(a56:bM4 P w K mg base):DT P w K mg base b25 "times" uE 2 aQ4:=λhr=>
 (bU 3 aR3.nd (b06<|aT 0)<|bU 4 aR3.nd (dR a56 hr<|aP 0<|aP 1 aE)<|fU<|cV fP rfl Z.z6 eT (aI (sM ["j","n","y","table",".acc"] (aJ uE).names b25 (gQ rfl Z.z4 (aP 3 aE)) (λ_ _ _ _ _ _=>fY) λ_ _ _ _ _ _=>(gF (d45 rfl) rfl Z.z7 d46 (aI (sM ["i","y","table","j",".acc"] [(".0",NameKind.local),("j",NameKind.cell),("sum",NameKind.globalImplicit),("range",NameKind.globalImplicit),("n",NameKind.cell),("table",NameKind.cell),("y",NameKind.cell)] ["j","n","y","table",".acc"] (gQ rfl Z.z4 (aP 1 aE)) (λ_ _ _ _ _ _=>fY) λ_ _ _ _ _ _=>(aN bT (dO (cD 1)<|aT 0)<|dO (a68<|dO (cD 2)<|aT 0)<|aT 3)) aE))) aE))
theorem bN2 (Z:Zs mg):DT P w K mg base aD3 "t_times" pA 0 a43:=λhr=>
 (bU 2 a50.nd (dO (cD 1)<|kU aK)<|bU 3 a50.nd (aN dI (eC<|bK aE)<|yO (cD 1) nK<|j5<|kU aK)<|fU<|cV fP rfl Z.z6 eT (aI (sM ["i","moved","last","ring",".acc"] (aJ pA).names aD3 (gQ rfl Z.z4 (aI (b06<|aT 0) aE)) (λ_ _ _ _ _ _=>fY) λ_ _ _ _ _ _=>(aN cC (dO (cD 1)<|aT 0)<|aN bT (aT 2)<|dO (a68<|b06<|aT 3)<|aT 0)) aE))
theorem bJ0 (Z:Zs mg)(aE9:c02 P w K mg base):DT P w K mg base aW9 "table_of" pO 1 xN:=λhr=>
 (bU 2 xW.nd (gC<|aP 1 aE)<|bO (xC 3 xW.nd (gQ rfl Z.z4 (aI (aN cC (b06<|aT 0) aK) aE))<|bN<|mO 2 (pv 2)<|dR aE9 hr<|aP 0<|aI (dO (cD 2)<|kU aK) aE)<|fU<|cV fP rfl Z.z6 eT (aP 2 aE))
theorem b75 (Z:Zs mg):DT P w K mg base aK1 "shared_by" nQ 0 vT:=λhr=>
 (bO (bU8 2 3 rfl iQ.nd rfl rfl ac rfl rfl (aP 0<|aI (aN iO (aT 1)<|aT 0) aE) rfl (hl:=il2 (n:=7) rfl ac ac))<|bO (bA6 (eC<|bK<|bK aE)<|sX rfl (dJ 4 (cM iQ.nd rfl (Or.inl rfl))<|dJ 5 (cM iQ.nd rfl (Or.inl rfl)) nS) (cH<|cH kN))<|bO (a91 iI (jS bP1 (aT 3) aK)<|bU 6 iQ.nd (aN rK (aT 2)<|aT 3)<|bO (bU8 2 3 rfl iQ.nd rfl rfl ac rfl rfl (aP 3<|aI (aN cC (aT 2)<|aN bT (aT 6)<|aT 3) aE) rfl (hl:=il2 (n:=7) rfl ac ac))<|bN<|bU8 4 5 rfl iQ.nd rfl rfl ac rfl rfl (aP 5<|aI (aN cC (aT 4)<|aN bT (aT 6)<|aT 5) aE) rfl (hl:=il2 (n:=7) rfl ac ac))<|fU<|eC<|aP 2<|aI (aN rK (aN cC (aT 2)<|aN bT (aT 4)<|aT 1)<|aT 0)<|aP 4 aE)
theorem cL0 (Z:Zs mg):DT P w K mg base cA5 "root" aD5 0 b14:=λhr=>
 (bU 1 zG.nd (aT 0)<|bU 2 zG.nd (aN rK (aN dI (aT 0) aK) aK)<|bO (a91 iI (jS cN4 (aT 2)<|aT 1)<|bU 1 zG.nd (aT 2)<|bN<|aT4 2 zG.nd<|aN rK (aN dI (aT 1)<|aN rK (aT 0)<|aT 1) aK)<|bN<|mL 1<|pv 1)
theorem aR6 (Z:Zs mg){jY:Addr}(iS:mg "SMALL_PRIMES"=some (.ref jY))(wB:KT K jY (T_SMALL_PRIMES.map V.int)):DT P w K mg base zB "small_primes" jV 0 pL:=λhr=>
 (fU<|cV b88 rfl Z.z2 b94 (aI (dM6 rfl iS wB) aE))
theorem cC3 (Z:Zs mg)(a57:bM5 P w K mg base)(bJ8:cY9 P w K mg base):DT P w K mg base b26 "stair" aH5 2 aQ9:=λhr=>
 (bO (c39 (js:=[1,0]) (N:=["i","m","k",".acc"]) (cap:=[none,some 1,some 0,none]) (last:=3) (esc:=(aJ aH5).names) (XN:=b26) 3 rfl rfl af ac ac rfl (gQ rfl Z.z4 (aP 0 aE)) (λ_ _ _ _ _ _=>(a26 0<|cM (show Nodup (["i","m","k",".acc"]:List Str)by decide +kernel) rfl (Or.inl rfl))) (λ_ _ _ _ _ _=>fY) (λ_ _ _ _ _ _=>(aN dI (aN dI (aN bW1 (eC<|bK aE)<|aT 0)<|eC<|aP 1 aE)<|aN bW1 (eC<|bK aE)<|aN cC (aN cC (aT 2)<|aT 0) aK)) (cM oQ.nd rfl (Or.inl rfl)) (il (n:=7) rfl ac))<|bO (xC 4 oQ.nd (iX<|aT 2)<|bN<|aT4 3 oQ.nd<|dR a57 hr<|aP 3<|aP 1<|aP 4 aE)<|bU 5 oQ.nd (gC aE)<|bO (aZ6 iI rfl (cN9 (by rfl) Z.z5<|aP 3 aE) (sX rfl (dJ 6 (cM oQ.nd rfl (Or.inl rfl))<|dJ 4 (cM oQ.nd rfl (Or.inl rfl)) nS) (cH<|cH kN)) (bN<|mO 5 (pv 5)<|aN dI (d68<|dR bJ8 hr<|aP 5<|aI (uA (aT 4) nK<|j5<|aT 6) aE)<|uA (aT 4) (j5<|aT 6) nK))<|fU<|cV fP rfl Z.z6 eT (aP 5 aE))
theorem bJ1 (Z:Zs mg)(yA:bI6 P w K mg base)(aI1:cK6 P w K mg base):DT P w K mg base aX0 "taken_in" pP 1 xR:=λhr=>
 (bU 3 gY.nd (cV b88 rfl Z.z2 b94 (aP 0 aE))<|bU 4 gY.nd (aT 2)<|bO (xC 5 gY.nd (bV9 rfl Z.z3 rfl Z.z4 (aI (gR (cD 2) rfl Z.z0) aE))<|bU 6 gY.nd (dO (cD 3)<|aT 5)<|bO (bA6 (dR yA hr<|aI (dO (cD 6)<|aT 5)<|aI (dO (cD 4)<|aT 5) aE)<|sX rfl (dJ 7 (cM gY.nd rfl (Or.inl rfl))<|dJ 8 (cM gY.nd rfl (Or.inl rfl))<|dJ 9 (cM gY.nd rfl (Or.inl rfl)) nS) (cH<|cH<|cH kN))<|bO (rJ 3 (pv 3) (aN dI (aN dI (dR aI1 hr<|aP 8<|aP 6<|aP 9<|aP 4<|aP 1<|aP 5 aE)<|eC<|aP 7 aE)<|uA (aT 6) (j5<|aN dI (aT 5) aK) nK)<|aT 5)<|bN<|aT4 4 gY.nd<|dR aI1 hr<|aI (aN rK (dO (cD 6)<|aT 5)<|aT 7)<|aP 4<|aI (aN rK (kU<|dO (cD 4)<|aT 5)<|aT 7)<|aP 6<|aP 1<|aP 5 aE)<|bN<|mL 3<|pv 3)
theorem cC4 (Z:Zs mg):DT P w K mg base b27 "mixed" uF 0 aQ7:=λhr=>
 (fU<|cV fP rfl Z.z6 eT (aI (a96 (js:=[0,2,4]) (N:=["c","d","s","t","m",".acc"]) (cap:=[none,none,some 0,some 2,some 4,none]) (last:=5) (esc:=(aJ uF).names) (XN:=b27) rfl rfl af ac ac rfl (d58 (by rfl) Z.z8<|aI (uA (aT 1) nK<|j5<|aT 5)<|aI (uA (aT 3) nK<|j5<|aT 5) aE) (λ_ _ _ _ _ _=>(sX rfl (dJ 0 (cM (show Nodup (["c","d","s","t","m",".acc"]:List Str)by decide +kernel) rfl (Or.inl rfl))<|dJ 1 (cM (show Nodup (["c","d","s","t","m",".acc"]:List Str)by decide +kernel) rfl (Or.inl rfl)) nS) (cH<|cH kN))) (λ_ _ _ _ _ _=>fY) (λ_ _ _ _ _ _=>(aN iO (aN dI (aN bT (aT 2)<|aT 0)<|aN bT (aT 3)<|aT 1)<|aT 4))) aE))
theorem cL1 (Z:Zs mg):DT P w K mg base bH5 "rest" zC 0 b18:=λhr=>
 (bU 2 zH.nd (aT 1)<|bO (xC 3 zH.nd (bV9 rfl Z.z3 rfl Z.z4 (aI (gR (cD 1) rfl Z.z0) aE))<|bU 4 zH.nd (aN rK (dO (cD 2)<|aT 3)<|dO (a68<|dO (cD 0)<|aT 3)<|aT 3)<|bN<|aT4 2 zH.nd<|cV fP rfl Z.z6 eT (aI (a96 (js:=[4]) (N:=["c","d","many",".acc"]) (cap:=[none,none,some 4,none]) (last:=3) (esc:=(aJ zC).names) (XN:=bH5) rfl rfl af ac ac rfl (d58 (by rfl) Z.z8<|aP 2<|aI (dO (cD 0)<|aT 3) aE) (λ_ _ _ _ _ _=>(sX rfl (dJ 0 (cM (show Nodup (["c","d","many",".acc"]:List Str)by decide +kernel) rfl (Or.inl rfl))<|dJ 1 (cM (show Nodup (["c","d","many",".acc"]:List Str)by decide +kernel) rfl (Or.inl rfl)) nS) (cH<|cH kN))) (λ_ _ _ _ _ _=>fY) (λ_ _ _ _ _ _=>(aN cC (aT 0)<|aN bT (aT 2)<|aT 1))) aE))<|bN<|mL 2<|pv 2)
theorem bN3 (Z:Zs mg)(b32:cK4 P w K mg base)(b33:cK5 P w K mg base):DT P w K mg base aD6 "product" pB 3 a47:=λhr=>
 (bO (c50 (js:=[0,2]) (N:=["x","y","ring","other",".acc"]) (cap:=[none,none,some 0,some 2,none]) (last:=4) (esc:=(aJ pB).names) (XN:=aD6) 3 rfl rfl af ac ac ac rfl (iX<|aT 1) (λ_ _ _ _ _ _=>(a26 0<|cM (show Nodup (["x","y","ring","other",".acc"]:List Str)by decide +kernel) rfl (Or.inl rfl))) (λ_ _ _ _ _ _=>fY) (λ_ _ _ _ _ _=>(iX<|aT 3)) (λ_ _ _ _ _ _=>(a26 1<|cM (show Nodup (["x","y","ring","other",".acc"]:List Str)by decide +kernel) rfl (Or.inl rfl))) (λ_ _ _ _ _ _=>fY) (λ_ _ _ _ _ _=>(dR b32 hr<|aP 2<|aP 0<|aP 1 aE)) (cM aY2.nd rfl (Or.inl rfl)) (il (n:=4) rfl ac))<|fU<|dR b33 hr<|aI (b06<|aT 0)<|aI (aN bT (dO (a68<|dO (cD 1) aK) aK)<|dO (a68<|dO (cD 2) aK) aK)<|aP 3 aE)
theorem aR7 (Z:Zs mg){rT:Tok}(gW:mg "GREATEST_PLACE"=some (.int 499 rT)):DT P w K mg base rQ "is_ring_poly" iD 0 pK:=λhr=>
 (lW (PUW.pt<|aZ4 (jS cN4 (gR (cD 0) rfl Z.z0) aK)<|aZ4 (jS c36 (gR (cD 0) rfl Z.z0) aK)<|b85<|jS bP1 (dO (cD 0)<|kU aK) aK) (fU cM8)<|fU<|gF (bV5 rfl) rfl Z.z9 bV6 (aI (sM ["c",".acc"] (aJ iD).names rQ (iX<|aT 0) (λ_ _ _ _ _ _=>fY) λ_ _ _ _ _ _=>(dM8 dU5 (gF bB0 rfl Z.z10 bD0 (aP 0 aE))<|cN6 rfl gW)) aE))
theorem aE6 (Z:Zs mg)(rV:aY5 P w K mg base):DT P w K mg base vW "need_ring_poly" iP 1 nB:=λhr=>
 (bN<|bW3 (b87<|c32<|dR rV hr<|aP 0 aE)<|bN c33)
theorem cC5 (Z:Zs mg)(dP:nI P w K mg base)(pW:aR5 P w K mg base)(mD:a87 P w K mg base):DT P w K mg base bS8 "apart" zD 3 aQ1:=λhr=>
 (bO (bV7<|dR dP hr<|aP 0 aE)<|bU 1 aR4.nd (dR pW hr<|aP 0 aE)<|lW (PUW.pt<|b86 (bW2<|aT 1)<|aS7<|jS lU (gR (cD 0) rfl Z.z0) aK) (bN<|aT4 1 aR4.nd<|dR mD hr<|aP 0 aE)<|bN<|mL 1<|pv 1)
theorem bJ2 (Z:Zs mg):DT P w K mg base aX2 "dividers" pQ 0 xJ:=λhr=>
 (lW (jS lU (aT 0) aK) (fU<|gC<|bK aE)<|bU 1 xX.nd (gC aE)<|bO (xC 2 xX.nd (aZ7 rfl Z.z4 (bK<|aI (aN dI (gF bB0 rfl Z.z10 bD0 (aP 0 aE)) aK) aE))<|bN<|bW3 (jS lU (aN iO (aT 0)<|aT 2) aK)<|bO (mO 1 (pv 1)<|aT 2)<|bN<|mO 1 (pv 1)<|kU<|aT 2)<|bN<|mL 1<|pv 1)
theorem aJ1 (Z:Zs mg)(mY:aL0 P w K mg base)(pF:aY4 P w K mg base)(cW:mW P w K mg base):DT P w K mg base wV "line_and_rest" jA 2 oO:=λhr=>
 (bO (xC 1 oR.nd (iX<|dR mY hr<|aI (dO (cD 0) aK) aE)<|bN<|bW3 (jS lU (dR pF hr<|aP 0<|aP 1 aE) aK)<|bU 2 oR.nd (eC<|b45 (kU<|aT 1)<|bK aE)<|fU<|eC<|aP 2<|aI (dO (a68<|dR cW hr<|aP 0<|aP 2 aE) aK) aE)<|fU bA4)
theorem a53 (Z:Zs mg)(mY:aL0 P w K mg base)(a58:bM6 P w K mg base):DT P w K mg base sT "two_by_two" hJ 2 kX:=λhr=>
 (bO (xC 1 gI.nd (iX<|dR mY hr<|aI (dO (cD 0) aK) aE)<|bU 2 gI.nd (aN rK (dO (cD 0) aK)<|aT 1)<|bN<|xC 3 gI.nd (iX<|dR a58 hr<|aI (dO (cD 0) aK)<|aI (aN cC (aN cC (dO (cD 0) aK)<|aT 1)<|aT 2) aE)<|bU 4 gI.nd (aN cC (dO (cD 0) aK)<|aT 3)<|bN<|bW3 (jS lU (aN dI (aN bT (aT 3)<|aT 2)<|aN bT (aT 1)<|aT 4)<|dO (cD 0) aK)<|fU<|eC<|tQ (eC<|aP 1<|aP 3<|bK aE)<|tQ (eC<|aP 2<|aP 4<|bK aE) aE)<|fU bA4)
theorem bJ3 (Z:Zs mg)(bJ9:cY8 P w K mg base):DT P w K mg base aX3 "two_with" pR 1 xL:=λhr=>
 (bU 2 xY.nd (aN cC (aN bT (aT 0)<|aT 0)<|aN bT aK<|aT 1)<|lW (jS cN4 (aT 2) aK) (fU<|gC aE)<|bU 3 xY.nd (dR bJ9 hr<|aP 2 aE)<|lW (jS bP1 (aN bT (aT 3)<|aT 3)<|aT 2) (fU<|gC aE)<|fU<|gC<|aI (aN rK (aN dI (aT 0)<|aT 3) aK)<|aI (aN rK (aN cC (aT 0)<|aT 3) aK) aE)
theorem bN4 (Z:Zs mg)(dP:nI P w K mg base)(yB:bI7 P w K mg base)(aY8:dG0 P w K mg base):DT P w K mg base aD7 "measure" pC 5 a39:=λhr=>
 (bO (bV7<|dR dP hr<|aP 0 aE)<|bU 1 a51.nd (aN cC (gR (cD 0) rfl Z.z0) aK)<|bU 2 a51.nd (dR yB hr<|aP 0<|aI (aN cC (aN bT aK<|aT 1) aK) aE)<|fU<|dR aY8 hr<|aI (cV fP rfl Z.z6 eT (aI (sM ["i","sums","n",".acc"] (aJ pC).names aD7 (gQ rfl Z.z4 (aP 1 aE)) (λ_ _ _ _ _ _=>fY) λ_ _ _ _ _ _=>(cV fP rfl Z.z6 eT (aI (yO (cD 1) (j5<|aT 0)<|j5<|aN dI (aT 0)<|aT 2) aE))) aE)) aE)
theorem b76 (Z:Zs mg):DT P w K mg base xU "root_sums" kS 0 vG:=λhr=>
 (bU 2 jX.nd (aN cC (gR (cD 0) rfl Z.z0) aK)<|bU 3 jX.nd (gC<|aP 2 aE)<|bO (xC 4 jX.nd (aZ7 rfl Z.z4 (bK<|aP 1 aE))<|bU 5 jX.nd (gF (d45 rfl) rfl Z.z7 d46 (aI (sM ["i","poly","n","sums","k",".acc"] (aJ kS).names xU (aZ7 rfl Z.z4 (bK<|aI (aN dI (gF (cu_min rfl) rfl Z.z11 bt_min (aI (aN cC (aT 4) aK)<|aP 2 aE)) aK) aE)) (λ_ _ _ _ _ _=>fY) λ_ _ _ _ _ _=>(aN bT (dO (cD 1)<|aN cC (aT 2)<|aT 0)<|dO (cD 3)<|aN cC (aT 4)<|aT 0)) aE))<|lW (jS dU5 (aT 4)<|aT 2) (bN<|us_g 5 jX.nd (aN bT (aT 4)<|dO (cD 0)<|aN cC (aT 2)<|aT 4) cF3)<|bN<|mO 3 (pv 3)<|kU<|aT 5)<|bN<|mL 3<|pv 3)
theorem bJ4 (Z:Zs mg)(a55:cB6 P w K mg base):DT P w K mg base a48 "mod_poly" mU 1 xE:=λhr=>
 (fU<|dR a55 hr<|aI (cV fP rfl Z.z6 eT (aI (sM ["c","p",".acc"] (aJ mU).names a48 (iX<|aT 0) (λ_ _ _ _ _ _=>fY) λ_ _ _ _ _ _=>(aN iO (aT 0)<|aT 1)) aE)) aE)
theorem b29 (Z:Zs mg)(gA:y9 P w K mg base)(wC:b73 P w K mg base)(cW:mW P w K mg base)(a59:cB8 P w K mg base):DT P w K mg base aD9 "mod_parted" lZ 3 t9:=λhr=>
 (bU 3 kQ.nd (dR gA hr<|aP 1<|aP 2 aE)<|bU 4 kQ.nd (dR wC hr<|aI (dO (cD 3)<|kU aK)<|aP 2 aE)<|bO (bA6 (dR cW hr<|aI (dR gA hr<|aP 0<|aP 2 aE)<|aI (dR a59 hr<|aP 3<|aP 4<|aP 2 aE) aE)<|sX rfl (dJ 5 (cM kQ.nd rfl (Or.inl rfl))<|dJ 6 (cM kQ.nd rfl (Or.inl rfl)) nS) (cH<|cH kN))<|fU<|eC<|aI (dR a59 hr<|aP 5<|aP 4<|aP 2 aE)<|aI (dR gA hr<|aP 6<|aP 2 aE) aE)
theorem c06 (Z:Zs mg)(gA:y9 P w K mg base):DT P w K mg base aR1 "scaled" rR 2 aA5:=λhr=>
 (fU<|dR gA hr<|aI (cV fP rfl Z.z6 eT (aI (sM ["c","k",".acc"] (aJ rR).names aR1 (iX<|aT 0) (λ_ _ _ _ _ _=>fY) λ_ _ _ _ _ _=>(aN bT (aT 1)<|aT 0)) aE))<|aP 2 aE)
theorem b30 (Z:Zs mg):DT P w K mg base aE0 "inverse_of" mC 0 sZ:=λhr=>
 (bU 2 nT.nd aK<|bO (xC 3 nT.nd (gQ rfl Z.z4 (aI (aN cC (aT 1) aK) aE))<|bN<|aT4 2 nT.nd<|aN iO (aN bT (aT 2)<|aT 0)<|aT 1)<|bN<|mL 2<|pv 2)
theorem bJ5 (Z:Zs mg)(iE:wX P w K mg base)(yC:bI8 P w K mg base)(gA:y9 P w K mg base)(oU:aJ0 P w K mg base):DT P w K mg base aX5 "split_by" pS 5 xG:=λhr=>
 (lW (b84 d48 (aT 1) (d41 iE hr ac rfl) rfl) (bN c33)<|bO (bA6 (dR yC hr<|aI (dR gA hr<|aP 0<|aP 1 aE)<|aP 1 aE)<|sX rfl (dJ 2 (cM xZ.nd rfl (Or.inl rfl))<|dJ 3 (cM xZ.nd rfl (Or.inl rfl)) nS) (cH<|cH kN))<|fU<|aN dI (aT 2)<|dR oU hr<|aP 3<|aP 1 aE)
theorem b77 (Z:Zs mg)(pF:aY4 P w K mg base)(wD:b72 P w K mg base):DT P w K mg base aK7 "lines_out" nR 4 vL:=λhr=>
 (bU 2 iR.nd (gC aE)<|bU 3 iR.nd (aT 0)<|bO (xC 4 iR.nd (gQ rfl Z.z4 (aP 1 aE))<|bU 5 iR.nd aK<|bO (a91 iI (jS lU (aN iO (dR pF hr<|aP 3<|b45 (kU<|aT 4) aE)<|aT 1) aK)<|bU 3 iR.nd (dO (a68<|dR wD hr<|aP 3<|tQ (eC<|aP 4<|bK aE)<|aP 1 aE) aK)<|bN<|us_g 5 iR.nd aK cF3)<|bN<|bW3 (jS c36 (aT 5) aK)<|bN<|mO 2 (pv 2)<|eC<|tQ (eC<|aP 4<|bK aE)<|aP 5 aE)<|fU<|eC<|aP 2<|aP 3 aE)
theorem aE7 (Z:Zs mg)(mG:a88 P w K mg base):DT P w K mg base oP "rootless_parts" gU 1 nF:=λhr=>
 (lW (jS lU (gR (cD 0) rfl Z.z0) aK) (fU<|gC aE)<|bU 2 tW.nd (d33 (jS lU (gR (cD 0) rfl Z.z0) aK) (dR mG hr<|aP 0<|aP 1 aE)<|gC aE)<|lW (jS lU (gR (cD 2) rfl Z.z0) aK) (fU<|gC<|tQ (eC<|aP 0<|bK aE) aE)<|lW (jS (cG3 hr.units) (dO (cD 2) aK)<|dO (cD 2) aK) (fU<|gC<|tQ (eC<|aI (dO (cD 2) aK)<|bK aE) aE)<|fU<|sM ["g",".acc"] (aJ gU).names oP (iX<|gF d67 rfl Z.z12 cY7 (aP 2 aE)) (λ_ _ _ _ _ _=>fY) λ_ _ _ _ _ _=>(eC<|aP 0<|bK aE))
theorem a54 (Z:Zs mg):DT P w K mg base sU "two_by_two" hV 0 qH:=λhr=>
 (bO (xC 2 fH.nd (gQ rfl Z.z4 (aP 1 aE))<|bU 3 fH.nd (aN iO (aN cC (dO (cD 0) aK)<|aT 2)<|aT 1)<|bU 4 fH.nd (aN cC (dO (cD 0) aK)<|aN bT (aT 2)<|aT 3)<|bN<|xC 5 fH.nd (gQ rfl Z.z4 (aP 1 aE))<|bU 6 fH.nd (aN iO (aN cC (aT 4)<|aT 5)<|aT 1)<|bN<|bW3 (PUW.pt<|b86 (jS lU (aN iO (aN bT (aT 5)<|aT 6)<|aT 1)<|dO (cD 0) aK)<|aS7<|jS lU (aN iO (aN dI (aN bT (aT 2)<|aT 6)<|aN bT (aT 5)<|aT 3)<|aT 1)<|dO (cD 0) aK)<|fU<|gC<|tQ (eC<|aP 5<|aP 2<|bK aE)<|tQ (eC<|aP 6<|aP 3<|bK aE) aE)<|fU<|gC aE)
theorem b78 (Z:Zs mg)(iE:wX P w K mg base)(a60:bM8 P w K mg base):DT P w K mg base xV "papers_of" kT 7 vN:=λhr=>
 (fU<|sM ["p","poly","size",".acc"] (aJ kT).names xV (iX<|d41 iE hr ac rfl) (λ_ _ _ _ _ _=>(dL3<|jS lU (aN iO (aT 2)<|aN bT (aT 0)<|aT 0) aK)) λ_ _ _ _ _ _=>(eC<|aP 0<|aI (dR a60 hr<|aP 1<|aP 0 aE) aE))
theorem bJ6 (Z:Zs mg)(a61:bM7 P w K mg base)(cW:mW P w K mg base):DT P w K mg base a49 "parts_at" mV 6 xI:=λhr=>
 (fU<|a96 (js:=[0]) (N:=["g","often","poly",".acc"]) (cap:=[none,none,some 0,none]) (last:=3) (esc:=(aJ mV).names) (XN:=a49) rfl rfl af ac ac rfl (iX<|dR a61 hr<|aP 0<|aP 1 aE) (λ_ _ _ _ _ _=>(sX rfl (dJ 0 (cM (show Nodup (["g","often","poly",".acc"]:List Str)by decide +kernel) rfl (Or.inl rfl))<|dJ 1 (cM (show Nodup (["g","often","poly",".acc"]:List Str)by decide +kernel) rfl (Or.inl rfl)) nS) (cH<|cH kN))) (λ_ _ _ _ _ _=>fY) (λ_ _ _ _ _ _=>(eC<|aP 0<|aP 1<|aI (dO (a68<|dR cW hr<|aP 2<|aP 0 aE) aK) aE)))
theorem b31 (Z:Zs mg)(cW:mW P w K mg base):DT P w K mg base vY "outside_of" jW 2 tG:=λhr=>
 (bO (aZ6 iI rfl (iX<|aT 1) (sX rfl (dJ 2 (cM iY.nd rfl (Or.inr rfl))<|dJ 3 (cM iY.nd rfl (Or.inl rfl)) nS) (cH<|cH kN)) (bN<|aZ6 iI rfl (iX<|aT 3) (sX rfl (dJ 4 (cM iY.nd rfl (Or.inl rfl))<|dJ 5 (cM iY.nd rfl (Or.inl rfl))<|dJ 6 (cM iY.nd rfl (Or.inl rfl)) nS) (cH<|cH<|cH kN)) (bN<|bW3 (PUW.pt<|b86 (jS dU6 (aT 5) aK)<|aS7<|c32<|gF (bV5 rfl) rfl Z.z9 bV6 (aI (sM ["c","p",".acc"] (aJ jW).names vY (iX<|aT 6) (λ_ _ _ _ _ _=>fY) λ_ _ _ _ _ _=>(dM8 lU (aN iO (aT 0)<|aN bT (aT 1)<|aT 1) aK)) aE))<|fU<|eC<|aP 2<|aI (dO (a68<|dR cW hr<|aP 0<|aP 4 aE) aK) aE)))<|fU bA4)
theorem aE8 (Z:Zs mg){fK:Addr}(jB:mg "FallsApart"=some (.ref fK)){iA:Addr}{bN5:FuncData}(mZ:aJ5 K fK iA [.type "ValueError",.type "Exception",.type "BaseException",.type "object"] "ValueError.__new__"=true)(a62:c55 K fK iA bN5 "left" "right")(b34:cK7 P w K mg base){f:Addr}{cdv:Value}{A:Around}{outer:List Env}{s:Shared}{H:Hp}{E:XK}(hr:i8 4 (A.deeper<|envOfC "need_together" (aJ fZ) s.heap.objs.size f cdv)) :
  a71 (v9 (CXr P w base) P w K mg base wW "need_together" (aJ fZ) f cdv A outer s H E) E (eG fZ) nG:=
 (bW9 (aT7<|a90 1 w8.nd rfl (Or.inl rfl) (aT1 b34 hr ac rfl (aI (gZ 0<|pv 0) aE)) (hl:=il (n:=2) rfl ac))<|bC2<|d78 (c47<|gZ 1<|pv 1) (bC2<|bQ7 (k:=0) zM mZ a62 (hr.mono ac) rfl jB rfl (aI (bA9 (a25 1<|pv 1) aK λ_ _=>rfl)<|aI (bA9 (a25 1<|pv 1) aK λ_ _=>rfl) aE) cH4 rfl ac) cH6)
theorem aY7 (Z:Zs mg){i6:Addr}(mI:mg "NotWhole"=some (.ref i6)){k8:Addr}{cC8:FuncData}(rW:aJ5 K i6 k8 [.type "ValueError",.type "Exception",.type "BaseException",.type "object"] "ValueError.__new__"=true)(aR8:c55 K i6 k8 cC8 "prime" "number")(wE:b74 P w K mg base)(yD:bI9 P w K mg base)(aR9:cB7 P w K mg base){f:Addr}{cdv:Value}{A:Around}{outer:List Env}{s:Shared}{H:Hp}{E:XK}(hr:i8 8 (A.deeper<|envOfC "need_whole" (aJ hZ) s.heap.objs.size f cdv)) :
  a71 (v9 (CXr P w base) P w K mg base w6 "need_whole" (aJ hZ) f cdv A outer s H E) E (eG hZ) rO:=
 (bW9 (aT7<|a90 2 nU.nd rfl (Or.inl rfl) (aT1 wE hr ac rfl (aI (gZ 0<|pv 0)<|aI (aT1 yD hr ac rfl (aI (gZ 0<|pv 0)<|aI (gZ 1<|pv 1) aE)) aE)) (hl:=il (n:=5) rfl ac))<|bC2<|d78 (c47<|gZ 2<|pv 2) (bW9 (aT7<|bA6 (gZ 2<|pv 2)<|sX rfl (dJ 3 (cM nU.nd rfl (Or.inr rfl))<|dJ 4 (cM nU.nd rfl (Or.inl rfl)) nS) (cH<|cH kN))<|bC2<|bQ7 (k:=0) zM rW aR8 (hr.mono ac) rfl mI rfl (aI (gZ 3<|pv 3)<|aI (aT1 aR9 hr ac rfl (aI (cV fP rfl Z.z6 eT (aI (a96 (js:=[3]) (N:=["c","p",".acc"]) (cap:=[none,some 3,none]) (last:=2) (esc:=(aJ hZ).names) (XN:=w6) rfl rfl af ac ac rfl (iX<|gZ 4<|pv 4) (λ_ _ _ _ _ _=>(a26 0<|cM (show Nodup (["c","p",".acc"]:List Str)by decide +kernel) rfl (Or.inl rfl))) (λ_ _ _ _ _ _=>fY) (λ_ _ _ _ _ _=>(aN iO (gZ 0<|pv 0)<|gZ 1<|pv 1))) aE))<|aI (aN cC (gR (a25 0<|pv 0) rfl Z.z0) aK) aE)) aE) cH4 rfl ac) cH6)
theorem dG3 (Z:Zs mg):DT P w K mg base dF3 "_law_cell" bH7 0 bX3:=λhr=>
 (lW (jS lU (gR (cD 0) rfl Z.z0) aK) (fU<|aN bT aK<|aN dI (aT 1) aK)<|lW (jS cN4 (aT 1)<|gR (cD 0) rfl Z.z0) (fU<|dO (cD 0)<|aT 1)<|fU<|aN dI (dO (cD 0)<|aN iO (aT 1)<|gR (cD 0) rfl Z.z0)<|aN bT aK<|aT 1)
theorem cZ3 (Z:Zs mg):DT P w K mg base cS1 "_law_mixed" aX6 0 bC6:=λhr=>
 (bU 3 bI4.nd (aN iO (aN bT (aN dI (aN dI (aN dI (aT 0)<|aN bT (aN bT aK<|aT 1)<|aT 1)<|aN bT aK<|aT 1) aK) aK) aK)<|bU 3 bI4.nd (aN iO (aN bT (aT 3)<|aT 3) aK)<|fU<|aN iO (aN bT (aT 3) aK)<|aT 2)
theorem cZ4 (Z:Zs mg)(aI2:cB9 P w K mg base):DT P w K mg base cS2 "_law_draws" aX7 1 bC7:=λhr=>
 (bU 3 zI.nd aK<|lW (jS dU6 (aT 0)<|aN xB aK aK) (bN<|aT4 3 zI.nd<|aN cC (aT 0)<|aN xB aK aK)<|bU 4 zI.nd (gC aE)<|bO (xC 5 zI.nd (gQ rfl Z.z4 (aI (gR (cD 1) rfl Z.z0) aE))<|bN<|cN1 (jS c36 (aT 3) aK) (bO (mO 4 (pv 4)<|aN iO (aT 3)<|dO (cD 1)<|aT 5)<|bN<|aT4 3 zI.nd<|aN rK (aT 3)<|dO (cD 1)<|aT 5)<|bN<|mO 4 (pv 4)<|aN iO (dR aI2 hr<|aP 0<|aP 5<|aP 2 aE)<|dO (cD 1)<|aT 5)<|bN<|mL 4<|pv 4)
theorem cC6 (Z:Zs mg):DT P w K mg base bS9 "_law_shifted" zE 0 aQ5:=λhr=>
 (bU 2 a52.nd (cV b88 rfl Z.z2 b94 (aP 0 aE))<|bO (xC 3 a52.nd (gQ rfl Z.z4 (aI (aN cC (gR (cD 2) rfl Z.z0) aK) aE))<|bN<|xC 4 a52.nd (cU9 rfl Z.z4 (aI (aN cC (gR (cD 2) rfl Z.z0) aK)<|aI (aN cC (aT 3) aK)<|b45 (kU aK) aE))<|bN<|rJ 2 (pv 2) (aN dI (dO (cD 2)<|aT 4)<|aN bT (aT 1)<|dO (cD 2)<|aN dI (aT 4) aK)<|aT 4)<|fU<|cV fP rfl Z.z6 eT (aP 2 aE))
theorem dG4 (Z:Zs mg)(sG:cC0 P w K mg base)(aI3:cK8 P w K mg base):DT P w K mg base cK2 "_law_poly" b28 2 bY8:=λhr=>
 (bU 2 aH7.nd (dR sG hr<|aP 0<|aI (gC<|bK<|bK aE)<|aP 1 aE)<|bU 3 aH7.nd (yO (a68<|dR sG hr<|aP 0<|aI (gC<|bK<|bK<|bK<|bK<|bK<|bK aE)<|aP 1 aE) (j5 aK)<|j5<|aN dI (dO (cD 2) aK) aK)<|lW (jS lU (dO (cD 2) aK) aK) (fU<|cV fP rfl Z.z6 eT (aI (aN dI (sM ["_law_place",".acc"] (aJ b28).names cK2 (iX<|aT 3) (λ_ _ _ _ _ _=>fY) λ_ _ _ _ _ _=>(aN cC (aT 0) aK))<|gC<|bK aE) aE))<|bU 4 aH7.nd (dR sG hr<|aP 0<|aI (gC<|bK<|bK<|bK<|bK<|bK<|bK<|bK aE)<|aP 1 aE)<|lW (jS lU (dO (cD 2) aK) aK) (bU 4 aH7.nd (dR sG hr<|aP 0<|aI (gC<|bK<|bK<|bK<|bK aE)<|aP 1 aE)<|fU<|eC<|aI (aN cC (dO (cD 4) aK) aK)<|aI (aN cC (dO (cD 4) aK) aK)<|bK aE)<|lW (jS lU (dO (cD 2) aK) aK) (fU<|dR aI3 hr<|tQ (eC<|aI (aN cC (dO (cD 4) aK) aK)<|aI (aN cC (dO (cD 4) aK) aK)<|aI (aN cC (dO (cD 4) aK) aK)<|bK aE)<|aI (aN cC (dO (cD 4) aK) aK) aE)<|bU 4 aH7.nd (dR sG hr<|aP 0<|aI (gC<|bK<|bK<|bK<|bK<|bK<|bK<|bK aE)<|aP 1 aE)<|fU<|dR aI3 hr<|tQ (eC<|aI (aN cC (dO (cD 4) aK) aK)<|aI (aN cC (dO (cD 4) aK) aK)<|aI (aN cC (dO (cD 4) aK) aK)<|aI (aN cC (dO (cD 4) aK) aK)<|bK aE)<|aI (aN cC (dO (cD 4) aK) aK) aE)
theorem bJ7 (Z:Zs mg)(aI2:cB9 P w K mg base):DT P w K mg base aX8 "_law_known_ring" pT 1 xP:=λhr=>
 (by refine WS.out ?_;exact ws_lw (cG8 (a84<|a84<|a84 a99)<|cG8 (cV8<|a84<|a84 a99)<|cG8 (a84<|a84<|a84 a99)<|cG8 (cV8<|a84<|a84 a99)<|cG8 (cV8<|cV8<|a84<|a84 a99)<|cG8 (cV8<|a84<|a84<|a84 a99)<|cG8 (cV8<|a84<|a84<|a84 a99) a99) (ws_of<|bU 1 y8.nd (aN dI (aT 1)<|gC<|tQ (eC<|bK<|bK<|bK<|bK<|bK aE)<|tQ (eC<|b45 (kU aK)<|b45 (kU aK)<|bK<|bK<|bK aE)<|tQ (eC<|bK<|bK<|bK<|bK<|bK aE)<|tQ (eC<|b45 (kU aK)<|bK<|bK<|bK<|bK aE)<|tQ (eC<|bK<|bK<|b45 (kU aK)<|bK<|bK aE) aE)<|fU<|dO (cD 1)<|aN iO (dR aI2 hr<|aP 0<|bK<|bK aE) aK) y8.nd)
theorem dG5 (Z:Zs mg){iB:Addr}(mJ:mg "RingError"=some (.ref iB))(sV:excIn K iB [.type "ValueError",.type "Exception",.type "BaseException",.type "object"] "ValueError.__new__"=true)(rX: ∀n∈(["FallsApart","TooGreat","NotWhole"]:List Str),∀C,mg n=some (.ref C)->b05 K iB C [.type "ValueError",.type "Exception",.type "BaseException",.type "object"] "ValueError.__new__")(b98:MkX P w K mg base "Ring" 10 ["poly","degree","measure"] yV)(cL4:dS5 P w K mg base)(aS0:cS8 P w K mg base)(a63:bM9 P w K mg base):DT P w K mg base dF4 "_law_ring" bH9 11 bY7:=λhr=>
 (bU 3 aH8.nd bA4<|bO (xC 4 aH8.nd (gQ rfl Z.z4 (bK aE))<|bN<|bW3 (bW2<|aT 3)<|bN<|dN7 3 ["FallsApart","TooGreat","NotWhole"] zM b98 hr ac rfl rfl rfl rfl rfl (λ_=>(aI (dR cL4 hr<|aI (dR aS0 hr<|aP 0<|aI (aN dI (aT 1)<|aT 4) aE)<|aP 2 aE) aE)) aH8.nd rfl (Or.inl rfl) (λ_=>(bN<|aT4 3 aH8.nd bA4)) rfl mJ sV rX (il (n:=5) rfl ac))<|lW (bW2<|aT 3) (bN<|aT4 3 aH8.nd<|dN6 b98 hr ac rfl (aI (dR a63 hr<|aI (dR aS0 hr<|aP 0<|aP 1 aE) aE) aE))<|bN<|mL 3<|pv 3)
theorem cC7 (Z:Zs mg):DT P w K mg base bT0 "_law_shared" zF 0 aR0:=λhr=>
 (bO (a91 iI (jS bP1 (aT 1) aK)<|bN<|bU8 0 1 rfl bI5.nd rfl rfl ac rfl rfl (aP 1<|aI (aN iO (aT 0)<|aT 1) aE) rfl (hl:=il2 (n:=2) rfl ac ac))<|fU<|gF bB0 rfl Z.z10 bD0 (aP 0 aE))
theorem cL2 (Z:Zs mg):DT P w K mg base cA8 "_law_value" aE3 0 b23:=λhr=>
 (bU 2 aH9.nd aK<|bO (xC 3 aH9.nd (cO1 rfl Z.z3 (aP 0 aE))<|bN<|aT4 2 aH9.nd<|aN dI (aN bT (aT 2)<|aT 1)<|aT 3)<|bN<|mL 2<|pv 2)
theorem cL3 (Z:Zs mg):DT P w K mg base cA9 "_law_known" aE4 0 b24:=λhr=>
 (bU 3 uG.nd (gC aE)<|bU 4 uG.nd aK<|bO (xC 5 uG.nd (gQ rfl Z.z4 (aP 0 aE))<|bU 6 uG.nd (aN bT (gC<|bK aE)<|aT 0)<|bO (cN1 (jS lU (aT 5) aK) (bN<|rJ 6 (pv 6) (aT 1) aK)<|bU 4 uG.nd (aN iO (aN bT (aT 4)<|aT 2)<|aT 1)<|bO (rJ 6 (pv 6) (aN iO (kU<|aT 4)<|aT 1) aK)<|bN<|rJ 6 (pv 6) aK<|aT 5)<|bN<|mO 3 (pv 3)<|cV fP rfl Z.z6 eT (aP 6 aE))<|fU<|cV fP rfl Z.z6 eT (aP 3 aE))
theorem cZ5 (Z:Zs mg):DT P w K mg base cS5 "_law_whole" aX9 0 bC9:=λhr=>
 (fU<|d32 (gF bV0 rfl Z.z13 sD (aP 0<|aI (cN5 rfl Z.z14 bt_int) aE))<|d31<|pu_not<|gF bV0 rfl Z.z13 sD (aP 0<|aI (cN5 rfl Z.z15 dO0) aE))
theorem dS8 (Z:Zs mg)(c08:dG1 P w K mg base):DT P w K mg base dF5 "_law_row" bT3 1 cJ0:=λhr=>
 (lW (PUW.pt<|aZ4 (b87<|c32<|gF bV0 rfl Z.z13 sD (aP 0<|aI (cN5 rfl Z.z6 eT) aE))<|b85<|jS bP1 (gR (cD 0) rfl Z.z0)<|aT 1) (fU cM8)<|fU<|gF (bV5 rfl) rfl Z.z9 bV6 (aI (sM ["_law_place",".acc"] (aJ bT3).names dF5 (iX<|aT 0) (λ_ _ _ _ _ _=>fY) λ_ _ _ _ _ _=>(dR c08 hr<|aP 0 aE)) aE))
theorem c07 (Z:Zs mg)(dG8:TF_row P w K mg base):DT P w K mg base aR2 "_law_is_table" rS 2 aD0:=λhr=>
 (lW (PUW.pt<|aZ4 (b87<|c32<|gF bV0 rfl Z.z13 sD (aP 0<|aI (cN5 rfl Z.z6 eT) aE))<|b85<|jS bP1 (gR (cD 0) rfl Z.z0)<|aT 1) (fU cM8)<|fU<|gF (bV5 rfl) rfl Z.z9 bV6 (aI (sM ["_law_row_here","_law_many",".acc"] (aJ rS).names aR2 (iX<|aT 0) (λ_ _ _ _ _ _=>fY) λ_ _ _ _ _ _=>(dR dG8 hr<|aP 0<|aP 1 aE)) aE))
theorem cZ6 (Z:Zs mg):DT P w K mg base bZ9 "_law_often" aH6 0 bG9:=λhr=>
 (fU<|cV fP rfl Z.z6 eT (aI (sM ["_law_row_here","_law_k",".acc"] (aJ aH6).names bZ9 (iX<|aT 0) (λ_ _ _ _ _ _=>fY) λ_ _ _ _ _ _=>(cV fP rfl Z.z6 eT (aI (sM ["_law_place","_law_k",".acc"] [(".0",NameKind.local),("_law_row_here",NameKind.local),("tuple",NameKind.globalImplicit),("_law_k",NameKind.cell)] ["_law_row_here","_law_k",".acc"] (iX<|aT 0) (λ_ _ _ _ _ _=>fY) λ_ _ _ _ _ _=>(aN bT (aT 1)<|aT 0)) aE))) aE))
theorem dG6 (Z:Zs mg)(aI4:cK9 P w K mg base):DT P w K mg base dF7 "_law_part" bI1 1 bZ3:=λhr=>
 (lW (jS lU (aT 1) aK) (bN<|mL 0<|pv 0)<|lW (jS lU (aT 1) aK) (fU<|dR aI4 hr<|aP 0<|aI (aN bT (aN bT (aN bT (aN bT (aN bT (aN bT (aN bT aK aK) aK) aK) aK) aK) aK)<|aN dI aK<|aT 2) aE)<|fU<|dR aI4 hr<|aP 0<|aI (aN bT (aN bT (aN bT (aN bT (aN xB aK aK)<|aN xB aK aK)<|aN xB aK aK)<|aN xB aK aK)<|aN dI aK<|aT 2) aE)
theorem dS9 (Z:Zs mg)(cL5:dS6 P w K mg base)(sG:cC0 P w K mg base)(aS0:cS8 P w K mg base)(bK0:cZ0 P w K mg base)(c09:dS7 P w K mg base)(aY9:dG2 P w K mg base)(zJ:cZ1 P w K mg base)(pG:c03 P w K mg base)(aS1:cC1 P w K mg base):DT P w K mg base dV9 "law" aY0 12 bZ7:=λhr=>
 (bU 1 oS.nd (dR cL5 hr<|aP 0<|bK<|bK aE)<|bU 2 oS.nd (b06<|aT 1)<|bU 3 oS.nd (aN cC (gR (cD 2) rfl Z.z0) aK)<|bU 4 oS.nd (dR sG hr<|aI (dR aS0 hr<|aP 0<|bK aE)<|aI (gC<|bK<|bK<|bK<|aI (aN xB aK aK)<|bK<|aI (aN xB aK aK)<|bK<|bK<|aI (aN xB aK aK) aE)<|bK aE)<|bU 5 oS.nd (aN cC (dO (cD 4) aK) aK)<|lW (jS lU (dO (cD 4) aK) aK) (bN<|aT4 5 oS.nd<|aN cC (dO (cD 4) aK)<|aN bT aK<|aN xB aK aK)<|bU 6 oS.nd (gF bB0 rfl Z.z10 bD0 (aI (dR bK0 hr<|aP 2<|aP 5 aE) aE))<|bU 7 oS.nd (dR c09 hr<|aP 6<|aI (dO (cD 4) aK)<|aI (dO (cD 4) aK) aE)<|bU 8 oS.nd (dR c09 hr<|aI (aN rK (aT 6)<|aT 7)<|aI (dO (cD 4) aK)<|aI (dO (cD 4) aK) aE)<|bU 9 oS.nd (dR aY9 hr<|aI (dR zJ hr<|aP 3<|aP 7<|aP 5 aE)<|aI (aN dI aK<|dO (cD 4) aK) aE)<|bU 10 oS.nd (dR aY9 hr<|aI (dR zJ hr<|aP 3<|aP 8<|aP 5 aE)<|aI (aN dI aK<|dO (cD 4) aK) aE)<|bU 11 oS.nd (dR aY9 hr<|aI (dR zJ hr<|aP 3<|aI (aN bT (aT 7)<|aT 8)<|aP 5 aE)<|aI (aN bT (aN dI aK<|dO (cD 4) aK)<|aN dI aK<|dO (cD 4) aK) aE)<|bU 12 oS.nd (dR pG hr<|aP 1<|aP 9<|aP 10 aE)<|lW (PUW.pt<|aZ4 (b87<|c32<|dR aS1 hr<|aP 12<|aP 3 aE)<|aZ4 (jS (d56 hr.units) (aT 12)<|aT 11)<|b85<|jS (d56 hr.units) (dR pG hr<|aP 1<|aP 10<|aP 9 aE)<|aT 11) (fU cM8)<|bU 13 oS.nd (dR zJ hr<|aP 3<|bK<|bK aE)<|fU<|d32 (dM8 (cG3 hr.units) (dR pG hr<|aP 1<|aP 9<|aP 13 aE)<|aT 9)<|d31<|dM8 (cG3 hr.units) (dR pG hr<|aP 1<|aP 13<|aP 10 aE)<|aT 10)
theorem cZ7 (Z:Zs mg){oV:Tok}(fN:mg "GREATEST_MEASURE"=some (.int 39999 oV)){rY:Addr}(mK:mg "TooGreat"=some (.ref rY))(rZ:excIn K rY [.type "ValueError",.type "Exception",.type "BaseException",.type "object"] "ValueError.__new__"=true)(dP:nI P w K mg base)(aF0:c04 P w K mg base)(oW:FnX P w K mg base "need_together" vZ 5 jR)(tJ:FnX P w K mg base "need_whole" a83 9 mS){f:Addr}{cdv:Value}{A:Around}{outer:List Env}{s:Shared}{H:Hp}{E:XK}(hr:i8 9 (A.deeper<|envOfC "Ring.__init__" (aJ aE5) s.heap.objs.size f cdv)) :
  PSs (v9 (CXr P w base) P w K mg base ["self","poly","size"] "Ring.__init__" (aJ aE5) f cdv A outer s H E) (eG aE5) (λD=>lSX K mg E bE8 {D with nx:=tS3 K "poly" "degree" "measure" bE9 bF0 bF1 D}):=
 (b93 (aT7<|bV7<|aT1 dP hr ac rfl (aI (gZ 1<|pv 1) aE))<|b93 (cO3 oW hr ac dU9 rfl (aI (gZ 1<|pv 1) aE))<|b93 (aT7<|a90 2 cS7.nd rfl (Or.inl rfl) (aT1 aF0 hr ac rfl (aI (gZ 1<|pv 1) aE)) (hl:=il (n:=3) rfl ac))<|b93 (d78 (b84 c36 (gF bB0 rfl Z.z10 bD0 (aI (gZ 2<|pv 2) aE)) (cN6 rfl fN)<|bT8 _) (bC2<|d79 zM rZ rfl mK rfl (aI pu_str aE) cH4 rfl) cH6)<|dN8 (cO3 tJ hr ac dU9 rfl (aI (gZ 1<|pv 1)<|aI (gZ 2<|pv 2) aE))<|yM (cE2 (pv 0) (gZ 1<|pv 1) rfl)<|yM (cE2 (pv 0) (aN cC (gR (a25 1<|pv 1) rfl Z.z0) aK) rfl)<|bT5<|cE2 (pv 0) (gZ 2<|pv 2) rfl)
end
theorem lC {P:List Value->Prop}{n:Nat}(h: ∀a us,us.length=n->P (a::us)): ∀us:List Value,us.length=n+1->P us:=λus=>us.casesOn (λe=>nomatch e) λa us e=>h a us (Nat.succ.inj e)
theorem lN0 {P:List Value->Prop}(h:P []): ∀us:List Value,us.length=0->P us:=λus=>us.casesOn (λ_=>h) λ_ _ e=>nomatch e
local macro_rules| `(tactic| walk_at "b0")=> `(tactic| exact λ_ _ _ _ _ _=>lN0 rfl)
theorem lN1 {P:List Value->Prop}(h: ∀a0,P [a0]): ∀us:List Value,us.length=1->P us:=lC λa0=>lN0 (h a0)
local macro_rules| `(tactic| walk_at "b1")=> `(tactic| exact λ_ _ _ _ _ _=>lN1 λ_=>rfl)
theorem lN2 {P:List Value->Prop}(h: ∀a0 a1,P [a0,a1]): ∀us:List Value,us.length=2->P us:=lC λa0=>lC λa1=>lN0 (h a0 a1)
local macro_rules| `(tactic| walk_at "b2")=> `(tactic| exact λ_ _ _ _ _ _=>lN2 λ_ _=>rfl)
theorem lN3 {P:List Value->Prop}(h: ∀a0 a1 a2,P [a0,a1,a2]): ∀us:List Value,us.length=3->P us:=lC λa0=>lC λa1=>lC λa2=>lN0 (h a0 a1 a2)
local macro_rules| `(tactic| walk_at "b3")=> `(tactic| exact λ_ _ _ _ _ _=>lN3 λ_ _ _=>rfl)
theorem lN6 {P:List Value->Prop}(h: ∀a0 a1 a2 a3 a4 a5,P [a0,a1,a2,a3,a4,a5]): ∀us:List Value,us.length=6->P us:=lC λa0=>lC λa1=>lC λa2=>lC λa3=>lC λa4=>lC λa5=>lN0 (h a0 a1 a2 a3 a4 a5)
local macro_rules| `(tactic| walk_at "b6")=> `(tactic| exact λ_ _ _ _ _ _=>lN6 λ_ _ _ _ _ _=>rfl)
local macro_rules| `(tactic| walk_at "n")=> `(tactic| (intro _ _ h;repeat (first| (obtain⟨e,_⟩:=h;subst e;rfl)|obtain⟨_,h⟩:=h)))
structure FD where
 oc:Value
 od:Option Addr
 kV:Value
 dc:Value
 pm:Value
 an:Option Addr
 cd:Value
 ct:Value
 sl:Array (Option Value)
abbrev gB (K:Frag)(x y:Str)(s:Stmt)(f:Addr):Prop:= ∃d:FD,nsIn K mainGlobals y=some (some<|.ref f)/\K.lookup f=some ⟨d.oc,d.od,.func<|fnOf x x (jQ s) (eG s) (aJ s) .none d.kV d.dc d.pm d.an d.cd d.ct,d.sl⟩/\codeIn K d.cd x=true/\keepIn K (.ref f)=true
theorem fnAt {K:Frag}{x y:Str}{s:Stmt}{f:Addr}{oc:Value}{od:Option Addr}{kV dc pm:Value}{an:Option Addr}{cd ct:Value}{sl:Array (Option Value)}(a:nsIn K mainGlobals y=some (some<|.ref f))(b:K.lookup f=some ⟨oc,od,.func<|fnOf x x (jQ s) (eG s) (aJ s) .none kV dc pm an cd ct,sl⟩)(c:codeIn K cd x=true)(k:keepIn K (.ref f)=true):gB K x y s f:=⟨⟨oc,od,kV,dc,pm,an,cd,ct,sl⟩,a,b,c,k⟩
theorem dG7 {K:Frag}{x y:Str}{s:Stmt}{f:Addr}(p:gB K x y s f): ∃fd,Fun K x x s f fd/\nsIn K mainGlobals y=some (some<|.ref f):=let ⟨_,a,b,c,k⟩:=p;⟨_,bA3 b c k,a⟩
section
variable {P:Program}{w:World}{K:Frag}{mg:Str->Option Value}{base h:Heap}(X:K.In h)(G:h.Ns mainGlobals mg){x y:Str}{st:Stmt}{f:Addr}{N ps:List Str}{k:Nat}(p:gB K x y st f)(b: ∀(kV doc pm:Value) (an:Option Addr) (cdv ct:Value) (us:List Value),us.length=ps.length->bindArgs (fnOf x x (jQ st) (eG st) (aJ st) .none kV doc pm an cdv ct) ⟨us,[]⟩=pure (ps.zip us))(S:b9 N ps (aJ st))
include X G p b S
theorem fn_b {φ:Φ}(len: ∀ds Q,φ ds Q->ds.length=ps.length){t:US}(der: ∀(cdv:Value) (A:Around) (outer:List Env) (s:Shared) (H:Hp) (E:XK),i8 k (A.deeper<|envOfC x (aJ st) s.heap.objs.size f cdv)->sW (v9 CX0 P w K mg base N x (aJ st) f cdv A outer s H E).nox (eG st) t)(rd: ∀ds Q,φ ds Q->t {nx:=λ_=>Q (.pu .non),rt:=Q} (init N ds)):Fn P w K mg base y ps (k+1) φ:=
 let ⟨_,U,m⟩:=dG7 p
 Fn.mkA U (fA X G m) (U.binds b) S len der rd
theorem fnX_b {φ:ΦX}(q:x=y)(len: ∀ds Q Ex,φ ds Q Ex->ds.length=ps.length){t:USX}(der: ∀(cdv:Value) (A:Around) (outer:List Env) (s:Shared) (H:Hp) (E:XK),i8 k (A.deeper<|envOfC x (aJ st) s.heap.objs.size f cdv)->a71 (v9 (CXr P w base) P w K mg base N x (aJ st) f cdv A outer s H E) E (eG st) t)(rd: ∀ds Q Ex,φ ds Q Ex->t Ex {nx:=λ_=>Q (.pu .non),rt:=Q} (init N ds)):FnX P w K mg base y ps (k+1) φ:=
 let ⟨_,U,m⟩:=dG7 p
 q▸FnX.mk' U (fA X G<|q▸m) (U.binds b) S len der rd
end
theorem all_mk {l:PySem.W.OpenLaw}{w:World}{K:Frag}{h:Heap}{mg:Str->Option Value}{fa f1 f2 f3 f4 f5 f6 f7 f8 f9 f10 f11 f12 f13 f14 f15 f16 f17 f18 f19 f20 f21 f22 f23 f24 f25 f26 f27 f28 f29 f30 f31 f32 f33 f34 f35 f36 f37 f38 f39 f40 f41 f42 f43 f44 f45 f46 f47 f48 f49 f50 f51 f52 f53 f54 f55 iA k8 aZ0 fK i6 rY iB sC jY:Addr}(X:K.In h)(G:h.Ns mainGlobals mg)(hfa:mg "law"=some (.ref fa))
  {bN6 bN7 cC9 cD0 dT0 dT1 b79:Option Addr} {bN8 cD1 dT2 b80:Array (Option Value)} {bN9 bO0 bO1 aL1 bO2 cD2 cD3 cD4 b60 cD5 dT3 dT4 dT5 cS9 dT6 dT7:Value} {u7 a64 bK1:ClassData} {rT oV:Tok} {b35:Array Value} {n_SMALL_PRIMES:Nat}
  (P1:gB K "cut" "cut" aW5 f1)
  (P2:gB K "padded" "padded" vV f2)
  (P3:gB K "poly_parted" "poly_parted" kP f3)
  (P4:gB K "poly_at" "poly_at" sS f4)
  (P5:gB K "det" "det" aH4 f5)
  (P6:gB K "without" "without" oZ f6)
  (P7:gB K "times" "times" uE f7)
  (P8:gB K "t_times" "t_times" pA f8)
  (P9:gB K "table_of" "table_of" pO f9)
  (P10:gB K "shared_by" "shared_by" nQ f10)
  (P11:gB K "root" "root" aD5 f11)
  (P12:gB K "small_primes" "small_primes" jV f12)
  (P13:gB K "stair" "stair" aH5 f13)
  (P14:gB K "taken_in" "taken_in" pP f14)
  (P15:gB K "mixed" "mixed" uF f15)
  (P16:gB K "rest" "rest" zC f16)
  (P17:gB K "product" "product" pB f17)
  (P18:gB K "is_ring_poly" "is_ring_poly" iD f18)
  (P19:gB K "need_ring_poly" "need_ring_poly" iP f19)
  (P20:gB K "apart" "apart" zD f20)
  (P21:gB K "dividers" "dividers" pQ f21)
  (P22:gB K "line_and_rest" "line_and_rest" jA f22)
  (P23:gB K "two_by_two" "two_by_two_apart" hJ f23)
  (P24:gB K "two_with" "two_with" pR f24)
  (P25:gB K "measure" "measure" pC f25)
  (P26:gB K "root_sums" "root_sums" kS f26)
  (P27:gB K "mod_poly" "mod_poly" mU f27)
  (P28:gB K "mod_parted" "mod_parted" lZ f28)
  (P29:gB K "scaled" "scaled" rR f29)
  (P30:gB K "inverse_of" "inverse_of" mC f30)
  (P31:gB K "split_by" "split_by" pS f31)
  (P32:gB K "lines_out" "lines_out" nR f32)
  (P33:gB K "rootless_parts" "rootless_parts" gU f33)
  (P34:gB K "two_by_two" "two_by_two_split" hV f34)
  (P35:gB K "papers_of" "papers_of" kT f35)
  (P36:gB K "parts_at" "parts_at" mV f36)
  (P37:gB K "outside_of" "outside_of" jW f37)
  (P38:gB K "need_together" "need_together" fZ f38)
  (P39:gB K "need_whole" "need_whole" hZ f39)
  (P40:gB K "_law_cell" "_law_cell" bH7 f40)
  (P41:gB K "_law_mixed" "_law_mixed" aX6 f41)
  (P42:gB K "_law_draws" "_law_draws" aX7 f42)
  (P43:gB K "_law_shifted" "_law_shifted" zE f43)
  (P44:gB K "_law_poly" "_law_poly" b28 f44)
  (P45:gB K "_law_known_ring" "_law_known_ring" pT f45)
  (P46:gB K "_law_ring" "_law_ring" bH9 f46)
  (P47:gB K "_law_shared" "_law_shared" zF f47)
  (P48:gB K "_law_value" "_law_value" aE3 f48)
  (P49:gB K "_law_known" "_law_known" aE4 f49)
  (P50:gB K "_law_whole" "_law_whole" aX9 f50)
  (P51:gB K "_law_row" "_law_row" bT3 f51)
  (P52:gB K "_law_is_table" "_law_is_table" rS f52)
  (P53:gB K "_law_often" "_law_often" aH6 f53)
  (P54:gB K "_law_part" "_law_part" bI1 f54)
  (P55:gB K "law" "law" aY0 f55)
  (jB:nsIn K mainGlobals "FallsApart"=some (some<|.ref fK))
  (mI:nsIn K mainGlobals "NotWhole"=some (some<|.ref i6))
  (mK:nsIn K mainGlobals "TooGreat"=some (some<|.ref rY))
  (mJ:nsIn K mainGlobals "RingError"=some (some<|.ref iB))
  (bK2:nsIn K mainGlobals "Ring"=some (some<|.ref sC))
  (aL2:findIn K (.ref fK) "__init__"=some (some<|.ref iA))
  (b61:findIn K (.ref i6) "__init__"=some (some<|.ref k8))
  (c12:findIn K (.ref sC) "__init__"=some (some<|.ref aZ0))
  (a65:K.lookup iA=some ⟨.type "function",bN6,.func<|fnOf "__init__" "FallsApart.__init__" (jQ pV) (eG pV) (aJ pV) .none bN9 bO0 bO1 bN7 aL1 bO2,bN8⟩)
  (aS2:K.lookup k8=some ⟨.type "function",cC9,.func<|fnOf "__init__" "NotWhole.__init__" (jQ wA) (eG wA) (aJ wA) .none cD2 cD3 cD4 cD0 b60 cD5,cD1⟩)
  (cL6:K.lookup aZ0=some ⟨dT7,dT0,.func<|fnOf "__init__" "Ring.__init__" (jQ aE5) (eG aE5) (aJ aE5) .none dT3 dT4 dT5 dT1 cS9 dT6,dT2⟩)
  (yE:codeIn K aL1 "FallsApart.__init__"=true)
  (yF:keepIn K (.ref iA)=true)
  (aF1:codeIn K b60 "NotWhole.__init__"=true)
  (aF2:keepIn K (.ref k8)=true)
  (c13:codeIn K cS9 "Ring.__init__"=true)
  (c14:keepIn K (.ref aZ0)=true)
  (mZ:aJ5 K fK iA [.type "ValueError",.type "Exception",.type "BaseException",.type "object"] "ValueError.__new__"=true)
  (rW:aJ5 K i6 k8 [.type "ValueError",.type "Exception",.type "BaseException",.type "object"] "ValueError.__new__"=true)
  (rZ:excIn K rY [.type "ValueError",.type "Exception",.type "BaseException",.type "object"] "ValueError.__new__"=true)
  (sV:excIn K iB [.type "ValueError",.type "Exception",.type "BaseException",.type "object"] "ValueError.__new__"=true)
  (sH:clsIn K fK=some u7)
  (wY:clsIn K i6=some a64)
  (aF3:clsIn K rY=some bK1)
  (jZ:(u7).mro.contains (.ref iB)=true)
  (kY:(bK1).mro.contains (.ref iB)=true)
  (kZ:(a64).mro.contains (.ref iB)=true)
  (yG:vD (u7).mro=true)
  (yH:(u7).hasDict=true)
  (yI:findIn K (.ref fK) "__setattr__"=some (some<|.builtin "object.__setattr__"))
  (yJ:findIn K (.ref fK) "left"=some none)
  (yK:findIn K (.ref fK) "right"=some none)
  (aF4:vD (a64).mro=true)
  (aF5:(a64).hasDict=true)
  (aF6:findIn K (.ref i6) "__setattr__"=some (some<|.builtin "object.__setattr__"))
  (aF7:findIn K (.ref i6) "prime"=some none)
  (aF8:findIn K (.ref i6) "number"=some none)
  (mk_Ring:makesIn K sC=true)
  (fn_Ring:PySem.W.isFn K (.ref aZ0)=true)
  (kc_Ring:keepIn K (.ref sC)=true)
  (pg_Ring:plainGet K sC Str.empty=true)
  (c15:hasDictIn K sC=true)
  (po_Ring:plainOver K sC=true)
  (c16:findIn K (.ref sC) "__setattr__"=some (some<|.builtin "object.__setattr__"))
  (c17:findIn K (.ref sC) "poly"=some none)
  (b36:findIn K (.ref sC) "degree"=some none)
  (aS3:findIn K (.ref sC) "measure"=some none)
  (dG9:nsIn K mainGlobals "len"=some none)
  (dH0:nsIn K mainGlobals "max"=some none)
  (cL7:nsIn K mainGlobals "list"=some none)
  (aS4:nsIn K mainGlobals "reversed"=some none)
  (c18:nsIn K mainGlobals "range"=some none)
  (aF9:nsIn K mainGlobals "enumerate"=some none)
  (c19:nsIn K mainGlobals "tuple"=some none)
  (dH1:nsIn K mainGlobals "sum"=some none)
  (dH2:nsIn K mainGlobals "zip"=some none)
  (dH3:nsIn K mainGlobals "all"=some none)
  (dH4:nsIn K mainGlobals "abs"=some none)
  (dH5:nsIn K mainGlobals "min"=some none)
  (bK3:nsIn K mainGlobals "sorted"=some none)
  (a66:nsIn K mainGlobals "isinstance"=some none)
  (dH6:nsIn K mainGlobals "int"=some none)
  (cL8:nsIn K mainGlobals "bool"=some none)
  (gW:nsIn K mainGlobals "GREATEST_PLACE"=some (some<|.int 499 rT))
  (fN:nsIn K mainGlobals "GREATEST_MEASURE"=some (some<|.int 39999 oV))
  (iS:nsIn K mainGlobals "SMALL_PRIMES"=some (some<|.ref jY))
  (tK:K.lookup jY=some ⟨.type "tuple",b79,.seq b35 n_SMALL_PRIMES,b80⟩)
  (tL:b35.size<=sizeLine)
  (tM:Vals (T_SMALL_PRIMES.map V.int) b35.toList) :
  ∃fd:FuncData,(∀(s:Shared) (v:Value),BindsTo s fd ⟨[v],[]⟩ [("_law_script",v)])/\ ∀base:Heap,K.In base->base.Ns mainGlobals mg->tX l.prog w K mg base CX0 13 fa fd ["_law_script"] (spP K bP2):=by
 have h5:=P5.choose_spec;have h55:=P55.choose_spec;have e:=hfa.symm.trans (fA X G h55.1);cases e;have Z:Zs mg:=⟨eW X G dG9,eW X G dH0,eW X G cL7,eW X G aS4,eW X G c18,eW X G aF9,eW X G c19,eW X G dH1,eW X G dH2,eW X G dH3,eW X G dH4,eW X G dH5,eW X G bK3,eW X G a66,eW X G dH6,eW X G cL8⟩;have gW:=fA X G gW;have fN:=fA X G fN;have iS:=fA X G iS
 have wB:KT K jY (T_SMALL_PRIMES.map V.int):=kt_of tK tL tM;have jB:=fA X G jB;have mI:=fA X G mI;have mK:=fA X G mK;have mJ:=fA X G mJ;have bK2:=fA X G bK2;have a62:c55 K fK iA _ "left" "right":=cO4 (st:=pV) (x0:="self") (x1:="left") (x2:="right") a65 yE yF rfl bM3 rfl rfl rfl ac ac ac (λ_ _ _ _ _ _=>lN3 λ_ _ _=>rfl) sH yG yH yI yJ yK
 have aR8:c55 K i6 k8 _ "prime" "number":=cO4 (st:=wA) (x0:="self") (x1:="prime") (x2:="number") aS2 aF1 aF2 rfl cB5 rfl rfl rfl ac ac ac (λ_ _ _ _ _ _=>lN3 λ_ _ _=>rfl) wY aF4 aF5 aF6 aF7 aF8
 have rX: ∀n∈(["FallsApart","TooGreat","NotWhole"]:List Str),∀C,mg n=some (.ref C)->b05 K iB C [.type "ValueError",.type "Exception",.type "BaseException",.type "object"] "ValueError.__new__":=by
  intro n hn C hm;simp only[bE,eY,fE]at hn;rcases hn with rfl|rfl|rfl
  . (have e:=hm.symm.trans jB;cases e;exact b07 (.inr ⟨_,mZ⟩) sH jZ)
  . (have e:=hm.symm.trans mK;cases e;exact b07 (.inl rZ) aF3 kY)
  . (have e:=hm.symm.trans mI;cases e;exact b07 (.inr ⟨_,rW⟩) wY kZ)
 have U5:=bA3 (st:=aH4) h5.2.1 h5.2.2.1 h5.2.2.2;have U55:=bA3 (st:=aY0) h55.2.1 h55.2.2.1 h55.2.2.2;have UR:=bA3 (st:=aE5) cL6 c13 c14;refine⟨fnOf "law" "law" (jQ aY0) (eG aY0) (aJ aY0) .none P55.choose.kV P55.choose.dc P55.choose.pm P55.choose.an P55.choose.cd P55.choose.ct,λs v=> .of_eq rfl,λbase _ _=> ?_⟩
 have mB:= @fn_b l.prog w K mg base h X G;have mX:= @fnX_b l.prog w K mg base h X G;have a55:=mB P1 (by walk_at "b1") bI2 ag (λ_ _ _ _ _ _ hr=>cZ2 Z hr) d95
 have aR9:=mB P2 ai cB2 ag (λ_ _ _ _ _ _ hr=>c05 Z hr) c71
 have cW:=mB P3 ai eS ag (λ_ _ _ _ _ _ hr=>aY6 Z a55 hr) b10
 have pF:=mB P4 ai u6 ag (λ_ _ _ _ _ _ hr=>bN0 Z hr) bY1
 have pE:=mB P6 ai c00 ag (λ_ _ _ _ _ _ hr=>bN1 Z hr) bX4
 have cZ8:Fn l.prog w K mg base "det" jU 1 (hG 0):=Fn.void U5 (fA X G h5.1) (U5.binds (ps:=jU)<|by walk_at "b1") cH9
 have cZ9:Fn l.prog w K mg base "det" jU 2 (hG 1):=Fn.mk' U5 (fA X G h5.1) (U5.binds (ps:=jU)<|by walk_at "b1") pU (aG3 _) (λcdv A outer s H E hr=>aI0 Z ac cZ8 pE hr) (aU4 0 ac)
 have d00:Fn l.prog w K mg base "det" jU 3 (hG 2):=Fn.mk' U5 (fA X G h5.1) (U5.binds (ps:=jU)<|by walk_at "b1") pU (aG3 _) (λcdv A outer s H E hr=>aI0 Z ac cZ9 pE hr) (aU4 1 ac)
 have d01:Fn l.prog w K mg base "det" jU 4 (hG 3):=Fn.mk' U5 (fA X G h5.1) (U5.binds (ps:=jU)<|by walk_at "b1") pU (aG3 _) (λcdv A outer s H E hr=>aI0 Z ac d00 pE hr) (aU4 2 ac)
 have d02:Fn l.prog w K mg base "det" jU 5 (hG 4):=Fn.mk' U5 (fA X G h5.1) (U5.binds (ps:=jU)<|by walk_at "b1") pU (aG3 _) (λcdv A outer s H E hr=>aI0 Z ac d01 pE hr) (aU4 3 ac)
 have aY8:=d02;have aE9:=mB P8 ai a50 ag (λ_ _ _ _ _ _ hr=>bN2 Z hr) bY4
 have a56:=mB P9 ai xW ag (λ_ _ _ _ _ _ hr=>bJ0 Z aE9 hr) bL7
 have b32:=mB P7 (by walk_at "b3") aR3 ag (λ_ _ _ _ _ _ hr=>cC2 Z a56 hr) cI8
 have yA:=mB P10 ai iQ ag (λ_ _ _ _ _ _ hr=>b75 Z hr) bF9
 have bJ9:=mB P11 (by walk_at "b1") zG ag (λ_ _ _ _ _ _ hr=>cL0 Z hr) cX2
 have iE:=mB P12 (by walk_at "b0") aY1 ag (λ_ _ _ _ _ _ hr=>aR6 Z iS wB hr) aV1
 have aI1:=mB P15 (by walk_at "b6") cK3 ag (λ_ _ _ _ _ _ hr=>cC4 Z hr) cJ3
 have a57:=mB P14 (by walk_at "b3") gY ag (λ_ _ _ _ _ _ hr=>bJ1 Z yA aI1 hr) bM0
 have bJ8:=mB P16 ai zH ag (λ_ _ _ _ _ _ hr=>cL1 Z hr) cX9
 have b33:=mB P13 (by walk_at "b3") oQ ag (λ_ _ _ _ _ _ hr=>cC3 Z a57 bJ8 hr) cJ5
 have pG:=mB P17 (by walk_at "b3") aY2 ag (λ_ _ _ _ _ _ hr=>bN3 Z b32 b33 hr) bZ4
 have rV:=mB P18 (by walk_at "b1") aY3 ag (λ_ _ _ _ _ _ hr=>aR7 Z gW hr) aU5
 have dP:=mB P19 (by walk_at "b1") aI9 ag (λ_ _ _ _ _ _ hr=>aE6 Z rV hr) aI6
 have mY:=mB P21 (by walk_at "b1") xX ag (λ_ _ _ _ _ _ hr=>bJ2 Z hr) bL5
 have pW:=mB P22 (by walk_at "b1") oR ag (λ_ _ _ _ _ _ hr=>aJ1 Z mY pF cW hr) aP9
 have a58:=mB P24 ai xY ag (λ_ _ _ _ _ _ hr=>bJ3 Z bJ9 hr) bL6
 have mD:=mB P23 (by walk_at "b1") gI ag (λ_ _ _ _ _ _ hr=>a53 Z mY a58 hr) a85
 have b34:=mB P20 (by walk_at "b1") aR4 ag (λ_ _ _ _ _ _ hr=>cC5 Z dP pW mD hr) cI5
 have yB:=mB P26 ai jX ag (λ_ _ _ _ _ _ hr=>b76 Z hr) bD3
 have aF0:=mB P25 (by walk_at "b1") a51 ag (λ_ _ _ _ _ _ hr=>bN4 Z dP yB aY8 hr) bX5
 have gA:=mB P27 ai bM1 ag (λ_ _ _ _ _ _ hr=>bJ4 Z a55 hr) bL1
 have wC:=mB P30 ai nT ag (λ_ _ _ _ _ _ hr=>b30 Z hr) b67
 have a59:=mB P29 (by walk_at "b3") cB3 ag (λ_ _ _ _ _ _ hr=>c06 Z gA hr) c62
 have wD:=mB P28 (by walk_at "b3") kQ ag (λ_ _ _ _ _ _ hr=>b29 Z gA wC cW a59 hr) b68
 have yC:=mB P32 ai iR ag (λ_ _ _ _ _ _ hr=>b77 Z pF wD hr) bE4
 have mG:=mB P34 ai fH ag (λ_ _ _ _ _ _ hr=>a54 Z hr) a86
 have oU:=mB P33 ai tW ag (λ_ _ _ _ _ _ hr=>aE7 Z mG hr) aI7
 have a61:=mB P31 ai xZ ag (λ_ _ _ _ _ _ hr=>bJ5 Z iE yC gA oU hr) bL2
 have a60:=mB P36 ai bM2 ag (λ_ _ _ _ _ _ hr=>bJ6 Z a61 cW hr) bL3
 have yD:=mB P35 ai bI3 ag (λ_ _ _ _ _ _ hr=>b78 Z iE a60 hr) bE6
 have wE:=mB P37 ai iY ag (λ_ _ _ _ _ _ hr=>b31 Z cW hr) b70
 have oW:=mX P38 (by walk_at "b1") w8 rfl aC0 (λ_ _ _ _ _ _ hr=>aE8 Z jB mZ a62 b34 hr) aI8
 have tJ:=mX P39 ai nU rfl aV4 (λ_ _ _ _ _ _ hr=>aY7 Z mI rW aR8 wE yD aR9 hr) b15
 have aS0:=mB P40 ai dS3 ag (λ_ _ _ _ _ _ hr=>dG3 Z hr) dN9
 have aI2:=mB P41 (by walk_at "b3") bI4 ag (λ_ _ _ _ _ _ hr=>cZ3 Z hr) d85
 have sG:=mB P42 (by walk_at "b3") zI ag (λ_ _ _ _ _ _ hr=>cZ4 Z aI2 hr) d86
 have aI3:=mB P43 ai a52 ag (λ_ _ _ _ _ _ hr=>cC6 Z hr) cI9
 have cL4:=mB P44 ai aH7 ag (λ_ _ _ _ _ _ hr=>dG4 Z sG aI3 hr) dP9
 have a63:=mB P45 (by walk_at "b1") y8 ag (λ_ _ _ _ _ _ hr=>bJ7 Z aI2 hr) bL9
 have okR:OkC K sC ["poly","degree","measure"]:=⟨⟨pg_Ring,c15,po_Ring,c16⟩,λf hf=>by
  simp only[bE,eY,fE]at hf;rcases hf with rfl|rfl|rfl
  .exact c17
  .exact b36
  .exact aS3⟩
 have fR:=d84 UR cS7 okR ac ac ac cX4 ac (λcdv A outer s H E hr=>cZ7 Z fN mK rZ dP aF0 oW tJ hr) dB6
 have bR:=UR.binds (ps:=["self","poly"]) λ_ _ _ _ _ _ us hl=>match us,hl with| [_,_],_=>rfl
 have b98:MkX l.prog w K mg base "Ring" 10 ["poly","degree","measure"] yV:=⟨sC,aZ0,_,["self","poly"],Mk.mk mk_Ring c12 fn_Ring kc_Ring,okR,fR,bR,bK2⟩;have cL5:=mB P46 (by walk_at "b3") aH8 ag (λ_ _ _ _ _ _ hr=>dG5 Z mJ sV rX b98 cL4 aS0 a63 hr) dP7
 have aI4:=mB P47 ai bI5 ag (λ_ _ _ _ _ _ hr=>cC7 Z hr) cK1
 have bK0:=mB P48 ai aH9 ag (λ_ _ _ _ _ _ hr=>cL2 Z hr) cY5
 have zJ:=mB P49 (by walk_at "b3") uG ag (λ_ _ _ _ _ _ hr=>cL3 Z hr) cY6
 have c08:=mB P50 (by walk_at "b1") dF8 ag (λ_ _ _ _ _ _ hr=>cZ5 Z hr) d89
 have dG8:=mB P51 ai sc_row ag (λ_ _ _ _ _ _ hr=>dS8 Z c08 hr) rd_row
 have aS1:=mB P52 ai cB4 ag (λ_ _ _ _ _ _ hr=>c07 Z dG8 hr) c93
 have aY9:=mB P53 ai dF9 ag (λ_ _ _ _ _ _ hr=>cZ6 Z hr) dF1
 have c09:=mB P54 (by walk_at "b3") dS4 ag (λ_ _ _ _ _ _ hr=>dG6 Z aI4 hr) dR9
 exact bV2 U55 oS dO1 (λcdv A outer s H E hr=>⟨bZ7,dS9 Z cL5 sG aS0 bK0 c09 aY9 zJ pG aS1 hr,rd_law⟩)
end M
open PySem PySem.W PyProof.Rows
local macro_rules| `(tactic| walk_at "f")=> `(tactic| (refine' M.fnAt ?x1 ?x2 ?x3 ?x4;(case x1=>k_is);(case x2=>k_is);(case x3=>k_is);(case x4=>k_is)))
namespace PySem.W.Fast
def tw5383677862079817585:=()
def tw5597462754619168864:=()
def tw17330331578045738774:=()
def tw3866039252327083754:=()
def tw11400132252228951973:=()
def tw15049407486227150317:=()
def tw2322145284096321617:=()
def tw794504038689031905:=()
def tw16726871719363340747:=()
def tw5260234307552928459:=()
def tw3106687091402239644:=()
def tw13996446221052890213:=()
def tw10038588653007788242:=()
def tw14180790072305762102:=()
def tw2762982304616125001:=()
def tw12417414969428659233:=()
def tw14979494008872302740:=()
def tw15356139007552034068:=()
def tw6331604987348104768:=()
def tw13973763059531570060:=()
def tw4764141981525540363:=()
def tw10905107051280197217:=()
def tw17153646853941037124:=()
def tw3369701277501891713:=()
def tw6074091409275519386:=()
def tw15355789193960723132:=()
def tw18188821493614994795:=()
def tw12650808491044205164:=()
def tw15542323201183741171:=()
def tw5038537697982778439:=()
def tw1772957678857550604:=()
def tw3584874036133202805:=()
def tw8403942513158482080:=()
def tw7662024236420341726:=()
def tw683364072408816680:=()
def tw7681626627644829865:=()
def tw2375590764607903093:=()
def tw9773820806455182677:=()
def tw4753345856853776600:=()
def tw9139628285735403836:=()
def tw1554472203237665712:=()
def tw15826543925691724736:=()
def tw6926285492602633017:=()
def tw8059450639821529951:=()
def tw17056378242171280254:=()
def tw5546371498484879926:=()
def tw6263115060626459922:=()
def tw9465036194432105080:=()
def tw8821900075072744181:=()
def tw523647100302616418:=()
def tw14351602874432928032:=()
def tw16948766664352756564:=()
def tw3164274131920853013:=()
def tw8013831524524371200:=()
def tw1188915003823691084:=()
def tw2928148248152965675:=()
def tw16219702390550676497:=()
def tw17109125529676057097:=()
def tw15840244753083624854:=()
def tw7509039039156555017:=()
def tw10911114282969893319:=()
def tw7745820419732186253:=()
def tw7421225426106308352:=()
def tw8903961419915071260:=()
def tw6093030462209900278:=()
def tw2858020732817894429:=()
def tw9231496257067096041:=()
def tw8171130340291760798:=()
def tw2328349019922224210:=()
def tw454872136620102643:=()
def tw3721478273812555812:=()
def tw16638256321352995174:=()
def tw11665476194539614120:=()
def tw8827641549680607312:=()
def tw14196101852611890495:=()
def tw182462470692320691:=()
def tw11089701152837191195:=()
def tw2595706501880374315:=()
def tw7391160109486843488:=()
def tw11469141861749600896:=()
def tw9255585887379678074:=()
def tw16330316403634823044:=()
def tw12946516941714966025:=()
def tw7643004852115669440:=()
def tw949903066174449591:=()
def tw3859761380630279135:=()
def tw4905032693629091852:=()
def tw5420085682100114308:=()
def tw12714639933144138551:=()
def tw6657928601832142368:=()
def tw3408548104493416262:=()
def tw16889707096984114656:=()
def tw79597599706979372:=()
def tw9128976581053620085:=()
def tw14793117099425054055:=()
def tw7666130994268779246:=()
def tw9510398649898638723:=()
def tw7991918921874660020:=()
def tw14610223030285469599:=()
def tw7980184236392092841:=()
def tw12212470123748794148:=()
def tw15434016856493998595:=()
def tw4192173736333739356:=()
def tw9818841772887575239:=()
def tw5923438103919374388:=()
def tw3215441107573257008:=()
def tw1698546235962654787:=()
def tw7106805217752271906:=()
def tw10498541698924030144:=()
def tw13335500612346209631:=()
def tw13929441909940207236:=()
def tw430833207767161077:=()
def tw15445260271995448291:=()
def tw12225324099957304350:=()
def tw17386713072884143708:=()
def tw3901071296057255308:=()
def tw8640917260291727354:=()
def tw17708670021977618722:=()
def tw20706289329965021:=()
def tw12968289677860976360:=()
def tw5333002897241137347:=()
def tw12615107433867517515:=()
def tw17961760106499832749:=()
def tw6181236641522387182:=()
def tw5816876721722002138:=()
def tw6469571762218074998:=()
def tw17742151931258398946:=()
def tw991333626758923250:=()
def tw12679968534416924556:=()
def tw2796618203189236375:=()
def tw17119124614958054347:=()
def tw10335821923143620405:=()
def tw9250032959682061488:=()
def tw968876799627645449:=()
def tw10363836638661773911:=()
def tw14224341393164720950:=()
def tw4675002179893429443:=()
def tw14225926330267355227:=()
def tw15404199841128225397:=()
def tw6435261237744684781:=()
def tw4188409566202343053:=()
def tw2151931124771977812:=()
def tw12286758234063560933:=()
def tw4108198948495987924:=()
def tw14358915016452002289:=()
def tw11999907164933838725:=()
def tw8146129691757888330:=()
def tw8282875087324315916:=()
def tw18193083564181914517:=()
def tw101056645123632493:=()
def tw6213008107179255659:=()
def tw5473936360137237675:=()
def tw14555102770593202760:=()
def tw824805018970046257:=()
def tw8989140364106589525:=()
def tw17933302534408440322:=()
def tw9331426046183076229:=()
def tw11766458209636470766:=()
def tw10053672679652538966:=()
def tw5176240530836295224:=()
end PySem.W.Fast
set_option maxRecDepth 100000 in
set_option maxHeartbeats 0 in
theorem PySem.Challenge.cw_ringhouse_k33_products_known_holds : PySem.Challenge.rw_ringhouse_k33_products_known.Holds := by
 w_on;o_law;k_head;(case hw=>w_witness2)
 k_fill
 refine M.walkM (l:=PySem.Challenge.rw_ringhouse_k33_products_known) (k:=13) (x:="_law_script") rfl rfl ⟨rfl,ac,ac⟩ (λw h Y=>PySem.W.kIn_of Y) ?F
 case F=>
  intro w mg fa h KX G hmg
  refine' M.all_mk KX G hmg ?P1 ?P2 ?P3 ?P4 ?P5 ?P6 ?P7 ?P8 ?P9 ?P10 ?P11 ?P12 ?P13 ?P14 ?P15 ?P16 ?P17 ?P18 ?P19 ?P20 ?P21 ?P22 ?P23 ?P24 ?P25 ?P26 ?P27 ?P28 ?P29 ?P30 ?P31 ?P32 ?P33 ?P34 ?P35 ?P36 ?P37 ?P38 ?P39 ?P40 ?P41 ?P42 ?P43 ?P44 ?P45 ?P46 ?P47 ?P48 ?P49 ?P50 ?P51 ?P52 ?P53 ?P54 ?P55 ?jB ?mI ?mK ?mJ ?bK2 ?aL2 ?b61 ?c12 ?a65 ?aS2 ?cL6 ?yE ?yF ?aF1 ?aF2 ?c13 ?c14 ?mZ ?rW ?rZ ?sV ?sH ?wY ?aF3 ?jZ ?kY ?kZ ?yG ?yH ?yI ?yJ ?yK ?aF4 ?aF5 ?aF6 ?aF7 ?aF8 ?mk_Ring ?fn_Ring ?kc_Ring ?pg_Ring ?c15 ?po_Ring ?c16 ?c17 ?b36 ?aS3 ?dG9 ?dH0 ?cL7 ?aS4 ?c18 ?aF9 ?c19 ?dH1 ?dH2 ?dH3 ?dH4 ?dH5 ?bK3 ?a66 ?dH6 ?cL8 ?gW ?fN ?iS ?tK ?tL ?tM
  (case P1|P2|P3|P4|P5|P6|P7|P8|P9|P10|P11|P12|P13|P14|P15|P16|P17|P18|P19|P20|P21|P22|P23|P24|P25|P26|P27|P28|P29|P30|P31|P32|P33|P34|P35|P36|P37|P38|P39|P40|P41|P42|P43|P44|P45|P46|P47|P48|P49|P50|P51|P52|P53|P54|P55=>walk_at "f");(case jB|mI|mK|mJ|bK2|aL2|b61|c12|a65|aS2|cL6|yE|yF|aF1|aF2|c13|c14|sH|wY|aF3|yI|yJ|yK|aF6|aF7|aF8|mk_Ring|fn_Ring|kc_Ring|pg_Ring|c15|po_Ring|c16|c17|b36|aS3|dG9|dH0|cL7|aS4|c18|aF9|c19|dH1|dH2|dH3|dH4|dH5|bK3|a66|dH6|cL8|gW|fN|iS|tK=>k_is);(case mZ|rW=>first|kernel_rfl|rfl);(case rZ|sV=>k_exc);(case jZ|kY|kZ|yG|yH|aF4|aF5=>first|kernel_rfl|rfl|decide);(case tL=>first|decide| (trace_state;decide +kernel));(case tM=>first| (show L2.Vals (List.map _ _) (List.toList _);simp only[M.T_SMALL_PRIMES,List.map];repeat (first|exact .nil|refine .cons (.int _ _) ?_))| (repeat constructor)|trace_state)
