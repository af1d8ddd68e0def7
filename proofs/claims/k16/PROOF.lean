import PyProof.Rows.All
import Wide.All
import OpenK.AllK
import Wide.FinOn
import Lean
import PyProof.EqAt
import PyProof.EqKinds
import PyProof.TupleCall
import PySem.Challenge.RW_ringhouse_k16_whole_verdicts
set_option Elab.async false
set_option linter.all false
open PySem.W (instObj methodObj plainGet plainOver takerIn makesIn emptyDict keepIn fnOf codeIn excIn notCls nsIn)
open List (set_cons_zero set_cons_succ replicate all_cons any_cons foldl drop_one Nodup)
open Nat (ne_of_gt le_of_eq mul_comm sub_zero)
open Int (le_total mul_nonneg dvd_add one_dvd)
open PySem.Heap (SameBut ExtBut FlyingW HeldW MadeExcOf)
open Option (getD_none bind_some)
open Array (toList)
set_option maxRecDepth 100000
set_option compiler.extract_closed false
set_option bootstrap.genMatcherCode false
local macro_rules | `(tactic| walk_at "z") => `(tactic| first|exact .inl rfl|exact .inr rfl|assumption)
def aa{p:Prop}(h:p:=by omega):p:=h
def ac{p:Prop}(h:p:=by decide):p:=h
def ad{p:Prop}(h:p:=by lia):p:=h
def ae{p:Prop}(h:p:=by simp):p:=h
def af{p:Prop}(h:p:=by decide +kernel):p:=h
def am{p:Prop}(h:p:=by rfl):p:=h
local macro_rules|`(↥$t)=>`(autoParam $t am._auto_1)|`(⇑$t)=>`(autoParam $t ac._auto_1)
local macro_rules|`(tactic|exists $t)=>`(tactic|simpa using $t)
local macro_rules|`(tactic|right)=>`(tactic|dsimp only)
def ag{p:Prop}(h:p:=by walk_at "n"):p:=h
def ah{p:Prop}(h:p:=by walk_at "b2"):p:=h
def aJ:= @List.getD_eq_getElem?_getD
def a6:= @if_neg
def aM:= @List.getElem?_eq_getElem
def a9:= @PySem.wpAny_bind
def aF:= @List.length_map
def a7:= @if_pos
def aD:= @Nat.le_refl
def aI:= @Nat.le_trans
def b7:= @Int.dvd_of_emod_eq_zero
def bC:= @PySem.Heap.get?_push_of_some
def bP:= @Int.emod_eq_zero_of_dvd
def aZ:= @Nat.lt_of_lt_of_le
def aN:= @PySem.wpAny_pure
def bH:= @List.mem_cons_of_mem
def bE:= @Bool.false_ne_true
def b9:= @List.size_toArray
def aW:= @PySem.Heap.lt_size
def bI:= @List.getElem?_map
def aX:= @Int.mul_zero
def bB:= @List.mem_cons
def cG:= @Int.emod_lt_of_pos
def bL:= @List.range_succ
def cP:= @List.mem_cons_self
def bU:= @List.mem_append
def bV:= @List.map_append
def cZ:= @PySem.Heap.get?_push_size
def cN:= @Nat.zero_lt_succ
def cH:= @Int.emod_nonneg
def bJ:= @Nat.ne_of_lt
def cQ:= @List.getElem_mem
def dS:= @List.forall_mem_cons
def dD:= @List.length_append
def cB:= @Int.zero_emod
def gK:= @Classical.byContradiction
def bS:= @Int.zero_add
def dE:= @Int.emod_eq_of_lt
def cC:= @List.mem_map
def dU:= @Int.toNat_natCast
def bK:= @PySem.wpAny_mono
def dG:= @List.lookup_cons
def cJ:= @Int.zero_mul
def gL:= @List.mem_append_right
def cR:= @Int.pow_zero
def fK:= @PySem.W.mg_none_of
def dW:= @List.mem_range
def dX:= @Int.natAbs_mul
def dI:= @Nat.lt_irrefl
def dJ:= @PySem.W.mg_of
def gW:= @Nat.add_sub_cancel
def dY:= @Int.add_zero
def fX:= @decide_eq_false
def kG:= @List.getElem?_eq_some_iff
def fY:= @List.length_set
def bW:= @congrArg
def fL:= @decide_eq_true
def lD:= @PyProof.Rows.callWith_type1
def iH:= @List.mem_singleton
def fM:= @List.map_cons
def eZ:= @List.map_map
def gX:= @Option.some.inj
def iI:= @Bool.and_eq_true
def jO:= @List.filterMap_cons
def d7:= @And.right
def kH:= @List.getElem?_eq_none
def fZ:= @Int.mul_comm
def jP:= @List.length_cons
def iZ:= @List.not_mem_nil
def nW:= @Int.eq_of_mul_eq_mul_left
def kI:= @List.replicate_succ
def gM:= @Int.pow_succ
def gA:= @Nat.zero_le
def nX:= @Int.dvd_mul_of_dvd_left
def lF:= @PySem.Heap.get?_none_of_le
def dL:= @if_false
def iJ:= @PySem.wpAny_holding
def qF:= @List.getElem?_append_right
def iK:= @Nat.add_assoc
def gY:= @Int.mul_emod
def iL:= @Int.le_of_dvd
def kJ:= @PySem.wpAny_newObj_type
def kK:= @PySem.wpAny_loadPart'
def uD:= @Int.mul_le_mul_of_nonneg_left
def kL:= @List.all_eq_true
def b84:= @set_cons_zero
def b85:= @set_cons_succ
def kM:= @List.ext_getElem
def dM:= @if_true
def jQ:= @Nat.mul_le_mul
def qG:= @PySem.wpAny_callSpecial?_slot
def qH:= @List.getElem?_cons_zero
def lH:= @PySem.wpAny_truthy_bool
def lJ:= @Nat.lt_succ_of_lt
def kN:= @List.mem_filter
def kO:= @List.append_nil
def kP:= @PySem.PassesOwn.never
def nY:= @List.map_congr_left
def iM:= @PySem.wpAny_field
def j0:= @Int.add_emod
def uE:= @List.length_eraseIdx_of_lt
def jR:= @Int.emod_emod
def lK:= @PySem.wpAny_call_entry
def zY:= @PySem.F.slot_tuple_iterator_next
def qI:= @PySem.Heap.get?_update_self
def qJ:= @Bool.beq_eq_decide_eq
def qK:= @PySem.codeAny_handlers_test
def qL:= @Int.emod_add_mul_ediv
def uF:= @List.getElem?_append_left
def zZ:= @PyProof.Rows.slot_tuple_getitem
def qM:= @List.getElem?_set_ne
def qN:= @PySem.wpAny_loadName_local
def iN:= @beq_iff_eq
def qO:= @Nat.pow_le_pow_right
def nZ:= @List.flatten_cons
def o7:= @decide_eq_true_eq
def o8:= @PySem.wpAny_loadPart_at
def o9:= @of_decide_eq_true
def oA:= @Int.natAbs_sub_le
def kQ:= @Int.mul_assoc
def uG:= @List.length_eq_zero_iff
def qP:= @beq_eq_false_iff_ne
def qQ:= @Array.length_toList
def qR:= @PySem.mem_of_lookup
def qS:= @PySem.wpAny_handleBy_cons
def qT:= @Int.toNat_of_nonneg
def lL:= @Bool.false_xor
def qU:= @PySem.Obj.data_mapFields
def qV:= @Nat.lt_of_le_of_lt
def oB:= @PySem.wpAny_passesOwn
def lM:= @Bool.true_xor
def a00:= @PySem.F.excBase_ValueError
def qW:= @PySem.Heap.get?_push_ne
def uH:= @Nat.mul_le_mul_right
def kR:= @PySem.wpAny_of_eq
def kS:= @Int.one_mul
def qX:= @List.length_take
def a01:= @List.mem_of_mem_eraseIdx
def uI:= @PyProof.Rows.call_isinstance_yes
def uJ:= @PySem.Heap.SameBut.update
def uK:= @Nat.mul_le_mul_left
def aI6:= @PySem.plainObj_wpAny_Assign_Attribute
def a02:= @List.pairwise_singleton
def oC:= @List.map_take
def uL:= @PySem.W.of_hideAll
def qY:= @PySem.wpAny_execs_nil
def uM:= @PySem.wpAny_Call_Name_kw
def qZ:= @List.nil_append
def uN:= @Bool.false_eq_true
def r6:= @Nat.not_lt_zero
def a03:= @List.getElem?_set_self
def lN:= @Int.mul_one
def j4:= @Prod.ext
def a04:= @List.take_of_length_le
def lP:= @Nat.pow_add
def uO:= @List.length_range
def oE:= @Nat.le_of_lt
def r8:= @PySem.Heap.size_push
def rC:= @PySem.isSubtype_type
def a05:= @PySem.builtinLookup_eq_fast
def oF:= @Nat.sub_self
def rD:= @Nat.add_le_add
def aI7:= @Int.dvd_of_mul_dvd_mul_left
def a06:= @List.mem_append_left
def uP:= @PySem.wpAny_execs_cons
def uQ:= @Nat.lt_succ_self
def lQ:= @PySem.call_meets
def uS:= @PySem.Heap.size_update
def a07:= @Int.mul_ediv_cancel'
def rF:= @PySem.wpAny_standAt
def a08:= @PySem.Heap.get?_update_ne
def a09:= @PySem.wpAny_isSubtype_exc
def a10:= @List.getElem_of_mem
def aI8:= @Decidable.byContradiction
def uT:= @Nat.min_eq_left
def aI9:= @PySem.F.args_tuple_add_2
def aJ0:= @PySem.AutoSeq1.wpAny_loadPart'
def aJ1:= @PySem.F.args_tuple_mul_2
def aJ2:= @Int.mul_fdiv_cancel_left
def oG:= @PySem.wpAny_Name
def uU:= @PySem.wpAny_setField
def uW:= @Int.natAbs_neg
def aJ3:= @List.getElem?_replicate
def aJ4:= @PySem.F.entry_tuple_add
def aJ5:= @PySem.F.entry_tuple_mul
def aJ6:= @List.getElem?_cons_succ
def aJ7:= @decide_eq_false_iff_not
def a11:= @PySem.wpAny_pyIter_list
def a12:= @Int.natAbs_add_le
def a13:= @Classical.not_not
def aJ8:= @PySem.wpAny_pyIter_rangeiter
def aJ9:= @PySem.W.cellsFrom_some
def aK0:= @PySem.F.slot_tuple_add
def aK1:= @PySem.Heap.get?_update_other
def aK2:= @PySem.F.slot_tuple_mul
def rG:= @Int.mul_add
def rH:= @Int.mul_pos
def uX:= @List.map_drop
def a14:= @List.length_drop
def lU:= @or_false
def a15:= @List.cons_append
def a16:= @List.any_eq_true
def aK3:= @List.length_replicate
def aK4:= @List.length_singleton
def aK5:= @PySem.Obj.isFreed_of_fields
def a17:= @Bool.eq_iff_iff
def a18:= @List.nodup_cons
def a19:= @List.of_mem_zip
def aK6:= @List.mem_of_getElem?
def uY:= @List.map_nil
def rJ:= @PySem.typeIs_int
def aK7:= @PySem.Calls.evalArgs_plain
def aK8:= @PySem.isinstance_false_int
def a20:= @PySem.typeLookup_type
def a21:= @List.sum_append
def aK9:= @Nat.pow_lt_pow_right
def aL0:= @List.pairwise_append
def uZ:= @Int.dvd_refl
def v4:= @Int.dvd_zero
def aL1:= @PySem.W.looks_clsIn
def v8:= @Int.pow_one
def aL2:= @List.mem_filterMap
def aL3:= @List.zip_cons_cons
def aL4:= @List.contains_cons
def aL5:= @Int.natAbs_natCast
def aL6:= @List.pairwise_cons
def aL7:= @List.append_of_mem
def a22:= @PySem.wpAny_attempt
def a23:= @Int.dvd_trans
def aL8:= @List.getElem?_set
def aL9:= @Bool.not_eq_true'
def aM0:= @Nat.le_succ_of_le
def aM1:= @List.ext_getElem?
def v9:= @PySem.wpAny_call
def a24:= @PySem.codeAny_mono
def aM2:= @PySem.noFill_tuple_add
def a25:= @PySem.wpAny_typeOf
def a26:= @PySem.seqIndex_neg
def a27:= @Nat.add_comm
def aM3:= @PySem.AutoSeq1.idx_int
def aM4:= @beq_self_eq_true
def a28:= @Nat.pow_succ
def a29:= @Nat.mul_succ
def a30:= @Int.sub_emod
def a31:= @Int.add_comm
def vA:= @PyProof.Rows.IsTup.new
def aM5:= @PySem.pushCells_keeps
def aM6:= @Int.natCast_mul
def aM7:= @Nat.one_ne_zero
def a32:= @PySem.seqIndex_of
def a33:= @Nat.le_succ
def a34:= @Nat.one_mul
def a35:= @Int.add_mul
def a36:= @Int.pow_add
open PySem PySem.Spec PyProof.Rows
section
variable {us its bmB:List Value}{a b it t f C dx sl l fI:Addr}{P prog q:Program}{w:World}{h g base h':Heap}{o oe:Obj}{t' i j k n tk k' last kt:Nat}{ch fp:List Addr}{x qual y f1 f2:Str}{e c tg iter elt:Expr}{N loose XN ks:List Str}{A:Around}{E Q:Value->Shared->Prop}{u v vl vu fl:Value}{s' s:Shared}{α:Type}{pos pos' tpos p cpos p2 spos py tp np:Pos}{pins:List (Addr×Obj)}{op:CmpOp}{K:PySem.W.Frag}{st:Stmt}{es ifs elts:List Expr}{body:List Stmt}{vs items xs:Array Value}{lo:Int}{hi:Option Int}{kw:List (Str×Value)}{mg:Str->Option Value}{fd:FuncData}{outer:List Env}{scope:Scope}{YP:World->Heap->Prop}{od:Option Addr}{φ:Φ}{T:Bool}{cl:List (Str×Addr)}{cap:List (Option Nat)}{js:List Nat}{esc:List (Str×NameKind)}{newId initId:String}
namespace L2
abbrev Key:=Sum Int Str
noncomputable def dS6:Key->Value->Bool
 | .inl k,v=>Value.isInt k v
 | .inr x,v=>Value.isStrOf x v
noncomputable def keyH (w:World):Key->Int
 | .inl k=>hashInt k
 | .inr x=>hashStr w x
theorem jG: ∀{k:Key} {v:Value},dS6 k v=true->(∃i t,k=Sum.inl i/\v=Value.int i t)\/(∃x t,k=Sum.inr x/\v=Value.str x t)
 | .inl i,v,h=>by
  obtain⟨t,e⟩:=Value.isInt_shape (k:=i) (v:=v) h;exact .inl ⟨i,t,rfl,e⟩
 | .inr x,v,h=>by
  obtain⟨t,e⟩:=Value.isStrOf_shape (x:=x) (v:=v) h;exact .inr ⟨x,t,rfl,e⟩
theorem key_ll (a b:Int):decide ((Sum.inl a:Key)=Sum.inl b)=(a==b):=by
 by_cases e:a=b
 .subst e;simp
 .have h: ¬(Sum.inl a:Key)=Sum.inl b:=λq=>e (Sum.inl.inj q)
  rw[fX h];exact(qP.mpr e).symm
theorem key_rr (a b:Str):decide ((Sum.inr a:Key)=Sum.inr b)=decide (a=b):=by
 by_cases e:a=b
 .subst e;simp
 .have h: ¬(Sum.inr a:Key)=Sum.inr b:=λq=>e (Sum.inr.inj q)
  rw[fX h,fX e]
theorem key_lr (a:Int)(b:Str):decide ((Sum.inl a:Key)=Sum.inr b)=false:=fX (λq=>nomatch q)
theorem key_rl (a:Str)(b:Int):decide ((Sum.inr a:Key)=Sum.inl b)=false:=fX (λq=>nomatch q)
noncomputable def cL5 (prog:Program)(w:World):PySem.KeyKind prog w Key where
 is:=dS6
 hash:=keyH w
 inj:=λv a b ha hb=>by
  rcases jG ha with⟨i,t,rfl,rfl⟩| ⟨x,t,rfl,rfl⟩
  .rcases jG hb with⟨j,u,rfl,e⟩| ⟨y,u,rfl,e⟩
   .injection e with e1 _;rw[e1]
   .exact nomatch e
  .rcases jG hb with⟨j,u,rfl,e⟩| ⟨y,u,rfl,e⟩
   .exact nomatch e
   .injection e with e1 _;rw[e1]
 byValue:=λk v h=>by
  rcases jG h with⟨i,t,rfl,rfl⟩| ⟨x,t,rfl,rfl⟩<;>rfl
 pyHash:=λhv h=>by
  rcases jG hv with⟨i,t,rfl,rfl⟩| ⟨x,t,rfl,rfl⟩
  .exact wpAny_pyHash_int h
  .exact wpAny_pyHash_str h
 eqBool:=λhu hv h=>by
  rcases jG hu with⟨i,t,rfl,rfl⟩| ⟨x,t,rfl,rfl⟩
  .rcases jG hv with⟨j,u,rfl,rfl⟩| ⟨y,u,rfl,rfl⟩
   .rw[key_ll]at h;exact wpAny_eqBool_int h
   .rw[key_lr]at h;exact SeqAt.EqAt.int_str i t y u _ _ _ _ h
  .rcases jG hv with⟨j,u,rfl,rfl⟩| ⟨y,u,rfl,rfl⟩
   .rw[key_rl]at h;exact SeqAt.EqAt.str_int x t j u _ _ _ _ h
   .rw[key_rr]at h;exact wpAny_eqBool_str h
 «strs» :=λk x t v h=>by
  rcases jG h with⟨i,u,rfl,e⟩| ⟨y,u,rfl,e⟩
  .exact nomatch e
  .injection e with e1 _
   subst e1;cases v<;>rfl
end L2
open L2
namespace L2
inductive V where
 | non|bl (b:Bool)|int (i:Int)|str (x:Str)|byt (b:Array UInt8)|flt (b:UInt64)|ref (a:Addr)|ty (n:String)
 deriving DecidableEq
def RelV:V->Value->Prop
 | .non,u=>u=Value.none
 | .bl b,u=>u=Value.bool b
 | .int i,u=> ∃t,u=Value.int i t
 | .str x,u=> ∃t,u=Value.str x t
 | .byt b,u=> ∃t,u=Value.bytes b t
 | .flt b,u=> ∃t,u=Value.float b t
 | .ref a,u=>u=Value.ref a
 | .ty n,u=>u=Value.type n
abbrev Vals:List V->List Value->Prop:=Paired RelV
theorem Vals.length {xs:List V}(r:Vals xs us):xs.length=us.length:=Paired.length r
theorem Vals.get: ∀{xs:List V} {us:List Value} {i:Nat} {x:V},Vals xs us->xs[i]? =some x-> ∃u,us[i]? =some u/\RelV x u
 | _,_,_,_,.nil,e=>by simp at e
 | _,_,0,_,.cons r _,e=>by simp at e;subst e;exact⟨_,rfl,r⟩
 | _,_,i+1,x,.cons _ t,e=>by
  obtain⟨u,h1,h2⟩:=Vals.get (i:=i) (x:=x) t (by exists e)
  exact⟨u,by simpa using h1,h2⟩
theorem Vals.set {x:V}{u:Value}(r:RelV x u): ∀{xs:List V} {us:List Value} (i:Nat),Vals xs us->Vals (xs.set i x) (us.set i u)
 | _,_,_,.nil=> .nil
 | _,_,0,.cons _ t=> .cons r t
 | _,_,i+1,.cons q t=> .cons q (Vals.set r i t)
theorem Vals.append: ∀{xs ys:List V} {us ws:List Value},Vals xs us->Vals ys ws->Vals (xs++ys) (us++ws)
 | _,_,_,_,.nil,s=>s
 | _,_,_,_,.cons r t,s=> .cons r (Vals.append t s)
theorem Vals.take: ∀{xs:List V} {us:List Value} (n:Nat),Vals xs us->Vals (xs.take n) (us.take n)
 | _,_,0,_=> .nil
 | _,_,_+1,.nil=> .nil
 | _,_,n+1,.cons r t=> .cons r (Vals.take n t)
theorem Vals.drop: ∀{xs:List V} {us:List Value} (n:Nat),Vals xs us->Vals (xs.drop n) (us.drop n)
 | _,_,0,r=>r
 | _,_,_+1,.nil=> .nil
 | _,_,n+1,.cons _ t=>Vals.drop n t
def c28:Option V->Option Value->Prop
 | some v,some u=>RelV v u
 | none,none=>True
 | _,_=>False
def KV {κ:Type}:List (κ×V)->List (κ×Value)->Prop:=Paired fun(p:κ×V) (q:κ×Value)=>p.1=q.1/\RelV p.2 q.2
noncomputable def kV:Key->V
 | .inl i=> .int i
 | .inr x=> .str x
inductive HO where
 | lst (xs:List V)
 | tup (xs:List V)
 | dK (kvs:List (Key×V))|dT (kvs:List (List Key×V))
 | set (S:Int->Bool) (n:Nat)
 | ins (C dx:Addr) (fs:List (Str×V))
 | own (x:Addr)
 | xd (fs:List (Str×V))
 | met (f x:Addr)
 | rng (lo hi:Int)
 | frz (o:Obj) (u:HO)
 | tbl (ps:Array Value)
 | ext (φ:Heap->Prop)
abbrev Hp:=Addr->Option HO
noncomputable def upd (H:Hp)(a:Addr)(o:HO):Hp:=λb=>if b=a then some o else H b
theorem jH {H:Hp}{o:HO}:upd H a o a=some o:=by unfold upd;rw[a7 rfl]
theorem cW {H:Hp}{o:HO}(h:b≠a):upd H a o b=H b:=by unfold upd;rw[a6 h]
theorem dN {H:Hp}{o:HO}(h:H a=some o)(h':H b=none):a≠b:=by
 intro e;subst e;rw[h]at h';cases h'
section
variable (P:Program)(w:World)
noncomputable def qA (H:Hp)(h:Heap)(a:Addr):HO->Prop
 | .lst xs=>xs.length<=sizeLine/\ ∃(its:List Value) (n:Nat),Vals xs its/\h.get? a=some {cls:= .type "list",data:= .seq its.toArray n}
 | .tup xs=>xs.length<=sizeLine/\ ∃its:List Value,Vals xs its/\IsTup h a its.toArray
 | .dK kvs=>kvs.length<=sizeLine/\(a==sysModules)=false/\ ∃vs,KV kvs vs/\h.DictOf (cL5 P w) a vs
 | .dT kvs=>kvs.length<=sizeLine/\(a==sysModules)=false/\ ∃xs:List (List Key×Addr×Value),
   Paired (fun(p:List Key×V) (q:List Key×Addr×Value)=>p.1=q.1/\H q.2.1=some (.tup<|p.1.map kV)/\RelV p.2 q.2.2) kvs xs/\
   ∃o es ep,h.get? a=some o/\o.ExactDict/\o.data= .dict es ep/\es.toList=xs.map (entryOfKey<|tupleKind<|cL5 P w)/\(xs.map (·.1)).Nodup
 | .set S n=>h.SetOf (intKind P w) a S n
 | .ins C dx fs=>H dx=some (.own a)/\fs.length<=1000/\dx≠a/\h.get? a=some (instObj C dx)/\
   ∃mA,h.Ns1 dx mA/\(∀f,c28 (fs.lookup f)<|mA f)/\PySem.Within mA (fs.map (·.1))
 | .own _=> ∃o,h.get? a=some o
 | .xd fs=> ∃mA,h.Ns1 a mA/\ ∀f,c28 (fs.lookup f) (mA f)
 | .rng lo hi=> ∃t u v,h.get? a=some {cls:= .type "range",data:= .fields #[.int lo t,.int hi u,.int 1 v]}
 | .frz o u=>h.get? a=some o/\qA H h a u
 | .tbl ps=>h.get? a=some {cls:= .none,data:= .fields ps}
 | .met f x=>h.get? a=some (methodObj (.ref f)<|.ref x)
 | .ext φ=>φ h/\(∃o,h.get? a=some o)/\ ∀h1 h2:Heap,φ h1->(∀o,h1.get? a=some o->h2.get? a=some o)->φ h2
def HOk (H:Hp)(h:Heap):Prop:= ∀a o,H a=some o->qA P w H h a o
end
section
variable {P:Program}{w:World}{H H':Hp}{h h':Heap}{a:Addr}{o:HO}
theorem qA.lt (x:qA P w H h a o):a<h.objs.size:=by
 cases o with
 | lst xs=>obtain⟨_,_,_,_,e⟩:=x;exact aW e
 | tup xs=>obtain⟨_,_,_,p⟩:=x;exact p.lt
 | dK kvs=>obtain⟨_,_,_,_,o,_,_,e,_⟩:=x;exact aW e
 | dT kvs=>obtain⟨_,_,_,_,o,_,_,e,_⟩:=x;exact aW e
 | set S n=>obtain⟨o,_,_,_,e,_⟩:=x;exact aW e
 | ins C dx fs=>obtain⟨_,_,_,e,_⟩:=x;exact aW e
 | own y=>obtain⟨_,e⟩:=x;exact aW e
 | xd fs=>obtain⟨_,⟨_,_,_,e,_⟩,_⟩:=x;exact aW e
 | rng lo hi=>obtain⟨_,_,_,e⟩:=x;exact aW e
 | frz ob u=>obtain⟨e,_⟩:=x;exact aW e
 | tbl ps=>exact aW (show h.get? a=some _ from x)
 | met f y=>exact aW (show h.get? a=some _ from x)
 | ext φ=>obtain⟨_,⟨_,e⟩,_⟩:=x;exact aW e
theorem Paired.mapP {α β:Type}{F G:α->β->Prop}: ∀{l₁:List α} {l₂:List β},Paired F l₁ l₂->(∀a b,F a b->G a b)->Paired G l₁ l₂
 | _,_,.nil,_=> .nil
 | _,_,.cons r t,f=> .cons (f _ _ r) (Paired.mapP t f)
theorem qA.stay (x:qA P w H h a o)(k: ∀b u,(b=a\/H b=some (.own a))->h.get? b=some u->h'.get? b=some u)
  (ho: ∀b,H b=some (.own a)->H' b=some (.own a)) (ht: ∀b xs,H b=some (.tup xs)->H' b=some (.tup xs)):qA P w H' h' a o:=by
 induction o with
 | lst xs=>obtain⟨z,its,n,r,e⟩:=x;exact⟨z,its,n,r,k _ _ (.inl rfl) e⟩
 | tup xs=>obtain⟨z,its,r,ob,e,c⟩:=x;exact⟨z,its,r,ob,k _ _ (.inl rfl) e,c⟩
 | dK kvs=>obtain⟨z,y,vs,r,ob,es,ep,e,c⟩:=x;exact⟨z,y,vs,r,ob,es,ep,k _ _ (.inl rfl) e,c⟩
 | dT kvs=>
  obtain⟨z,y,xs,r,ob,es,ep,e,c⟩:=x;exact⟨z,y,xs,Paired.mapP r λp q z=>⟨z.1,ht _ _ z.2.1,z.2.2⟩,ob,es,ep,k _ _ (.inl rfl) e,c⟩
 | set S n=>obtain⟨ob,es,ep,t,e,c⟩:=x;exact⟨ob,es,ep,t,k _ _ (.inl rfl) e,c⟩
 | ins C dx fs=>
  obtain⟨d,z,ne,e,mA,⟨od,es,ep,e2,c⟩,r⟩:=x;exact⟨ho _ d,z,ne,k _ _ (.inl rfl) e,mA,⟨od,es,ep,k _ _ (.inr d) e2,c⟩,r⟩
 | own y=>obtain⟨ob,e⟩:=x;exact⟨ob,k _ _ (.inl rfl) e⟩
 | xd fs=>obtain⟨mA,⟨od,es,ep,e,c⟩,r⟩:=x;exact⟨mA,⟨od,es,ep,k _ _ (.inl rfl) e,c⟩,r⟩
 | rng lo hi=>obtain⟨t,u,v,e⟩:=x;exact⟨t,u,v,k _ _ (.inl rfl) e⟩
 | frz ob u ih=>obtain⟨e,q⟩:=x;exact⟨k _ _ (.inl rfl) e,ih q⟩
 | tbl ps=>
  have e:h.get? a=some {cls:= .none,data:= .fields ps}:=x;show h'.get? a=some {cls:= .none,data:= .fields ps};exact k a _ (.inl rfl) e
 | met f y=>
  have e:h.get? a=some (methodObj (.ref f)<|.ref y):=x;show h'.get? a=some (methodObj (.ref f)<|.ref y);exact k a _ (.inl rfl) e
 | ext φ=>obtain⟨p,⟨o,e⟩,st⟩:=x;exact⟨st _ _ p λo q=>k _ _ (.inl rfl) q,⟨o,k _ _ (.inl rfl) e⟩,st⟩
theorem HOk.lt (x:HOk P w H h)(e:H a=some o):a<h.objs.size:=(x a o e).lt
theorem HOk.fresh (x:HOk P w H h)(e:h.objs.size<=a):H a=none:=by
 cases q:H a with
 | none=>rfl
 | some u=>exact absurd (aZ (x.lt q) e) (dI _)
theorem HOk.kept (x:HOk P w H h)(k: ∀b u,h.get? b=some u->h'.get? b=some u):HOk P w H h':=λa o e=>
 (x a o e).stay (λb u _ q=>k b u q) (λ_ q=>q) λ_ _ q=>q
theorem HOk.laid (x:HOk P w H h)(k: ∀b u,h.get? b=some u->h'.get? b=some u)(hp:h.objs.size<=a)(new:qA P w (upd H a o) h' a o):HOk P w (upd H a o) h':=λb u e=>by
 have hn:=x.fresh hp
 by_cases hb:b=a
 .subst hb;rw[jH]at e;cases e;exact new
 .rw[cW hb]at e;exact(x b u e).stay (λc v _ q=>k c v q) (λc q=>by rw[cW<|dN q hn];exact q) λc xs q=>by rw[cW<|dN q hn];exact q
end
def Rd (H:Hp)(a:Addr)(u:HO):Prop:=H a=some u\/ ∃o,H a=some (.frz o u)
theorem Rd.ok {H:Hp}{u:HO}(r:Rd H a u)(x:HOk P w H h):qA P w H h a u:=by
 rcases r with r| ⟨o,r⟩
 .exact x a u r
 .obtain⟨_,q⟩:=x a _ r;exact q
def Mut:Option HO->Prop
 | some (.lst _)=>True
 | some (.dK _)=>True
 | some (.dT _)=>True
 | some (.set _ _)=>True
 | some (.ins _ _ _)=>True
 | some (.ext _)=>True
 | _=>False
section
variable {P:Program}{w:World}{H:Hp}{h h':Heap}{x e:Addr}{o':HO}
theorem HOk.write (ok:HOk P w H h)(mu:Mut (H x))(he:e=x\/H e=some (.own x))(k: ∀b u,b≠e->h.get? b=some u->h'.get? b=some u)(heo: ∃u,h'.get? e=some u)
  (new:qA P w (upd H x o') h' x o'):HOk P w (upd H x o') h':=λb u q=>by
 have nown: ∀c y,H c=some (.own y)->c≠x:=λc y r z=>by subst z;rw[r]at mu;exact mu
 have ntup: ∀c xs,H c=some (.tup xs)->c≠x:=λc xs r z=>by subst z;rw[r]at mu;exact mu
 by_cases hb:b=x
 .subst hb;rw[jH]at q;cases q;exact new
 .rw[cW hb]at q
  by_cases hbe:b=e
  .have q':H b=some (.own x):=by
    rcases he with z|z
    .exact absurd (hbe.trans z) hb
    .rw[hbe];exact z
   rw[q]at q';cases q';obtain⟨v,hv⟩:=heo;exact⟨v,by rw[hbe];exact hv⟩
  .refine(ok b u q).stay (λc v hc r=>k c v ?_ r) (λc r=>by rw[cW<|nown c b r];exact r) λc xs r=>by rw[cW<|ntup c xs r];exact r
   rcases hc with rfl|hc
   .exact hbe
   .rintro rfl;rcases he with z|z
    .exact nown c b hc z
    .rw[hc]at z;cases z;exact hb rfl
end
structure Un (fs ex:List Addr)(H H':Hp)(h h':Heap):Prop where
 keep: ∀b o,h.get? b=some o->H b=none->b ∉ fs->b ∉ ex->h'.get? b=some o
 slot: ∀b o,h.get? b=some o->H b=none->b∈fs->b ∉ ex-> ∃sl,h'.get? b=some {o with slots:=sl}
 free: ∀b o,h.get? b=some o->H b=none->b ∉ ex->H' b=none
 there: ∀b o,h.get? b=some o->b ∉ ex-> ∃o',h'.get? b=some o'
 tups: ∀b xs,H b=some (.tup xs)->H' b=some (.tup xs)
 frzs: ∀b o u,H b=some (.frz o u)->H' b=some (.frz o u)
 tbls: ∀b ps,H b=some (.tbl ps)-> ∃more,H' b=some (.tbl<|ps++more)
section
variable {fs fs' ex ex':List Addr}{H H1 H2:Hp}{h h1 h2 h':Heap}{a x e:Addr}{o:HO}
theorem Un.any (u:Un fs ex H H1 h h1){ob:Obj}(q:h.get? b=some ob)(n:H b=none)(hx:b ∉ ex): ∃sl,h1.get? b=some {ob with slots:=sl}:=by
 by_cases hb:b∈fs
 .exact u.slot b ob q n hb hx
 .exact⟨ob.slots,u.keep b ob q n hb hx⟩
theorem Un.kept (k: ∀b u,h.get? b=some u->h'.get? b=some u):Un fs ex H H h h':=
 ⟨λb ob q _ _ _=>k b ob q,λb ob q _ _ _=>⟨ob.slots,k b ob q⟩,λ_ _ _ n _=>n,λb ob q _=>⟨ob,k b ob q⟩,λ_ _ q=>q,λ_ _ _ q=>q,λ_ ps q=>⟨#[],by rw[q];simp⟩⟩
theorem Un.refl:Un fs ex H H h h:=Un.kept λ_ _ q=>q
theorem Un.laid (k: ∀b u,h.get? b=some u->h'.get? b=some u)(hp:h.objs.size<=a)(hn:H a=none):Un fs ex H (upd H a o) h h' where
 keep:=λb u q _ _ _=>k b u q
 slot:=λb u q _ _ _=>⟨u.slots,k b u q⟩
 free:=λb u q n _=>by rw[cW<|bJ<|aZ (aW q) hp];exact n
 there:=λb u q _=>⟨u,k b u q⟩
 tups:=λb xs q=>by rw[cW<|dN q hn];exact q
 frzs:=λb u xs q=>by rw[cW<|dN q hn];exact q
 tbls:=λb ps q=>⟨#[],by rw[cW<|dN q hn,q];simp⟩
theorem Un.write (mu:Mut (H x))(he:e=x\/H e=some (.own x))(k: ∀b u,b≠e->h.get? b=some u->h'.get? b=some u)(heo: ∃u,h'.get? e=some u):Un fs ex H (upd H x o) h h':=by
 have hx: ∀b,H b=none->b≠x:=λb n z=>by subst z;rw[n]at mu;exact mu
 have hb: ∀b,H b=none->b≠e:=λb n z=>by
  subst z;rcases he with r|r
  .exact hx b n r
  .rw[n]at r;cases r
 have hm: ∀b u,H b=some u-> ¬Mut (some u)->b≠x:=λb u q nm z=>by subst z;rw[q]at mu;exact nm mu
 refine⟨λb u q n _ _=>k b u (hb b n) q,λb u q n _ _=>⟨u.slots,k b u (hb b n) q⟩,λb u q n _=>by rw[cW<|hx b n];exact n,λb u q _=> ?_,
  λb xs q=>by rw[cW<|hm b _ q λz=>z];exact q,λb u xs q=>by rw[cW<|hm b _ q λz=>z];exact q,λb ps q=>⟨#[],by rw[cW<|hm b _ q λz=>z,q];simp⟩⟩
 by_cases hbe:b=e
 .subst hbe;exact heo
 .exact⟨u,k b u hbe q⟩
end
noncomputable def trk (h:Heap)(H:Hp):List Addr:=(List.range h.objs.size).filter λa=>(H a).isSome
noncomputable def bT6 (h:Heap)(H:Hp):Heap:=PySem.W.hideAll h (trk h H)
theorem cS0 (h:Heap)(H:Hp):(bT6 h H).objs.size=h.objs.size:=PySem.W.hideAll_size _ _
theorem cZ0 {H:Hp}(e:h.get? b=some o)(n:H b=none):(bT6 h H).get? b=some o:=
 PySem.W.hideAll_get _ e λhm=>by
  have q:(H b).isSome=true:=(kN.mp hm).2;rw[n]at q;simp at q
theorem dH2 {H:Hp}(e:(bT6 h H).get? b=some o):h.get? b=some o/\H b=none:=by
 have e':h.get? b=some o:=uL (trk h H) e;refine⟨e',?_⟩;cases q:H b with
 | none=>rfl
 | some x=>
  have hm:b∈trk h H:=kN.mpr ⟨dW.mpr<|aW e',by simp[q]⟩
  have z:(bT6 h H).get? b=none:=PySem.W.hideAll_none (trk h H) hm;rw[z]at e;cases e
noncomputable def dH3 (g h:Heap)(L:Addr):List (Addr×Obj):=(List.range h.objs.size).filterMap λa=>if a=L\/(g.get? a).isSome=true then none else(h.get? a).map λo=>(a,o)
noncomputable def tY (g h:Heap)(L d:Addr):List (Addr×Obj):=(dH3 g h L).filter λp=>decide (p.1≠d)
structure Mod (K:PySem.W.Frag)(mg:Str->Option Value)(base:Heap):Prop where
 kin:K.In base
 glob:base.Ns mainGlobals mg
 blt: ∃mb,base.Ns builtinsNs mb/\ ∀x:Str,x≠"__name__"->mb x=bootBuiltins x
 nolimit:base.NoLimit
structure Cx where
 prog:Program
 w:World
 K:PySem.W.Frag
 mg:Str->Option Value
 base:Heap
 A:Around
 N:List Str
 s₀:Shared
 H₀:Hp
 env:Env
 outer:List Env
 stack:List Env
 ex:List Addr
 fn:Str->Bool
 calm:Bool
 pn:List (Addr×Obj)
 xe:Value->Shared->Prop
noncomputable def frs (l:List Env):List Addr:=l.filterMap (·.frame)
noncomputable abbrev Cx.fs (X:Cx):List Addr:=frs X.outer
def Vis (sc:Scope)(x:Str):Prop:=sc.names.lookup x=some .local\/sc.names.lookup x=some .cell\/sc.names.lookup x=some .free
def Loc (sc:Scope)(x:Str):Prop:=sc.names.lookup x=some .local\/sc.names.lookup x=some .cell
def Look (env:Env)(h:Heap)(m:Str->Option Value)(x:Str)(u:Value):Prop:=
 (env.kindOf x=some .local/\m x=some u)\/((env.kindOf x=some .cell\/env.kindOf x=some .free)/\ ∃c,env.cells.lookup x=some c/\h.IsCell c (some u))
structure Cx.Ok (X:Cx):Prop where
 mod:Mod X.K X.mg X.base
 kind:X.env.scope.kind= .function
 glob:X.env.globals=mainGlobals
 blt:X.env.builtins=builtinsNs
 above:X.s₀.heap.objs.size<=X.env.locals
 inj: ∀x y c,X.env.cells.lookup x=some c->X.env.cells.lookup y=some c->x=y
 has: ∀x,(X.env.kindOf x=some .cell\/X.env.kindOf x=some .free)-> ∃c,X.env.cells.lookup x=some c
 cab: ∀x c,X.fn x=true->X.env.cells.lookup x=some c->X.s₀.heap.objs.size<=c
 hd:X.calm=true->X.A.handled=none
 frames:X.A.frames=some X.stack
 stk:X.stack=X.outer\/(X.stack=X.env::X.outer/\X.env.frame=some X.env.locals)
 exf: ∀b∈X.ex,b≠X.env.locals/\ ∀x c,X.env.cells.lookup x=some c->c≠b
 bs: ∀b o,X.base.get? b=some o->X.s₀.heap.get? b=some o/\X.H₀ b=none
 bsz:X.base.objs.size<=X.s₀.heap.objs.size
 noex: ∀b o,X.base.get? b=some o->b ∉ X.ex
 exfs: ∀b∈X.ex,b ∉ X.fs
 funs:X.s₀.heap.FunFrames X.base X.outer
 frf: ∀b∈X.fs,X.H₀ b=none
structure Inv (X:Cx)(pins:List (Addr×Obj))(σ:List (Option V))(H:Hp)(s:Shared):Prop where
 ok:X.Ok
 os:s.os=X.s₀.os
 bare:AllBare s.gens
 base:Un X.fs X.ex X.H₀ H X.s₀.heap s.heap
 loc: ∃m,s.heap.Ns X.env.locals m/\ ∀(i:Nat) (x:Str) (v:V),X.N[i]? =some x->σ[i]? =some (some v)->Vis X.env.scope x-> ∃u,RelV v u/\Look X.env s.heap m x u
 cell: ∀x c,X.env.cells.lookup x=some c-> ∃v,s.heap.IsCell c v
 free:H X.env.locals=none
 freeC: ∀x c,X.env.cells.lookup x=some c->H c=none
 pin: ∀p∈X.pn++pins,s.heap.get? p.1=some p.2/\H p.1=none/\p.1≠X.env.locals/\p.1 ∉ X.fs/\ ∀v,p.2.data≠ .cell v
 hok:HOk X.prog X.w H s.heap
 len:σ.length=X.N.length
section
variable {X:Cx}{pins:List (Addr×Obj)}{σ:List (Option V)}{H H':Hp}{s:Shared}{h':Heap}
theorem Cx.Ok.nofr (ok:X.Ok)(e:X.base.get? b=some o):b ∉ X.fs:=λhb=>by
 have:=(ok.funs.mem hb).1;rw[e]at this;cases this
theorem Inv.bs (I:Inv X pins σ H s): ∀b o,X.base.get? b=some o->s.heap.get? b=some o/\H b=none:=λb o e=>
 ⟨I.base.keep b o (I.ok.bs b o e).1 (I.ok.bs b o e).2 (I.ok.nofr e)<|I.ok.noex b o e,I.base.free b o (I.ok.bs b o e).1 (I.ok.bs b o e).2<|I.ok.noex b o e⟩
theorem Inv.bk (I:Inv X pins σ H s): ∀b o,X.base.get? b=some o->s.heap.get? b=some o:=λb o e=>(I.bs b o e).1
theorem Inv.mod (I:Inv X pins σ H s):Mod X.K X.mg X.base:=I.ok.mod
theorem Inv.kIn (I:Inv X pins σ H s):X.K.In s.heap:=I.ok.mod.kin.keeps I.bk
theorem Inv.nolimit (I:Inv X pins σ H s):s.heap.NoLimit:=I.ok.mod.nolimit.keeps I.bk
theorem Inv.lt (I:Inv X pins σ H s):X.env.locals<s.heap.objs.size:=let ⟨_,hn,_⟩:=I.loc;hn.lt
theorem Inv.sz (I:Inv X pins σ H s):X.s₀.heap.objs.size<=s.heap.objs.size:=aI I.ok.above (oE I.lt)
theorem Inv.nofs (I:Inv X pins σ H s)(h:s.heap.objs.size<=a):a ∉ X.fs:=λhb=>by
 obtain⟨_,o,ho,_⟩:=I.ok.funs.mem hb;exact absurd (aZ (aW ho)<|aI I.sz h) (dI _)
theorem Inv.cne (I:Inv X pins σ H s): ∀x c,X.env.cells.lookup x=some c->c≠X.env.locals:=λx c e z=>by
 obtain⟨v,o,ho,hd⟩:=I.cell x c e;obtain⟨m,⟨o',es,ep,ho',hd',_⟩,_⟩:=I.loc;rw[z,ho']at ho;cases ho;rw[hd']at hd;cases hd
theorem Inv.funs (I:Inv X pins σ H s):s.heap.FunFrames X.base X.outer:=by
 have all: ∀(l:List Env),(∀b∈frs l,b∈X.fs)->X.s₀.heap.FunFrames X.base l->s.heap.FunFrames X.base l:=by
  intro l
  induction l with
  | nil=>intro _ _;trivial
  | cons env r ih=>
   intro hs hl;obtain⟨hk,⟨L,o,hf,hn,ho,hd⟩,hr⟩:=hl;have hL:L∈X.fs:=hs L (by unfold frs;rw[jO,hf];exact cP)
   obtain⟨sl,e⟩:=I.base.slot L o ho (I.ok.frf L hL) hL λz=>I.ok.exfs L z hL
   exact⟨hk,⟨L,_,hf,hn,e,hd⟩,ih (λb hb=>hs b (by unfold frs;rw[jO,hf];exact bH _ hb)) hr⟩
 exact all X.outer (λ_ hb=>hb) I.ok.funs
theorem Inv.stack (I:Inv X pins σ H s):s.heap.FunFrames X.base X.stack:=by
 rcases I.ok.stk with e| ⟨e,hf⟩
 .rw[e];exact I.funs
 .rw[e];obtain⟨m,hn,_⟩:=I.loc;refine .cons (by rw[I.ok.kind];decide) hf hn ?_ I.funs
  exact lF (aI I.ok.bsz I.ok.above)
theorem Inv.stkSub (I:Inv X pins σ H s): ∀b∈frs X.stack,b∈X.env.locals::X.fs:=λb hb=>by
 rcases I.ok.stk with e| ⟨e,hf⟩
 .rw[e]at hb;exact bH _ hb
 .rw[e]at hb;unfold frs at hb;rw[jO,hf]at hb;exact hb
theorem Inv.stkFree (I:Inv X pins σ H s): ∀b∈frs X.stack,H b=none:=λb hb=>by
 rcases bB.mp (I.stkSub b hb)with e|hb
 .rw[e];exact I.free
 .obtain⟨_,o,ho,_⟩:=I.ok.funs.mem hb;exact I.base.free b o ho (I.ok.frf b hb) λz=>I.ok.exfs b z hb
theorem Inv.step {g':Array GenState}{d':Drawn}(I:Inv X pins σ H s)
  (hch: ∀b∈ch,(b∈X.ex\/X.s₀.heap.objs.size<=b)/\b≠X.env.locals/\(∀x c,X.env.cells.lookup x=some c->c≠b)/\ ∀p∈X.pn++pins,p.1≠b)
  (keep: ∀b o,b≠X.env.locals->b ∉ X.fs->b ∉ ch->s.heap.get? b=some o->H b=none->h'.get? b=some o)
  (slot: ∀b o,b≠X.env.locals->b∈X.fs->b ∉ ch->s.heap.get? b=some o->H b=none-> ∃sl,h'.get? b=some {o with slots:=sl}) (free: ∀b o,b ∉ ch->s.heap.get? b=some o->H b=none->H' b=none)
  (there: ∀b o,b ∉ ch->s.heap.get? b=some o-> ∃o',h'.get? b=some o')
  (tups: ∀b xs,H b=some (.tup xs)->H' b=some (.tup xs)) (frzs: ∀b o u,H b=some (.frz o u)->H' b=some (.frz o u)) (tbls: ∀b ps,H b=some (.tbl ps)-> ∃more,H' b=some (.tbl<|ps++more))
  (ns: ∀m,s.heap.Ns X.env.locals m->h'.Ns X.env.locals m) (hok:HOk X.prog X.w H' h') (hg:AllBare g') :
  Inv X pins σ H' {s with heap:=h',gens:=g',drawn:=d',toks:=t'}:=by
 have neL: ∀b o,X.s₀.heap.get? b=some o->b≠X.env.locals:=λb o e=>bJ (aZ (aW e) I.ok.above)
 have neC: ∀b o,X.s₀.heap.get? b=some o->b ∉ X.ex->b ∉ ch:=λb o e hx hb=>by
  rcases(hch b hb).1 with z|z
  .exact hx z
  .exact absurd (aZ (aW e) z) (dI _)
 have cellK: ∀x c,X.env.cells.lookup x=some c-> ∀v,s.heap.IsCell c v->h'.IsCell c v:=λx c e v ⟨o,ho,hd⟩=>by
  have nch:c ∉ ch:=λz=>(hch c z).2.2.1 x c e rfl
  by_cases hc:c∈X.fs
  .obtain⟨sl,q⟩:=slot c o (I.cne x c e) hc nch ho (I.freeC x c e);exact⟨_,q,hd⟩
  .exact⟨o,keep c o (I.cne x c e) hc nch ho<|I.freeC x c e,hd⟩
 refine⟨I.ok,I.os,hg,⟨λb o e n hb hx=> ?_,λb o e n hb hx=> ?_,λb o e n hx=> ?_,λb o e hx=> ?_,λb xs e=>tups b xs (I.base.tups b xs e),λb o xs e=>frzs b o xs (I.base.frzs b o xs e),λb ps e=> ?_⟩,?_,λx c e=> ?_,?_,λx c e=> ?_,λp hp=> ?_,hok,I.len⟩
 .exact keep b o (neL b o e) hb (neC b o e hx) (I.base.keep b o e n hb hx) (I.base.free b o e n hx)
 .obtain⟨sl,e1⟩:=I.base.slot b o e n hb hx;obtain⟨sl',e2⟩:=slot b _ (neL b o e) hb (neC b o e hx) e1 (I.base.free b o e n hx);exact⟨sl',e2⟩
 .obtain⟨o',e1⟩:=I.base.there b o e hx;exact free b o' (neC b o e hx) e1 (I.base.free b o e n hx)
 .obtain⟨o',e1⟩:=I.base.there b o e hx;exact there b o' (neC b o e hx) e1
 .obtain⟨m1,e1⟩:=I.base.tbls b ps e;obtain⟨m2,e2⟩:=tbls b _ e1;exact⟨m1++m2,by rw[e2,Array.append_assoc]⟩
 .obtain⟨m,hn,hl⟩:=I.loc;refine⟨m,ns m hn,λi x v e1 e2 e3=> ?_⟩
  obtain⟨u,r,l⟩:=hl i x v e1 e2 e3;refine⟨u,r,?_⟩;rcases l with l| ⟨k,c,e,z⟩
  .exact .inl l
  .exact .inr ⟨k,c,e,cellK x c e _ z⟩
 .obtain⟨v,z⟩:=I.cell x c e;exact⟨v,cellK x c e v z⟩
 .obtain⟨m,⟨o,_,_,ho,_⟩,_⟩:=I.loc;exact free _ o (λz=>(hch _ z).2.1 rfl) ho I.free
 .obtain⟨v,o,ho,hd⟩:=I.cell x c e;exact free c o (λz=>(hch c z).2.2.1 x c e rfl) ho (I.freeC x c e)
 .obtain⟨e,n,ne,nf,d⟩:=I.pin p hp;have nch:p.1 ∉ ch:=λz=>(hch p.1 z).2.2.2 p hp rfl
  exact⟨keep p.1 p.2 ne nf nch e n,free p.1 p.2 nch e n,ne,nf,d⟩
theorem Inv.un (I:Inv X pins σ H s)(u:Un X.fs [] H H' s.heap h')(hok:HOk X.prog X.w H' h'):Inv X pins σ H' {s with heap:=h',toks:=t'}:=by
 obtain⟨m,⟨o,es,ep,ho,r⟩,_⟩:=id I.loc;obtain⟨sl,hL⟩:=u.any ho I.free ae
 exact I.step (g':=s.gens) (d':=s.drawn) (ch:=[]) (λ_ z=>nomatch z) (λb o _ hb _ e n=>u.keep b o e n hb ae) (λb o _ hb _ e n=>u.slot b o e n hb ae) (λb o _ e n=>u.free b o e n ae) (λb o _ e=>u.there b o e ae) u.tups u.frzs u.tbls (λm' hm=>by
  obtain⟨o',es',ep',ho',r'⟩:=hm;rw[ho]at ho';cases ho';exact⟨_,es',ep',hL,r'⟩) hok I.bare
theorem Inv.call {g':Array GenState}{d':Drawn}(I:Inv X pins σ H s)(u:Un (frs X.stack) ch H H' s.heap h')(hok:HOk X.prog X.w H' h')(hg:AllBare g')
  (hch: ∀b∈ch,(b∈X.ex\/X.s₀.heap.objs.size<=b)/\b≠X.env.locals/\(∀x c,X.env.cells.lookup x=some c->c≠b)/\ ∀p∈X.pn++pins,p.1≠b) :
  Inv X pins σ H' {s with heap:=h',gens:=g',drawn:=d',toks:=t'}:=by
 obtain⟨m,⟨o,es,ep,ho,r⟩,_⟩:=id I.loc;obtain⟨sl,hL⟩:=u.any ho I.free λz=>(hch _ z).2.1 rfl
 exact I.step (ch:=ch) hch (λb o hL hb hc e n=>u.keep b o e n (λz=>(bB.mp<|I.stkSub b z).elim hL hb) hc) (λb o _ _ hc e n=>u.any e n hc) (λb o hc e n=>u.free b o e n hc) (λb o hc e=>u.there b o e hc) u.tups u.frzs u.tbls (λm' hm=>by
  obtain⟨o',es',ep',ho',r'⟩:=hm;rw[ho]at ho';cases ho';exact⟨_,es',ep',hL,r'⟩) hok hg
theorem Inv.turned (I:Inv X pins σ H s)(k: ∀b o,b≠it->s.heap.get? b=some o->h'.get? b=some o)(hn:H it=none)(hL:it≠X.env.locals)
  (h1:it∈X.ex\/X.s₀.heap.objs.size<=it) (h2: ∀x c,X.env.cells.lookup x=some c->c≠it) (h3: ∀p∈X.pn++pins,p.1≠it):Inv X pins σ H {s with heap:=h',toks:=t'}:=by
 have nit: ∀b u,H b=some u->b≠it:=λb u e z=>by rw[z,hn]at e;cases e
 refine I.step (g':=s.gens) (d':=s.drawn) (ch:=[it]) (λb hb=> ?_) (λb o _ _ hc e _=>k b o (λz=>hc (by simp[z])) e) (λb o _ _ hc e _=>⟨o.slots,k b o (λz=>hc (by simp[z])) e⟩) (λ_ _ _ _ n=>n)
  (λb o hc e=>⟨o,k b o (λz=>hc (by simp[z])) e⟩) (λ_ _ e=>e) (λ_ _ _ e=>e) (λb ps e=>⟨#[],by rw[e];simp⟩) (λm hm=> ?_) (λb u e=> ?_) I.bare
 .have e:b=it:=by exists hb
  subst e;exact⟨h1,hL,h2,h3⟩
 .obtain⟨o,es,ep,ho,r⟩:=hm;exact⟨o,es,ep,k _ o (Ne.symm hL) ho,r⟩
 .refine(I.hok b u e).stay (λc v hc q=>k c v ?_ q) (λ_ q=>q) λ_ _ q=>q
  rcases hc with z|z
  .rw[z];exact nit b u e
  .exact nit c _ z
theorem Inv.tok (I:Inv X pins σ H s)(t:Nat):Inv X pins σ H {s with toks:=t}:=I.un (h':=s.heap) (t':=t) Un.refl I.hok
theorem Inv.kept (I:Inv X pins σ H s)(k: ∀b u,s.heap.get? b=some u->h'.get? b=some u):Inv X pins σ H {s with heap:=h',toks:=t'}:=I.un (Un.kept k) (I.hok.kept k)
theorem Inv.laid {o:HO}(I:Inv X pins σ H s)(k: ∀b u,s.heap.get? b=some u->h'.get? b=some u)(hp:s.heap.objs.size<=a)(new:qA X.prog X.w (upd H a o) h' a o) :
  Inv X pins σ (upd H a o) {s with heap:=h',toks:=t'}:=I.un (Un.laid k hp<|I.hok.fresh hp) (I.hok.laid k hp new)
theorem Inv.write {x e:Addr}{o:HO}(I:Inv X pins σ H s)(mu:Mut (H x))(he:e=x\/H e=some (.own x))(k: ∀b u,b≠e->s.heap.get? b=some u->h'.get? b=some u)(heo: ∃u,h'.get? e=some u)
  (new:qA X.prog X.w (upd H x o) h' x o):Inv X pins σ (upd H x o) {s with heap:=h',toks:=t'}:=I.un (Un.write mu he k heo) (I.hok.write mu he k heo new)
theorem Inv.pins_of {pins':List (Addr×Obj)}(I:Inv X pins σ H s)(h: ∀p∈pins',s.heap.get? p.1=some p.2/\H p.1=none/\p.1≠X.env.locals/\p.1 ∉ X.fs/\ ∀v,p.2.data≠ .cell v):Inv X pins' σ H s:=
 ⟨I.ok,I.os,I.bare,I.base,I.loc,I.cell,I.free,I.freeC,λp hp=>(bU.mp hp).elim (λz=>I.pin p (a06 _ z)) (h p),I.hok,I.len⟩
theorem b86 (hN:N.Nodup)(a:N[i]? =some x)(b:N[j]? =some x):i=j:=by
 obtain⟨h1,e1⟩:=kG.mp a;obtain⟨h2,e2⟩:=kG.mp b;exact(List.getElem_inj hN).mp (e1.trans e2.symm)
theorem cS1 {M:Model}{v:V}{Q:Unit->Shared->Prop}(I:Inv X pins σ H s)(hN:X.N.Nodup)(hi:X.N[i]? =some x)(hx:Loc X.env.scope x)(r:RelV v u)
  (h: ∀s',Inv X pins (σ.set i<|some v) H s'->(∃a,SameBut a s.heap s'.heap/\(a=X.env.locals\/X.env.cells.lookup x=some a))->Q () s') (hf:X.fn x=true\/X.env.scope.names.lookup x=some .local:=by walk_at "z"):wpAny M A (storeName X.env x u) Q E s:=by
 obtain⟨m,hn,hl⟩:=id I.loc;have hcls:(X.env.scope.kind== .class||(X.env.scope.kind== .module&&X.env.locals != X.env.globals))=false:=by rw[I.ok.kind];rfl
 have hiσ:i<σ.length:=by rw[I.len];exact(kG.mp hi).1
 have cne:=I.cne;have tracked: ∀{a:Addr} {h':Heap},(∃o,s.heap.get? a=some o/\H a=none)->SameBut a s.heap h'->HOk X.prog X.w H h':=λ{a h'} ha hs b ob e=>by
  obtain⟨_,_,hfree⟩:=ha;refine(I.hok b ob e).stay (λc w' hc q=>(hs.2 c ?_).trans q) (λ_ q=>q) λ_ _ q=>q
  rintro rfl;rcases hc with rfl|hc
  .rw[hfree]at e;cases e
  .rw[hfree]at hc;cases hc
 rcases hx with hk|hk
 .refine wpAny_storeName_local hk hn (λh' hn' hs=> ?_) hcls
  obtain⟨oL,_,_,hoL,_⟩:=id hn;refine h _ ⟨I.ok,I.os,I.bare,⟨λb o e n hb hx=> ?_,λb o e n hb hx=> ?_,I.base.free,λb o e hx=> ?_,I.base.tups,I.base.frzs,I.base.tbls⟩,⟨_,hn',λj y v' e1 e2 e3=> ?_⟩,λy c e=> ?_,I.free,I.freeC,λp hp=> ?_,tracked ⟨oL,hoL,I.free⟩ hs,by exists I.len⟩ ⟨_,hs,.inl rfl⟩
  .exact(hs.2 b<|bJ<|aZ (aW e) I.ok.above).trans (I.base.keep b o e n hb hx)
  .obtain⟨sl,e1⟩:=I.base.slot b o e n hb hx;exact⟨sl,(hs.2 b<|bJ<|aZ (aW e) I.ok.above).trans e1⟩
  .obtain⟨o',e1⟩:=I.base.there b o e hx;exact⟨o',(hs.2 b<|bJ<|aZ (aW e) I.ok.above).trans e1⟩
  .by_cases hj:j=i
   .subst hj;rw[hi]at e1;cases e1;rw[a03 hiσ]at e2;cases e2;exact⟨u,r,.inl ⟨hk,ae⟩⟩
   .rw[qM<|Ne.symm hj]at e2;obtain⟨u',r',q⟩:=hl j y v' e1 e2 e3;refine⟨u',r',?_⟩;rcases q with⟨k,e⟩| ⟨k,c,e,z⟩
    .refine .inl ⟨k,?_⟩
     have:y≠x:=λe=>hj (b86 hN e1<|e▸hi)
     simp[this,e]
    .exact .inr ⟨k,c,e,z.sameBut hs<|cne y c e⟩
  .obtain⟨w',z⟩:=I.cell y c e;exact⟨w',z.sameBut hs<|cne y c e⟩
  .obtain⟨e,n,ne,nf,d⟩:=I.pin p hp;exact⟨(hs.2 p.1 ne).trans e,n,ne,nf,d⟩
 .have hfn:X.fn x=true:=by
   rcases hf with z|z
   .exact z
   .rw[z]at hk;cases hk
  obtain⟨c,hc⟩:=I.ok.has x (.inl hk);obtain⟨w',z⟩:=I.cell x c hc;refine wpAny_storeName_cell I.ok.kind hk hc z (λh' hc' hs=> ?_)
  obtain⟨oc,hoc,hocd⟩:=id z;refine h {s with heap:=h'} ⟨I.ok,I.os,I.bare,⟨λb o e n hb hx=> ?_,λb o e n hb hx=> ?_,I.base.free,λb o e hx=> ?_,I.base.tups,I.base.frzs,I.base.tbls⟩,⟨m,hn.sameBut hs<|Ne.symm<|cne x c hc,λj y v' e1 e2 e3=> ?_⟩,λy c' e=> ?_,I.free,I.freeC,λp hp=> ?_,tracked ⟨oc,hoc,I.freeC x c hc⟩ hs,by exists I.len⟩ ⟨c,hs,.inr hc⟩
  .exact(hs.2 b<|bJ<|aZ (aW e)<|I.ok.cab x c hfn hc).trans (I.base.keep b o e n hb hx)
  .obtain⟨sl,e1⟩:=I.base.slot b o e n hb hx;exact⟨sl,(hs.2 b<|bJ<|aZ (aW e)<|I.ok.cab x c hfn hc).trans e1⟩
  .obtain⟨o',e1⟩:=I.base.there b o e hx;exact⟨o',(hs.2 b<|bJ<|aZ (aW e)<|I.ok.cab x c hfn hc).trans e1⟩
  .by_cases hj:j=i
   .subst hj;rw[hi]at e1;cases e1;rw[a03 hiσ]at e2;cases e2;exact⟨u,r,.inr ⟨.inl hk,c,hc,hc'⟩⟩
   .rw[qM<|Ne.symm hj]at e2;obtain⟨u',r',q⟩:=hl j y v' e1 e2 e3;refine⟨u',r',?_⟩;rcases q with q| ⟨k,c',e,z'⟩
    .exact .inl q
    .refine .inr ⟨k,c',e,z'.sameBut hs ?_⟩
     rintro rfl;exact hj (b86 hN e1<|I.ok.inj _ _ _ e hc▸hi)
  .by_cases hcc:c'=c
   .subst hcc;exact⟨_,hc'⟩
   .obtain⟨w2,z2⟩:=I.cell y c' e;exact⟨w2,z2.sameBut hs hcc⟩
  .obtain⟨e,n,ne,nf,d⟩:=I.pin p hp;refine⟨(hs.2 p.1 ?_).trans e,n,ne,nf,d⟩;intro q;rw[q,hoc]at e;have q':oc=p.2:=gX e;exact d w' (by rw[<-q'];exact hocd)
theorem a93 {M:Model}{v:V}{Q:Unit->Shared->Prop}(I:Inv X pins σ H s)(hN:X.N.Nodup)(hi:X.N[i]? =some x)(hx:Loc X.env.scope x)(r:RelV v u)
  (h: ∀s',Inv X pins (σ.set i<|some v) H s'->Q () s') (hf:X.fn x=true\/X.env.scope.names.lookup x=some .local:=by walk_at "z"):wpAny M A (storeName X.env x u) Q E s:=
 cS1 I hN hi hx r (λs' I' _=>h s' I') hf
theorem Inv.call' (I:Inv X pins σ H s)(ho:s'.os=s.os)(u:Un (frs X.stack) ch H H' s.heap s'.heap)(hok:HOk X.prog X.w H' s'.heap)(hg:AllBare s'.gens)
  (hch: ∀b∈ch,(b∈X.ex\/X.s₀.heap.objs.size<=b)/\b≠X.env.locals/\(∀x c,X.env.cells.lookup x=some c->c≠b)/\ ∀p∈X.pn++pins,p.1≠b):Inv X pins σ H' s':=by
 obtain⟨h',g',d',t',o'⟩:=s';have e:o'=s.os:=ho;subst e;exact I.call (g':=g') (t':=t') (d':=d') u hok hg hch
end
abbrev XK:=Value->Option Addr->Hp->Prop
abbrev St:=List (Option V)
abbrev VK:=V->Hp->Prop
abbrev TE:=St->Hp->VK->Prop
abbrev TT:=St->Hp->(Bool->Hp->Prop)->Prop
abbrev TA:=St->Hp->(List V->Hp->Prop)->Prop
structure aX8 where
 nx:St->Hp->Prop
 rt:VK
 bk:St->Hp->Prop:=λ_ _=>False
 ct:St->Hp->Prop:=λ_ _=>False
abbrev TS:=aX8->St->Hp->Prop
def EP (X:Cx)(pins:List (Addr×Obj))(σ:St)(Q:VK)(u:Value)(s':Shared):Prop:= ∃v H',Inv X pins σ H' s'/\RelV v u/\Q v H'
def TP (X:Cx)(pins:List (Addr×Obj))(σ:St)(Q:Bool->Hp->Prop)(b:Bool)(s':Shared):Prop:= ∃H',Inv X pins σ H' s'/\Q b H'
def AP (X:Cx)(pins:List (Addr×Obj))(σ:St)(Q:List V->Hp->Prop)(us:List Value)(s':Shared):Prop:= ∃vs H',Inv X pins σ H' s'/\Vals vs us/\Q vs H'
def SP (X:Cx)(pins:List (Addr×Obj))(D:aX8)(f:Flow)(s':Shared):Prop:=
 match f with
 | .next=> ∃σ' H',Inv X pins σ' H' s'/\D.nx σ' H'
 | .brk=> ∃σ' H',Inv X pins σ' H' s'/\D.bk σ' H'
 | .cont=> ∃σ' H',Inv X pins σ' H' s'/\D.ct σ' H'
 | .ret u=> ∃v σ' H',Inv X pins σ' H' s'/\RelV v u/\D.rt v H'
def PE (X:Cx)(e:Expr)(t:TE):Prop:=
 ∀(pins:List (Addr×Obj)) (s:Shared) (σ:St) (H:Hp) (Q:VK),Inv X pins σ H s->t σ H Q->wpAny (model X.prog X.w) X.A (eval e X.env) (EP X pins σ Q) X.xe s
def PT (X:Cx)(e:Expr)(t:TT):Prop:=
 ∀(pins:List (Addr×Obj)) (s:Shared) (σ:St) (H:Hp) (Q:Bool->Hp->Prop),Inv X pins σ H s->t σ H Q->wpAny (model X.prog X.w) X.A (isTrue e X.env<|eval e X.env) (TP X pins σ Q) X.xe s
def PW (X:Cx)(e:Expr)(t:TT):Prop:=
 ∀(whole:Sem Value) (pins:List (Addr×Obj)) (s:Shared) (σ:St) (H:Hp) (Q:Bool->Hp->Prop),Inv X pins σ H s->t σ H Q->wpAny (model X.prog X.w) X.A (isTrue e X.env whole) (TP X pins σ Q) X.xe s
theorem PW.pt {X:Cx}{t:TT}(h:PW X e t):PT X e t:=h _
def PA (X:Cx)(es:List Expr)(t:TA):Prop:=
 ∀(pos:Pos) (pins:List (Addr×Obj)) (s:Shared) (σ:St) (H:Hp) (Q:List V->Hp->Prop),Inv X pins σ H s->t σ H Q->wpAny (model X.prog X.w) X.A (spliced<|backTo pos<|starEach es X.env) (AP X pins σ Q) X.xe s
def PS (X:Cx)(st:Stmt)(t:TS):Prop:=
 ∀(pins:List (Addr×Obj)) (s:Shared) (σ:St) (H:Hp) (D:aX8),Inv X pins σ H s->t D σ H->wpAny (model X.prog X.w) X.A (exec st X.env) (SP X pins D) X.xe s
def PSs (X:Cx)(st:List Stmt)(t:TS):Prop:=
 ∀(pins:List (Addr×Obj)) (s:Shared) (σ:St) (H:Hp) (D:aX8),Inv X pins σ H s->t D σ H->wpAny (model X.prog X.w) X.A (execs st X.env) (SP X pins D) X.xe s
theorem thn {t:Sem α}{Q Q':α->Shared->Prop}{M:Model}(h:wpAny M A t Q E s)(hQ: ∀a s,Q a s->Q' a s):wpAny M A t Q' E s:=bK h hQ λ_ _ x=>x
section
variable {X:Cx}
def aG0 (i:Nat):TE:=λσ H Q=> ∃v,σ[i]? =some (some v)/\Q v H
def tC (v:V):TE:=λ_ H Q=>Q v H
theorem pe_var (hN:X.N[i]? =some x)(hv:Vis X.env.scope x)(hd:⇑((x==("__debug__":Str))=false))(hcd:⇑((x==("__classdict__":Str))=false)):PE X (.Name x pos) (aG0 i):=by
 intro pins s σ H Q I h;obtain⟨v,e,h⟩:=h;obtain⟨m,hn,hl⟩:=I.loc;obtain⟨u,r,l⟩:=hl i x v hN e hv;have fin:EP X pins σ Q u s:=⟨v,H,I,r,h⟩;rcases l with⟨hk,hm⟩| ⟨hk,c,hc,hcell⟩
 .exact oG (qN I.ok.kind hk hn hm fin) hd
 .rcases hk with hk|hk
  .exact oG (wpAny_loadName_cell I.ok.kind hk hc hcell fin) hd
  .exact oG (wpAny_loadName_free I.ok.kind hk hc hcell fin hcd) hd
theorem pe_int {i j pos}:PE X (.Constant (.int i) j pos) (tC<|.int i):=λ_ _ _ H _ I h=>wpAny_Constant_int ⟨.int i,H,I.tok _,⟨_,rfl⟩,h⟩
theorem pe_bl {b j pos}:PE X (.Constant (.bool b) j pos) (tC<|.bl b):=λ_ _ _ H _ I h=>Constant_bool ⟨.bl b,H,I,rfl,h⟩
theorem pe_non {j pos}:PE X (.Constant .none j pos) (tC .non):=λ_ _ _ H _ I h=>Constant_none ⟨.non,H,I,rfl,h⟩
theorem pe_str {x j pos}:PE X (.Constant (.str x) j pos) (tC<|.str x):=λ_ _ _ H _ I h=>Calls.Constant_str ⟨.str x,H,I.tok _,⟨_,rfl⟩,h⟩
def Gl (X:Cx)(x:Str):Prop:=X.env.kindOf x=some .globalImplicit
theorem nP {σ:St}{H:Hp}(I:Inv X pins σ H s)(hg:Gl X x)(hm:X.mg x=some u)(h:Q u s)
  (hd:⇑((x==("__debug__":Str))=false)):wpAny (model X.prog X.w) X.A (eval (.Name x pos) X.env) Q E s:=
 Calls.Name_function_global I.ok.kind hg (Calls.loadGlobal_global (by rw[I.ok.glob];exact I.mod.glob.keeps I.bk) hm h) hd
theorem xS {σ:St}{H:Hp}(I:Inv X pins σ H s)(hg:Gl X x)(hm:X.mg x=none)(hv:bootBuiltins x=some u)(h:Q u s)
  (hn:⇑(x≠"__name__")) (hd:⇑((x==("__debug__":Str))=false)):wpAny (model X.prog X.w) X.A (eval (.Name x pos) X.env) Q E s:=by
 obtain⟨mb,h1,h2⟩:=I.mod.blt;exact Calls.Name_function_global I.ok.kind hg (Calls.loadGlobal_builtin (by rw[I.ok.glob];exact I.mod.glob.keeps I.bk) hm (by rw[I.ok.blt];exact h1.keeps I.bk) ((h2 x hn).trans hv) h) hd
theorem cL6 {v:V}(hg:Gl X x)(hm:X.mg x=some u)(r:RelV v u)(hd:⇑((x==("__debug__":Str))=false)):PE X (.Name x pos) (tC v):=
 λ_ _ _ H _ I h=>nP I hg hm ⟨v,H,I,r,h⟩ hd
theorem dH4 {v:V}(hg:Gl X x)(hm:X.mg x=none)(hv:bootBuiltins x=some u)(r:RelV v u)(hn:⇑(x≠"__name__"))(hd:⇑((x==("__debug__":Str))=false)):PE X (.Name x pos) (tC v):=
 λ_ _ _ H _ I h=>xS I hg hm hv ⟨v,H,I,r,h⟩ hn hd
variable {a b:Expr}{ta tb:TE}{pos:Pos}
def PC (X:Cx)(op:CmpOp)(a b:Expr)(t:TE):Prop:=
 ∀(pins:List (Addr×Obj)) (s:Shared) (σ:St) (H:Hp) (Q:VK),Inv X pins σ H s->t σ H Q->
  wpAny (model X.prog X.w) X.A (eval a X.env) (λv s₁=>wpAny (model X.prog X.w) X.A (eval b X.env) (λu s₂=>wpAny (model X.prog X.w) X.A (compareOp op v u) (EP X pins σ Q) X.xe s₂) X.xe s₁) X.xe s
theorem cZ1 (b:Expr)(h:op≠ .In)(h2:op≠ .NotIn):behindInMarks op b=false:=by
 have e1:(op==CmpOp.In)=false:=by cases op<;>first|rfl|exact absurd rfl h
 have e2:(op==CmpOp.NotIn)=false:=by cases op<;>first|rfl|exact absurd rfl h2
 cases b<;>simp[behindInMarks,e1,e2]
def tIsN (ta:TE):TE:=λσ H Q=>ta σ H λx H1=>Q (.bl<|decide (x= .non)) H1
def dS7 (ta:TE):TE:=λσ H Q=>ta σ H λx H1=>Q (.bl<|!decide (x= .non)) H1
theorem RelV.none_iff {x:V}(r:RelV x v):(v==Value.none)=decide (x= .non):=by
 cases x with
 | non=>cases r;rfl
 | bl _=>cases r;rfl
 | int _=>obtain⟨t,rfl⟩:=r;rfl
 | str _=>obtain⟨t,rfl⟩:=r;rfl
 | byt _=>obtain⟨t,rfl⟩:=r;rfl
 | flt _=>obtain⟨t,rfl⟩:=r;rfl
 | ref _=>cases r;rfl
 | ty _=>cases r;rfl
theorem pc_isN {j pos'}(ha:PE X a ta):PC X .Is a (.Constant .none j pos') (tIsN ta):=by
 intro pins s σ H Q I h;refine thn (ha pins s σ H _ I h) λv s1 ⟨x,H1,I1,r1,q1⟩=> ?_
 exact Constant_none (is_none_gen ⟨.bl _,H1,I1,by rw[r1.none_iff];rfl,q1⟩)
theorem dH5 {j pos'}(ha:PE X a ta):PC X .IsNot a (.Constant .none j pos') (dS7 ta):=by
 intro pins s σ H Q I h;refine thn (ha pins s σ H _ I h) λv s1 ⟨x,H1,I1,r1,q1⟩=> ?_
 exact Constant_none (isnot_none_gen ⟨.bl _,H1,I1,by rw[r1.none_iff];rfl,q1⟩)
def tB (t:TE):TT:=λσ H Q=>t σ H λx H1=> ∃c,x= .bl c/\Q c H1
theorem cZ2 {t:TE}(h:PC X op a b t)(h1:behindInMarks op b=false:=by first|exact cZ1 _ ac ac|rfl):PT X (.Compare a [op] [b] pos) (tB t):=by
 intro pins s σ H Q I hw;refine wpAny_isTrue_Compare1 (thn (h pins s σ H _ I hw) λv s1 h1=>thn h1 λu s2 h2=>thn h2 λc s3 ⟨x,H1,I1,r1,q1⟩=> ?_) h1
 obtain⟨d,rfl,q⟩:=q1;cases r1;exact lH ⟨H1,I1,q⟩
theorem pt_val {t:TE}(h:PE X e t)(he: ∀whole,isTrue e X.env whole=(do let v<-whole;standAt e.pos;holding [v] (truthy v)):=by intro _;rfl):PT X e (tB t):=by
 intro pins s σ H Q I hw;refine isTrue_plain (thn (h pins s σ H _ I hw) λv s1 ⟨x,H1,I1,r1,q1⟩=> ?_) (he _)
 obtain⟨d,rfl,q⟩:=q1;cases r1;exact lH ⟨H1,I1,q⟩
variable {tA tB':TT}{tY:List Expr}
def tAnd (t u:TT):TT:=λσ H Q=>t σ H λc H1=>if c=true then u σ H1 Q else Q false H1
def tOr (t u:TT):TT:=λσ H Q=>t σ H λc H1=>if c=true then Q true H1 else u σ H1 Q
def tNot (t:TT):TT:=λσ H Q=>t σ H λc H1=>Q (!c) H1
theorem dH6 (ha:PT X a tA):PW X (.BoolOp .And [a] pos) tA:=by
 intro wh pins s σ H Q I h;refine isTrue_and (thn (ha pins s σ H Q I h) λc s1 e=> ?_)
 cases c with
 | true=>exact isTrue_and_nil e
 | false=>exact e
theorem pw_or1 (ha:PT X a tA):PW X (.BoolOp .Or [a] pos) tA:=by
 intro wh pins s σ H Q I h;refine isTrue_or (thn (ha pins s σ H Q I h) λc s1 e=> ?_)
 cases c with
 | false=>exact isTrue_or_nil e
 | true=>exact e
theorem pw_and (ha:PT X a tA)(hb:PW X (.BoolOp .And (b::tY) pos) tB'):PW X (.BoolOp .And (a::b::tY) pos) (tAnd tA tB'):=by
 intro wh pins s σ H Q I h;refine isTrue_and (thn (ha pins s σ H _ I h) λc s1 ⟨H1,I1,q1⟩=> ?_)
 cases c with
 | true=>exact hb wh pins s1 σ H1 Q I1 q1
 | false=>exact⟨H1,I1,q1⟩
theorem pw_or (ha:PT X a tA)(hb:PW X (.BoolOp .Or (b::tY) pos) tB'):PW X (.BoolOp .Or (a::b::tY) pos) (tOr tA tB'):=by
 intro wh pins s σ H Q I h;refine isTrue_or (thn (ha pins s σ H _ I h) λc s1 ⟨H1,I1,q1⟩=> ?_)
 cases c with
 | true=>exact⟨H1,I1,q1⟩
 | false=>exact hb wh pins s1 σ H1 Q I1 q1
theorem pt_not (ha:PT X a tA):PT X (.UnaryOp .Not a pos) (tNot tA):=by
 intro pins s σ H Q I h;exact isTrue_not (ha pins s σ H (λc H1=>Q (!c) H1) I h)
def tAndV (ta tb:TE):TE:=λσ H Q=>ta σ H λx H1=> ∃c,x= .bl c/\if c=true then tb σ H1 Q else Q (.bl false) H1
def tNotV (ta:TE):TE:=λσ H Q=>ta σ H λx H1=> ∃c,x= .bl c/\Q (.bl<|!c) H1
theorem pe_one {op}{t:TE}(h:PE X a t):PE X (.BoolOp op [a] pos) t:=λpins s σ H Q I hw=>BoolOp_one (h pins s σ H Q I hw)
theorem pe_and (ha:PE X a ta)(hb:PE X (.BoolOp .And (b::tY) pos) tb):PE X (.BoolOp .And (a::b::tY) pos) (tAndV ta tb):=by
 intro pins s σ H Q I h;refine BoolOp_and (thn (ha pins s σ H _ I h) λv s1 ⟨x,H1,I1,r1,q1⟩=> ?_)
 obtain⟨c,rfl,q1⟩:=q1;cases r1;refine lH ?_;cases c with
 | true=>exact hb pins s1 σ H1 Q I1 q1
 | false=>exact⟨.bl false,H1,I1,rfl,q1⟩
theorem pe_not (ha:PE X a ta):PE X (.UnaryOp .Not a pos) (tNotV ta):=by
 intro pins s σ H Q I h;refine UnaryOp_ (thn (ha pins s σ H _ I h) λv s1 ⟨x,H1,I1,r1,q1⟩=> ?_)
 obtain⟨c,rfl,q1⟩:=q1;cases r1;exact not_of (lH ⟨.bl<|!c,H1,I1,rfl,q1⟩)
def tIf (t:TT)(ta tb:TE):TE:=λσ H Q=>t σ H λc H1=>if c=true then ta σ H1 Q else tb σ H1 Q
theorem cZ3 (hc:PT X c tA)(ha:PE X a ta)(hb:PE X b tb):PE X (.IfExp c a b pos) (tIf tA ta tb):=by
 intro pins s σ H Q I h;refine wpAny_IfExp (thn (hc pins s σ H _ I h) λd s1 ⟨H1,I1,q1⟩=> ?_)
 cases d with
 | true=>exact ha pins s1 σ H1 Q I1 q1
 | false=>exact hb pins s1 σ H1 Q I1 q1
end
def SqL (K:PySem.W.Frag)(H:Hp)(a:Addr)(xs:List V):Prop:=
 Rd H a (.lst xs)\/
  ∃(o:Obj) (its:Array Value) (n:Nat),K.lookup a=some o/\o.cls= .type "list"/\o.dict=none/\o.data= .seq its n/\its.size<=sizeLine/\Vals xs its.toList
def SqT (K:PySem.W.Frag)(H:Hp)(a:Addr)(xs:List V):Prop:=
 Rd H a (.tup xs)\/
  ∃(o:Obj) (its:Array Value) (n:Nat),K.lookup a=some o/\o.cls= .type "tuple"/\o.data= .seq its n/\its.size<=sizeLine/\Vals xs its.toList
noncomputable def absV:Value->Option V
 | .none=>some .non
 | .bool b=>some (.bl b)
 | .int i _=>some (.int i)
 | .str x _=>some (.str x)
 | .bytes b _=>some (.byt b)
 | .float b _=>some (.flt b)
 | .ref a=>some (.ref a)
 | .type n=>some (.ty n)
 | _=>none
theorem RelV.abs {x:V}(r:RelV x u):absV u=some x:=by
 cases x with
 | non=>cases r;rfl
 | bl _=>cases r;rfl
 | int _=>obtain⟨t,rfl⟩:=r;rfl
 | str _=>obtain⟨t,rfl⟩:=r;rfl
 | byt _=>obtain⟨t,rfl⟩:=r;rfl
 | flt _=>obtain⟨t,rfl⟩:=r;rfl
 | ref _=>cases r;rfl
 | ty _=>cases r;rfl
theorem RelV.inj {x y:V}(r:RelV x u)(q:RelV y u):x=y:=gX (r.abs.symm.trans q.abs)
theorem Vals.inj: ∀{xs ys:List V} {us:List Value},Vals xs us->Vals ys us->xs=ys
 | _,_,_,.nil,.nil=>rfl
 | _,_,_,.cons r t,.cons r' t'=>by rw[r.inj r',Vals.inj t t']
section
variable {X:Cx}{pins:List (Addr×Obj)}{σ:St}{H:Hp}{s:Shared}{a:Addr}{xs ys:List V}
theorem SqL.of (h:H a=some (.lst xs)):SqL K H a xs:= .inl (.inl h)
theorem Inv.list (I:Inv X pins σ H s)(h:SqL X.K H a xs): ∃its:List Value,Vals xs its/\PlainL s.heap a its.toArray/\xs.length<=sizeLine:=by
 rcases h with h| ⟨o,its,n,hk,hc,hd,hs,hz,r⟩
 .obtain⟨z,its,n,r,e⟩:=h.ok I.hok;exact⟨its,r,⟨_,n,e,rfl,rfl,rfl⟩,z⟩
 .refine⟨its.toList,r,⟨o,n,I.kIn a o hk,hc,hd,by exists hs⟩,?_⟩
  have e:=r.length;simp only[qQ]at e
  lia
theorem Inv.tuple (I:Inv X pins σ H s)(h:SqT X.K H a xs): ∃its:List Value,Vals xs its/\IsTup s.heap a its.toArray/\xs.length<=sizeLine:=by
 rcases h with h| ⟨o,its,n,hk,hc,hs,hz,r⟩
 .obtain⟨z,its,r,p⟩:=h.ok I.hok;exact⟨its,r,p,z⟩
 .refine⟨its.toList,r,⟨o,I.kIn a o hk,hc,n,by exists hs⟩,?_⟩
  have e:=r.length;simp only[qQ]at e
  lia
theorem Inv.list_inj (I:Inv X pins σ H s)(h:SqL X.K H a xs)(h':SqL X.K H a ys):xs=ys:=by
 obtain⟨its,r,⟨o,n,e,_,_,d⟩,_⟩:=I.list h;obtain⟨its',r',⟨o',n',e',_,_,d'⟩,_⟩:=I.list h';rw[e]at e';cases e';rw[d]at d'
 injection d' with d1 _
 have:its=its':=by simpa using bW toList d1
 subst this;exact r.inj r'
theorem Inv.tuple_inj (I:Inv X pins σ H s)(h:SqT X.K H a xs)(h':SqT X.K H a ys):xs=ys:=by
 obtain⟨its,r,⟨o,e,_,n,d⟩,_⟩:=I.tuple h;obtain⟨its',r',⟨o',e',_,n',d'⟩,_⟩:=I.tuple h';rw[e]at e';cases e';rw[d]at d'
 injection d' with d1 _
 have:its=its':=by simpa using bW toList d1
 subst this;exact r.inj r'
end
noncomputable abbrev Cx.wish (X:Cx)(E:Value->Shared->Prop):Cx:={X with xe:=E}
noncomputable abbrev Cx.nox (X:Cx):Cx:=X.wish λ_ _=>False
theorem Cx.Ok.wish {X:Cx}(ok:X.Ok)(E:Value->Shared->Prop):(X.wish E).Ok:=
 ⟨ok.mod,ok.kind,ok.glob,ok.blt,ok.above,ok.inj,ok.has,ok.cab,ok.hd,ok.frames,ok.stk,ok.exf,ok.bs,ok.bsz,ok.noex,ok.exfs,ok.funs,ok.frf⟩
theorem Cx.Ok.unwish {X:Cx}(ok:(X.wish E).Ok):X.Ok:=
 ⟨ok.mod,ok.kind,ok.glob,ok.blt,ok.above,ok.inj,ok.has,ok.cab,ok.hd,ok.frames,ok.stk,ok.exf,ok.bs,ok.bsz,ok.noex,ok.exfs,ok.funs,ok.frf⟩
section
variable {X:Cx}{pins:List (Addr×Obj)}{σ:St}{H:Hp}{s:Shared}{E:Value->Shared->Prop}
theorem Inv.wish (I:Inv X pins σ H s)(E:Value->Shared->Prop):Inv (X.wish E) pins σ H s:=⟨I.ok.wish E,I.os,I.bare,I.base,I.loc,I.cell,I.free,I.freeC,I.pin,I.hok,I.len⟩
theorem Inv.unwish (I:Inv (X.wish E) pins σ H s):Inv X pins σ H s:=⟨I.ok.unwish,I.os,I.bare,I.base,I.loc,I.cell,I.free,I.freeC,I.pin,I.hok,I.len⟩
theorem SP.unwish {D:aX8}{f:Flow}(h:SP (X.wish E) pins D f s'):SP X pins D f s':=by
 cases f with
 | next=>obtain⟨σ',H',I,q⟩:=h;exact⟨σ',H',I.unwish,q⟩
 | brk=>obtain⟨σ',H',I,q⟩:=h;exact⟨σ',H',I.unwish,q⟩
 | cont=>obtain⟨σ',H',I,q⟩:=h;exact⟨σ',H',I.unwish,q⟩
 | ret u=>obtain⟨v,σ',H',I,r,q⟩:=h;exact⟨v,σ',H',I.unwish,r,q⟩
theorem PSs.nox {st:List Stmt}{t:TS}(h:PSs X.nox st t):PSs X st t:=λpins s σ H D I hw=>
 bK (h pins s σ H D (I.wish _) hw) (λ_ _ q=>q.unwish) λ_ _ z=>False.elim z
end
section
variable {X:Cx}{st:Stmt}{tY:List Stmt}{t u:TS}{e:Expr}{te:TE}{pos:Pos}
def tNext:TS:=λD σ H=>D.nx σ H
def tSeq (t u:TS):TS:=λD σ H=>t {D with nx:=u D} σ H
theorem dH7:PSs X [] tNext:=λ_ _ σ H _ I h=>qY ⟨σ,H,I,h⟩
theorem yW (h1:PS X st t)(h2:PSs X tY u):PSs X (st::tY) (tSeq t u):=by
 intro pins s σ H D I h;refine uP (thn (h1 pins s σ H {D with nx:=u D} I h) λf s1 q=> ?_)
 cases f with
 | next=>
  obtain⟨σ',H',I',q⟩:=q;exact h2 pins s1 σ' H' D I' q
 | ret v=>exact q
 | brk=>exact q
 | cont=>exact q
theorem bT7 (h1:PS X st t):PSs X [st] t:=by
 intro pins s σ H D I h;refine uP (thn (h1 pins s σ H D I h) λf s1 q=> ?_)
 cases f with
 | next=>exact qY q
 | ret v=>exact q
 | brk=>exact q
 | cont=>exact q
theorem Inv.quiet {σ:St}{H:Hp}(I:Inv X pins σ H s):interactive X.env=false:=by simp[interactive,I.ok.kind]
def tDrop (te:TE):TS:=λD σ H=>te σ H λ_ H1=>D.nx σ H1
theorem bT8 (he:PE X e te)(hs:↥(swapsWith e none pos.line X.env=pure false)):PS X (.Expr e pos) (tDrop te):=by
 intro pins s σ H D I h;exact wpAny_Expr_any (thn (he pins s σ H _ I h) λv s1 ⟨x,H1,I1,r1,q1⟩=>⟨σ,H1,I1,q1⟩) I.quiet hs
def tRet (te:TE):TS:=λD σ H=>te σ H D.rt
theorem cZ4 (he:PE X e te):PS X (.Return (some e) pos) (tRet te):=by
 intro pins s σ H D I h;exact wpAny_Return_some (thn (he pins s σ H _ I h) λv s1 ⟨x,H1,I1,r1,q1⟩=>⟨x,σ,H1,I1,r1,q1⟩)
def tIfS (c:TT)(t u:TS):TS:=λD σ H=>c σ H λb H1=>if b=true then t D σ H1 else u D σ H1
theorem dS8 {a b:List Stmt}{tc:TT}(hc:PT X c tc)(ha:PSs X a t)(hb:PSs X b u):PS X (.If c a b pos) (tIfS tc t u):=by
 intro pins s σ H D I h;refine wpAny_If (thn (hc pins s σ H _ I h) λd s1 ⟨H1,I1,q1⟩=> ?_)
 cases d with
 | true=>exact ha pins s1 σ H1 D I1 q1
 | false=>exact hb pins s1 σ H1 D I1 q1
def tNever:TS:=λ_ _ _=>False
theorem cZ5:PS X st tNever:=λ_ _ _ _ _ _ h=>h.elim
end
abbrev TG:=V->St->Hp->(St->Hp->Prop)->Prop
abbrev TGs:=List V->St->Hp->(St->Hp->Prop)->Prop
def PG (X:Cx)(target:Expr)(t:TG):Prop:=
 ∀(pins:List (Addr×Obj)) (s:Shared) (σ:St) (H:Hp) (v:V) (u:Value) (Q:St->Hp->Prop),Inv X pins σ H s->RelV v u->t v σ H Q->
  wpAny (model X.prog X.w) X.A (assign target X.env u) (λ_ s'=> ∃σ' H',Inv X pins σ' H' s'/\Q σ' H') X.xe s
def PGs (X:Cx)(ts:List Expr)(t:TGs):Prop:=
 ∀(pins:List (Addr×Obj)) (s:Shared) (σ:St) (H:Hp) (vs:List V) (us:List Value) (Q:St->Hp->Prop),Inv X pins σ H s->Vals vs us->t vs σ H Q->
  wpAny (model X.prog X.w) X.A (assignInOrder ((assignEach ts X.env).map (·.2)) us) (λ_ s'=> ∃σ' H',Inv X pins σ' H' s'/\Q σ' H') X.xe s
abbrev cZ6:=V->V->V->Hp->(Hp->Prop)->Prop
def PSet (X:Cx)(t:cZ6):Prop:=
 ∀(pins:List (Addr×Obj)) (s:Shared) (σ:St) (H:Hp) (o i v:V) (ov iv u:Value) (Q:Hp->Prop),Inv X pins σ H s->RelV o ov->RelV i iv->RelV v u->t o i v H Q->
  wpAny (model X.prog X.w) X.A (setItem ov iv u) (λ_ s'=> ∃H',Inv X pins σ H' s'/\Q H') X.xe s
abbrev TIp:=V->V->Hp->VK->Prop
def PIp (X:Cx)(op:Operator)(t:TIp):Prop:=
 ∀(pins:List (Addr×Obj)) (s:Shared) (σ:St) (H:Hp) (x y:V) (v u:Value) (Q:VK),Inv X pins σ H s->RelV x v->RelV y u->t x y H Q->
  wpAny (model X.prog X.w) X.A (inplaceOp op v u) (EP X pins σ Q) X.xe s
section
variable {X:Cx}{pos:Pos}
def b26 (i:Nat):TG:=λv σ H Q=>Q (σ.set i<|some v) H
theorem cU (hN:X.N.Nodup)(hi:X.N[i]? =some x)(hx:Loc X.env.scope x)(hf:X.fn x=true\/X.env.scope.names.lookup x=some .local:=by walk_at "z"):PG X (.Name x pos) (b26 i):=by
 intro pins s σ H v u Q I r h;exact wpAny_assign_Name (a93 I hN hi hx r (λs' I'=>⟨_,H,I',h⟩) hf)
def gNil:TGs:=λvs σ H Q=>vs=[]/\Q σ H
def gCons (t:TG)(u:TGs):TGs:=λvs σ H Q=> ∃v r,vs=v::r/\t v σ H λσ' H'=>u r σ' H' Q
theorem dH8:PGs X [] gNil:=by
 intro pins s σ H vs us Q I r h;obtain⟨e,h⟩:=h;subst e;cases r;exact assignInOrder_nil ⟨σ,H,I,h⟩
theorem cZ7 {e:Expr}{es:List Expr}{t:TG}{u:TGs}(h1:PG X e t)(h2:PGs X es u)
  (hs:↥((assignEach (e::es) X.env).map (·.2)=assign e X.env::(assignEach es X.env).map (·.2))):PGs X (e::es) (gCons t u):=by
 intro pins s σ H vs us Q I r h;obtain⟨v,vr,e1,h⟩:=h;subst e1;cases r with
 | cons r rr=>
  rw[hs];refine assignInOrder_cons (thn (h1 pins s σ H _ _ _ I r h) λ_ s1 ⟨σ1,H1,I1,q1⟩=> ?_)
  exact h2 pins s1 σ1 H1 _ _ Q I1 rr q1
def gTup (K:PySem.W.Frag)(n:Nat)(t:TGs):TG:=λv σ H Q=> ∃a xs,v= .ref a/\SqT K H a xs/\xs.length=n/\t xs σ H Q
theorem pg_tup {t:TGs}(hc:X.calm=true)(h:PGs X es t)
  (hn:↥((assignEach es X.env).length=n)) (hst:↥((assignEach es X.env).findIdx? (·.1)=none)):PG X (.Tuple es k pos) (gTup X.K n t):=by
 intro pins s σ H v u Q I r hw;obtain⟨a,xs,e1,hq,hl,hw⟩:=hw;subst e1;cases r;obtain⟨its,rv,ht,hz⟩:=I.tuple hq;refine assign_Tuple_tuple (I.ok.hd hc) ht (by simp[hn,<-hl,rv.length]) hst λh' hx=> ?_
 have I1:Inv X pins σ H {s with heap:=h'}:=I.kept (t':=s.toks) λb o e=>hx b o (bJ<|aW e) e
 exact h pins _ σ H xs _ Q I1 (by exists rv) hw
def gSub (to ti:TE)(t:cZ6):TG:=λv σ H Q=>to σ H λo H1=>ti σ H1 λi H2=>t o i v H2 λH3=>Q σ H3
theorem pg_sub {o i:Expr}{to ti:TE}{t:cZ6}(ho:PE X o to)(hi:PE X i ti)(hs:PSet X t)
  (ha: ∀v,assign (.Subscript o i pos) X.env v=(do
   let ov<-holding [v] (eval o X.env)
   let iv<-holding [v,ov] (eval i X.env)
   standAt pos
   holding [v,ov,iv] (setItem ov iv v)
   release [v,ov,iv] []):=by intro _;rfl):PG X (.Subscript o i pos) (gSub to ti t):=by
 intro pins s σ H v u Q I r h;rw[ha];refine a9 (iJ<|thn (ho pins s σ H _ I h) λov s1 ⟨x,H1,I1,r1,q1⟩=> ?_)
 refine a9 (iJ<|thn (hi pins s1 σ H1 _ I1 q1) λiv s2 ⟨y,H2,I2,r2,q2⟩=> ?_)
 refine a9 (rF<|a9<|iJ<|thn (hs pins s2 σ H2 x y v ov iv u _ I2 r1 r2 r q2) λ_ s3 ⟨H3,I3,q3⟩=> ?_)
 exact wpAny_release ⟨σ,H3,I3,q3⟩
def tAsg (te:TE)(g:TG):TS:=λD σ H=>te σ H λx H1=>g x σ H1 D.nx
theorem cZ8 {te:TE}{g:TG}(he:PE X e te)(hg:PG X tg g)(hs:↥(swapsWithSole [tg] e pos.line X.env=pure false))(hw:↥(swappedStores [tg] e X.env=pure none))
  (h1:↥((assignEach [tg] X.env).map (·.2)=[assign tg X.env])):PS X (.Assign [tg] e pos) (tAsg te g):=by
 intro pins s σ H D I h;refine wpAny_Assign_stores (thn (he pins s σ H _ I h) λv s1 ⟨x,H1,I1,r1,q1⟩=> ?_) hs hw
 rw[h1];exact thn (hg pins s1 σ H1 x v _ I1 r1 q1) λ_ s2 q=>q
theorem ps_set {te:TE}(hN:X.N.Nodup)(hi:X.N[i]? =some x)(hx:Loc X.env.scope x)(he:PE X e te)(hs:↥(swapsWith e (some<|.Name x pos') pos.line X.env=pure false))(hf:X.fn x=true\/X.env.scope.names.lookup x=some .local:=by walk_at "z") :
  PS X (.Assign [.Name x pos'] e pos) (tAsg te<|b26 i):=by
 intro pins s σ H D I h;refine wpAny_Assign_Name (thn (he pins s σ H _ I h) λv s1 ⟨y,H1,I1,r1,q1⟩=> ?_) hs
 exact a93 I1 hN hi hx r1 (λs2 I2=>⟨_,H1,I2,q1⟩) hf
def tAug (i:Nat)(te:TE)(ti:TIp):TS:=λD σ H=> ∃x,σ[i]? =some (some x)/\te σ H λy H1=>ti x y H1 λz H2=>D.nx (σ.set i<|some z) H2
theorem ps_aug {te:TE}{op:Operator}{ti:TIp}(hN:X.N.Nodup)(hi:X.N[i]? =some x)(hx:Loc X.env.scope x)(he:PE X e te)(ho:PIp X op ti)(hf:X.fn x=true\/X.env.scope.names.lookup x=some .local:=by walk_at "z") :
  PS X (.AugAssign (.Name x pos') op e pos) (tAug i te ti):=by
 intro pins s σ H D I h;obtain⟨v,e1,h⟩:=h;obtain⟨m,hn,hl⟩:=I.loc;have vis:Vis X.env.scope x:=by rcases hx with k|k;exact .inl k;exact .inr (.inl k)
 obtain⟨u,r,l⟩:=hl i x v hi e1 vis;refine wpAny_AugAssign_Name ?_;have go:wpAny (model X.prog X.w) X.A (eval e X.env) (λw s₂=>wpAny (model X.prog X.w) X.A (inplaceOp op u w) (λr s₃=>wpAny (model X.prog X.w) X.A (storeName X.env x r) (λ_=>SP X pins D .next) X.xe s₃) X.xe s₂) X.xe s:=by
  refine thn (he pins s σ H _ I h) λw s1 ⟨y,H1,I1,r1,q1⟩=> ?_
  refine thn (ho pins s1 σ H1 v y u w _ I1 r r1 q1) λz s2 ⟨zv,H2,I2,r2,q2⟩=> ?_
  exact a93 I2 hN hi hx r2 (λs3 I3=>⟨_,H2,I3,q2⟩) hf
 rcases l with⟨hk,hm⟩| ⟨hk,c,hc,hcell⟩
 .exact qN I.ok.kind hk hn hm go
 .rcases hk with hk|hk
  .exact wpAny_loadName_cell I.ok.kind hk hc hcell go
  .rcases hx with k|k
   .have:X.env.scope.names.lookup x=some .free:=hk;rw[k]at this;cases this
   .have:X.env.scope.names.lookup x=some .free:=hk;rw[k]at this;cases this
def tAugS (to ti te:TE)(tget:V->V->Hp->VK->Prop)(tip:TIp)(tset:cZ6):TS:=λD σ H=>to σ H λo H1=>ti σ H1 λi H2=>tget o i H2 λx H3=>te σ H3 λy H4=>tip x y H4 λz H5=>tset o i z H5 λH6=>D.nx σ H6
def PGet (X:Cx)(t:V->V->Hp->VK->Prop):Prop:=
 ∀(pins:List (Addr×Obj)) (s:Shared) (σ:St) (H:Hp) (o i:V) (ov iv:Value) (Q:VK),Inv X pins σ H s->RelV o ov->RelV i iv->t o i H Q->
  wpAny (model X.prog X.w) X.A (getItem ov iv) (EP X pins σ Q) X.xe s
theorem dH9 {o i:Expr}{to ti te:TE}{tget:V->V->Hp->VK->Prop}{tip:TIp}{tset:cZ6}{op:Operator}(ho:PE X o to)(hi:PE X i ti)(hg:PGet X tget)(he:PE X e te)(hp:PIp X op tip)(hs:PSet X tset)
  (ha: ∀ov iv new,augStore i ov iv new=(do holding [new,ov,iv] (setItem ov iv new);release [new,ov,iv] [];pure .next):=by intros;rfl):PS X (.AugAssign (.Subscript o i tpos) op e pos) (tAugS to ti te tget tip tset):=by
 intro pins s σ H D I h;refine wpAny_AugAssign_SubscriptAny (thn (ho pins s σ H _ I h) λov s1 ⟨x1,H1,I1,r1,q1⟩=> ?_) ha
 refine thn (hi pins s1 σ H1 _ I1 q1) λiv s2 ⟨x2,H2,I2,r2,q2⟩=> ?_
 refine thn (hg pins s2 σ H2 x1 x2 ov iv _ I2 r1 r2 q2) λold s3 ⟨x3,H3,I3,r3,q3⟩=> ?_
 refine thn (he pins s3 σ H3 _ I3 q3) λv s4 ⟨x4,H4,I4,r4,q4⟩=> ?_
 refine thn (hp pins s4 σ H4 x3 x4 old v _ I4 r3 r4 q4) λnew s5 ⟨x5,H5,I5,r5,q5⟩=> ?_
 exact thn (hs pins s5 σ H5 x1 x2 x5 ov iv new _ I5 r1 r2 r5 q5) λ_ s6 ⟨H6,I6,q6⟩=>⟨σ,H6,I6,q6⟩
def ipI (f:Int->Int->Int):TIp:=λx y H Q=> ∃i j,x= .int i/\y= .int j/\Q (.int<|f i j) H
theorem ip_add:PIp X .Add (ipI λi j=>i+j):=by
 intro pins s σ H x y v u Q I r1 r2 h;obtain⟨i,j,e1,e2,q⟩:=h;subst e1;subst e2;obtain⟨t,rfl⟩:=r1;obtain⟨t',rfl⟩:=r2;exact iadd_int ⟨.int _,H,I.tok _,⟨_,rfl⟩,q⟩
theorem cZ9:PIp X .Sub (ipI λi j=>i-j):=by
 intro pins s σ H x y v u Q I r1 r2 h;obtain⟨i,j,e1,e2,q⟩:=h;subst e1;subst e2;obtain⟨t,rfl⟩:=r1;obtain⟨t',rfl⟩:=r2;exact isub_int ⟨.int _,H,I.tok _,⟨_,rfl⟩,q⟩
end
section
variable {X:Cx}{pos:Pos}
def tWhile (c:TT)(tb:TS):TS:=λD σ H=> ∃W:Nat->St->Hp->Prop,(∃m,W m σ H)/\ ∀m σ H,W m σ H->
 c σ H λb H1=>if b=true then ∃N:St->Hp->Prop,(∀σ' H',N σ' H'-> ∃m',m'<m/\W m' σ' H')/\tb {D with nx:=N,ct:=N,bk:=D.nx} σ H1 else D.nx σ H1
theorem d00 {tc:TT}{tb:TS}(hp:PassesOwn (model X.prog X.w) X.A X.env X.xe)(hc:PT X c tc)(hb:PSs X body tb):PS X (.While c body [] pos) (tWhile tc tb):=by
 intro pins s σ H D I h;obtain⟨W,⟨m0,w0⟩,turn⟩:=h;refine wpAny_While (codeAny_whileLoop (λn s'=> ∃σ' H',Inv X pins σ' H' s'/\W n σ' H') ?_ m0 ⟨σ,H,I,w0⟩)
 rintro n s1 ⟨σ1,H1,I1,w1⟩;refine oB hp (thn (hc pins s1 σ1 H1 _ I1<|turn n σ1 H1 w1) λb s2 ⟨H2,I2,q2⟩=> ?_)
 cases b with
 | true=>
  obtain⟨N,hN,q2⟩:=q2;rw[a7 rfl];refine oB hp (thn (hb pins s2 σ1 H2 _ I2 q2) λf s3 q3=> ?_)
  cases f with
  | next=>
   obtain⟨σ3,H3,I3,n3⟩:=q3;obtain⟨m',hm,w3⟩:=hN σ3 H3 n3;exact⟨m',hm,σ3,H3,I3,w3⟩
  | cont=>
   obtain⟨σ3,H3,I3,n3⟩:=q3;obtain⟨m',hm,w3⟩:=hN σ3 H3 n3;exact⟨m',hm,σ3,H3,I3,w3⟩
  | brk=>exact q3
  | ret v=>exact q3
 | false=>
  rw[a6 bE];exact qY ⟨σ1,H2,I2,q2⟩
end
structure It where
 go:Nat->Hp->Prop
 yld:Nat->Hp->V->Hp->Prop
 stop:Nat->Hp->Prop
def aX9 (X:Cx)(pins:List (Addr×Obj))(H:Hp)(b:Addr):Prop:=
 H b=none/\b≠X.env.locals/\b ∉ X.fs/\(b∈X.ex\/X.s₀.heap.objs.size<=b)/\(∀x c,X.env.cells.lookup x=some c->c≠b)/\ ∀p∈X.pn++pins,p.1≠b
theorem Inv.fpOk {X:Cx}{σ:St}{H H':Hp}(I:Inv X pins σ H s)(hb:s.heap.objs.size<=b)(hn:H' b=none):aX9 X pins H' b:=by
 refine⟨hn,ne_of_gt<|aZ I.lt hb,I.nofs hb,.inr<|aI I.sz hb,λx c e z=> ?_,λp hp z=> ?_⟩
 .obtain⟨v,q⟩:=I.cell x c e;exact absurd (aZ q.lt (by rw[z];exact hb)) (dI _)
 .exact absurd (aZ (aW (I.pin p hp).1) (by rw[z];exact hb)) (dI _)
structure cD3 (P:Program)(w:World)(K:PySem.W.Frag)(tg:Expr)(J:It)(fp:List Addr)(it:Addr)(tn:Nat->Heap->Prop):Prop where
 mem:it∈fp
 obj: ∀i h,tn i h-> ∀b∈fp,∃o,h.get? b=some o/\ ∀v,o.data≠ .cell v
 keep: ∀i h h',tn i h->(∀b∈fp,∀o,h.get? b=some o->h'.get? b=some o)->tn i h'
 item: ∀(X:Cx),X.prog=P->X.w=w->X.K=K->X.calm=true-> ∀(i:Nat) (pins:List (Addr×Obj)) (s:Shared) (σ:St) (H:Hp) (E:Value->Shared->Prop),Inv X pins σ H s->(∀b∈fp,aX9 X pins H b)->tn i s.heap->J.go i H->
  wpAny (model P w) X.A (pyNext<|.ref it) (λr s1=> ∃u,r=some u/\
   wpAny (model P w) X.A (letOwnedTupleGo tg (.ref it) u) (λ_ s2=> ∃x H',Inv X pins σ H' s2/\RelV x u/\J.yld i H x H'/\tn (i+1) s2.heap/\ ∀b∈fp,H' b=none) E s1) E s
 done: ∀(X:Cx),X.prog=P->X.w=w->X.K=K->X.calm=true-> ∀(i:Nat) (pins:List (Addr×Obj)) (s:Shared) (σ:St) (H:Hp) (E:Value->Shared->Prop),Inv X pins σ H s->(∀b∈fp,aX9 X pins H b)->tn i s.heap->J.stop i H->
  wpAny (model P w) X.A (pyNext<|.ref it) (λr s1=>r=none/\Inv X pins σ H s1) E s
 self: ∀(A:Around) (i:Nat) (s:Shared) (Q:Value->Shared->Prop) (E:Value->Shared->Prop),tn i s.heap->Q (.ref it) s->wpAny (model P w) A (pyIter<|.ref it) Q E s
abbrev TI:=St->Hp->(It->Hp->Prop)->Prop
def PIE (X:Cx)(pins:List (Addr×Obj))(σ:St)(tg:Expr)(R:It->Hp->Prop)(itv:Value)(s2:Shared):Prop:=
 ∃(it:Addr) (fp:List Addr) (tn:Nat->Heap->Prop) (J:It) (H':Hp),itv= .ref it/\Inv X pins σ H' s2/\cD3 X.prog X.w X.K tg J fp it tn/\tn 0 s2.heap/\(∀b∈fp,aX9 X pins H' b)/\R J H'
def PI (X:Cx)(tg iter:Expr)(wi:TI):Prop:=
 ∀(pins:List (Addr×Obj)) (s:Shared) (σ:St) (H:Hp) (R:It->Hp->Prop),Inv X pins σ H s->wi σ H R->
  wpAny (model X.prog X.w) X.A (eval iter X.env) (λv s1=>wpAny (model X.prog X.w) X.A (pyIter v) (PIE X pins σ tg R) X.xe s1) X.xe s
theorem c29 {M:Model}{n:String}{Q:Unit->Shared->Prop}(ho:s.heap.get? it=some o)(hc:o.cls= .type n)(hd:o.data= .fields vs)
  (hn:["enumerate","zip","dict_itemiterator","dict_reverseitemiterator","odict_iterator","itertools.zip_longest","itertools.pairwise"].contains n=false) (hQ:Q () s):wpAny M A (letOwnedTupleGo tg (.ref it) u) Q E s:=by
 unfold letOwnedTupleGo;cases tg<;>first
  | exact aN hQ
  | (cases u<;>first
    | exact aN hQ
    | (refine a9 (wpAny_load ho ?_)
       rw[hc,hd];show wpAny M A (if(["enumerate","zip","dict_itemiterator","dict_reverseitemiterator","odict_iterator","itertools.zip_longest","itertools.pairwise"].contains n&&vs[0]? ==some (rawInt _))=true then _ else _) Q E s;rw[a6 (by intro h;rw[hn,Bool.false_and]at h;cases h)]
       exact aN hQ))
noncomputable def Itl (K:PySem.W.Frag)(a:Addr):It:=
 ⟨λi H=> ∃xs x,SqL K H a xs/\xs[i]? =some x,λi H x H'=>H'=H/\ ∀xs,SqL K H a xs->xs[i]? =some x,λi H=> ∃xs,SqL K H a xs/\xs.length<=i⟩
noncomputable def Itt (K:PySem.W.Frag)(a:Addr):It:=
 ⟨λi H=> ∃xs x,SqT K H a xs/\xs[i]? =some x,λi H x H'=>H'=H/\ ∀xs,SqT K H a xs->xs[i]? =some x,λi H=> ∃xs,SqT K H a xs/\xs.length<=i⟩
noncomputable def Itr (lo:Int)(n:Nat):It:=⟨λi _=>i<n,λi H x H'=>H'=H/\x= .int (lo+i),λi _=>n<=i⟩
theorem cS2 (a it:Addr):cD3 P w K tg (Itl K a) [it] it (λi h=>h.IsListIter it a i) where
 mem:=ae
 obj:=λi h st b hb=>by
  have e:b=it:=by exists hb
  subst e;obtain⟨o,e,c,d⟩:=st;exact⟨o,e,λv z=>by rw[d]at z;cases z⟩
 keep:=λi h h' st k=>st.at λo e=>k it ae o e
 item:=by
  intro X hP hw hK hc i pins s σ H E I hf st hg;subst hP hw hK;obtain⟨xs,x,hq,hx⟩:=hg;obtain⟨its,rv,p,hz⟩:=I.list hq;obtain⟨u,hu,ru⟩:=rv.get hx;obtain⟨f0,f1,f2,f3,f4,f5⟩:=hf it ae
  refine wpAny_pyNext_list_item st p.isList (x:=u) (by exists hu) λh' st' sb=> ?_
  have I1:Inv X pins σ H {s with heap:=h'}:=I.turned (t':=s.toks) (λb o hb e=>(sb.2 b hb).trans e) f0 f1 f3 f4 f5
  obtain⟨o,e,c,d⟩:=id st';exact⟨u,rfl,c29 (s:={s with heap:=h'}) e c d ac ⟨x,H,I1,ru,⟨rfl,λys hy=>by rw[I.list_inj hy hq];exact hx⟩,st',λb hb=>(hf b hb).1⟩⟩
 done:=by
  intro X hP hw hK hc i pins s σ H E I hf st hg;subst hP hw hK;obtain⟨xs,hq,hx⟩:=hg;obtain⟨its,rv,p,hz⟩:=I.list hq;obtain⟨f0,f1,f2,f3,f4,f5⟩:=hf it ae
  have hl:=rv.length;exact wpAny_pyNext_list_end (I.ok.hd hc) st p.isList (by simp;lia) λh' eb=>⟨rfl,I.turned (t':=s.toks) (λb o hb e=>eb b o hb e) f0 f1 f3 f4 f5⟩
 self:=λ_ _ _ _ _ st h=>wpAny_pyIter_listiter st h
theorem cD4 (a it:Addr):cD3 P w K tg (Itt K a) [it] it (λi h=>h.IsTupleIter it a i) where
 mem:=ae
 obj:=λi h st b hb=>by
  have e:b=it:=by exists hb
  subst e;obtain⟨o,e,c,d⟩:=st;exact⟨o,e,λv z=>by rw[d]at z;cases z⟩
 keep:=λi h h' st k=>st.at λo e=>k it ae o e
 item:=by
  intro X hP hw hK hc i pins s σ H E I hf st hg;subst hP hw hK;obtain⟨xs,x,hq,hx⟩:=hg;obtain⟨its,rv,p,hz⟩:=I.tuple hq;obtain⟨u,hu,ru⟩:=rv.get hx;obtain⟨f0,f1,f2,f3,f4,f5⟩:=hf it ae
  refine wpAny_pyNext_tuple_item st (show s.heap.IsTuple a its.toArray from p) (x:=u) (by exists hu) λh' st' sb=> ?_
  have I1:Inv X pins σ H {s with heap:=h'}:=I.turned (t':=s.toks) (λb o hb e=>(sb.2 b hb).trans e) f0 f1 f3 f4 f5
  obtain⟨o,e,c,d⟩:=id st';exact⟨u,rfl,c29 (s:={s with heap:=h'}) e c d ac ⟨x,H,I1,ru,⟨rfl,λys hy=>by rw[I.tuple_inj hy hq];exact hx⟩,st',λb hb=>(hf b hb).1⟩⟩
 done:=by
  intro X hP hw hK hc i pins s σ H E I hf st hg;subst hP hw hK;obtain⟨xs,hq,hx⟩:=hg;obtain⟨its,rv,p,hz⟩:=I.tuple hq;obtain⟨f0,f1,f2,f3,f4,f5⟩:=hf it ae
  have hl:=rv.length;exact wpAny_pyNext_tuple_end (I.ok.hd hc) st (show s.heap.IsTuple a its.toArray from p) (by simp;lia) λh' eb=>⟨rfl,I.turned (t':=s.toks) (λb o hb e=>eb b o hb e) f0 f1 f3 f4 f5⟩
 self:=λ_ _ _ _ _ st h=>wpAny_pyIter_tupleiter st h
theorem cD5 (it:Addr)(lo:Int)(n:Nat):cD3 P w K tg (Itr lo n) [it] it (λi h=>IsRangeIter h it (lo+(i:Nat)*1) ((n:Int)-(i:Nat)) 1) where
 mem:=ae
 obj:=λi h st b hb=>by
  have e:b=it:=by exists hb
  subst e;exact⟨_,st,λv z=>by
   have z':Data.fields _=Data.cell v:=z;cases z'⟩
 keep:=λi h h' st k=>k it ae _ st
 item:=by
  intro X hP hw hK hc i pins s σ H E I hf st hg;subst hP hw hK;obtain⟨f0,f1,f2,f3,f4,f5⟩:=hf it ae
  have W:=Walks.range (prog:=X.prog) (w:=X.w) (I.ok.hd hc) it lo 1 n;refine W.item i s _ _ hg st λv h' tk hv st' kk=> ?_
  obtain⟨t,rfl⟩:=hv;have I1:Inv X pins σ H {s with heap:=h',toks:=tk}:=I.turned (λb o hb e=>kk b o (by exists hb) e) f0 f1 f3 f4 f5
  refine⟨_,rfl,c29 (s:={s with heap:=h',toks:=tk}) (n:="range_iterator") st' rfl rfl ac ⟨.int<|lo+i,H,I1,⟨t,?_⟩,⟨rfl,rfl⟩,st',λb hb=>(hf b hb).1⟩⟩
  rw[lN]
 done:=by
  intro X hP hw hK hc i pins s σ H E I hf st hg;subst hP hw hK;obtain⟨f0,f1,f2,f3,f4,f5⟩:=hf it ae
  exact wpAny_pyNext_range_end (I.ok.hd hc) st (by have:n<=i:=hg;lia) λh' eb=>⟨rfl,I.turned (t':=s.toks) (λb o hb e=>eb b o hb e) f0 f1 f3 f4 f5⟩
 self:=λ_ _ _ _ _ st h=>aJ8 st h
section
variable {X:Cx}{tg:Expr}
theorem c30 {σ:St}{H:Hp}{R:It->Hp->Prop}{hi:Int}{t u v:Tok}(I:Inv X pins σ H s)(h1: -(2^62)<=lo)(h2:lo<2^62)(h3: -(2^62)<=hi)(h4:hi<2^62)
  (q:R (Itr lo (hi-lo).toNat) H):wpAny (model X.prog X.w) X.A (pyIter<|.ref s.heap.objs.size) (PIE X pins σ tg R) E {s with heap:=s.heap.push {cls:= .type "range",data:= .fields #[.int lo t,.int hi u,.int 1 v]},toks:=tk}:=by
 refine wpAny_pyIter_range (IsRange.new ..) (small_one h1 h2 h3 h4) ?_
 have I1:Inv X pins σ H {s with heap:=s.heap.push {cls:= .type "range",data:= .fields #[.int lo t,.int hi u,.int 1 v]},toks:=tk}:=I.kept λb o e=>bC _ e
 refine⟨(s.heap.push {cls:= .type "range",data:= .fields #[.int lo t,.int hi u,.int 1 v]}).objs.size,[(s.heap.push {cls:= .type "range",data:= .fields #[.int lo t,.int hi u,.int 1 v]}).objs.size],_,_,H,rfl,
  I1.kept (t':=tk) λb o e=>bC _ e,cD5 _ lo (hi-lo).toNat,?_,λb hb=> ?_,q⟩
 .have e1:lo+((0:Nat):Int)*1=lo:=ae
  have e2:(((hi-lo).toNat:Nat):Int)-((0:Nat):Int)=Builtin.Range.rangeSize lo hi 1:=by rw[rangeSize_one];split<;>lia
  show IsRangeIter _ _ (lo+((0:Nat):Int)*1) ((((hi-lo).toNat:Nat):Int)-((0:Nat):Int)) 1
  rw[e1,e2];exact cZ _ rfl
 .have e:b=(s.heap.push {cls:= .type "range",data:= .fields #[.int lo t,.int hi u,.int 1 v]}).objs.size:=by exists hb
  subst e;exact I1.fpOk (aD _) (I1.hok.fresh<|aD _)
def iRng1 (ta:TA):TI:=λσ H R=>ta σ H λvs H1=> ∃j:Int,vs=[.int j]/\ -(2^62)<=j/\j<2^62/\R (Itr 0 j.toNat) H1
def iRng2 (ta:TA):TI:=λσ H R=>ta σ H λvs H1=> ∃i j:Int,vs=[.int i,.int j]/\(-(2^62)<=i/\i<2^62/\ -(2^62)<=j/\j<2^62)/\R (Itr i (j-i).toNat) H1
theorem cS3 {a:Expr}{ta:TA}(hg:Gl X "range")(hm:X.mg "range"=none)(ha:PA X [a] ta)(hs:↥(starEach [a] X.env=[(false,eval a X.env)])):PI X tg (.Call (.Name "range" p) [a] [] pos) (iRng1 ta):=by
 intro pins s σ H R I h;refine Call_ (xS I hg hm boot_range<|lD (thn (ha pos pins s σ H _ I h) λus s1 ⟨vs,H1,I1,r1,q1⟩=> ?_) hs rfl)
 obtain⟨j,e,q1,q2,q⟩:=q1;subst e;cases r1 with
 | cons r rr=>
  cases rr;obtain⟨t,rfl⟩:=r;exact call_range_1 (c30 I1 ad ad q1 q2<|by exists q)
theorem cS4 {a b:Expr}{ta:TA}(hg:Gl X "range")(hm:X.mg "range"=none)(ha:PA X [a,b] ta)(hs:↥(starEach [a,b] X.env=[(false,eval a X.env),(false,eval b X.env)]))(hs2:↥(starEach [b] X.env=[(false,eval b X.env)])) :
  PI X tg (.Call (.Name "range" p) [a,b] [] pos) (iRng2 ta):=by
 intro pins s σ H R I h;refine Call_ (xS I hg hm boot_range<|lD (thn (ha pos pins s σ H _ I h) λus s1 ⟨vs,H1,I1,r1,q1⟩=> ?_) (by rw[hs,hs2]) (by rw[hs2];rfl))
 obtain⟨i,j,e,⟨q1,q2,q3,q4⟩,q⟩:=q1;subst e;cases r1 with
 | cons r rr=>
  cases rr with
  | cons r' rr=>
   cases rr;obtain⟨t,rfl⟩:=r;obtain⟨t',rfl⟩:=r';exact call_range_2 (c30 I1 q1 q2 q3 q4 q)
def tFor (wi:TI)(g:TG)(tb:TS):TS:=λD σ H=>wi σ H λJ H1=> ∃W:Nat->Nat->St->Hp->Prop,(∃m,W 0 m σ H1)/\ ∀i m σ H,W i m σ H->
 (J.stop i H/\D.nx σ H)\/(J.go i H/\ ∃N:St->Hp->Prop,(∀σ' H',N σ' H'-> ∃m',m'<m/\W (i+1) m' σ' H')/\ ∀x H',J.yld i H x H'->g x σ H' λσ2 H2=>tb {D with nx:=N,ct:=N,bk:=D.nx} σ2 H2)
noncomputable def b87 (fp:List Addr)(h:Heap):List (Addr×Obj):=fp.filterMap λb=>(h.get? b).map λo=>(b,o)
theorem a37 (hb:b∈fp)(e:h.get? b=some o):(b,o)∈b87 fp h:=aL2.mpr ⟨b,hb,by rw[e];rfl⟩
theorem cS5 {p:Addr×Obj}(hp:p∈b87 fp h):p.1∈fp/\h.get? p.1=some p.2:=by
 obtain⟨b,hb,e⟩:=aL2.mp hp;cases q:h.get? b with
 | none=>rw[q]at e;cases e
 | some o=>
  rw[q]at e;have e':(b,o)=p:=gX e;subst e';exact⟨hb,q⟩
theorem Inv.pinned {σ:St}{H:Hp}(I:Inv X pins σ H s)(hf: ∀b∈fp,aX9 X pins H b)(ho: ∀b∈fp,∃o,s.heap.get? b=some o/\ ∀v,o.data≠ .cell v):Inv X (pins++b87 fp s.heap) σ H s:=
 I.pins_of λp hp=>(bU.mp hp).elim (λz=>I.pin p (gL _ z)) λz=>by
  obtain⟨hb,e⟩:=cS5 z;obtain⟨f0,f1,f2,_⟩:=hf p.1 hb;obtain⟨o,e',d⟩:=ho p.1 hb;rw[e]at e';cases e';exact⟨e,f0,f1,f2,d⟩
theorem Inv.unpinned {pl:List (Addr×Obj)}{σ:St}{H:Hp}(I:Inv X (pins++pl) σ H s):Inv X pins σ H s:=I.pins_of λp hp=>I.pin p (gL _<|a06 _ hp)
theorem ps_for {wi:TI}{g:TG}{tb:TS}(hp:PassesOwn (model X.prog X.w) X.A X.env X.xe)(hc:X.calm=true)(hi:PI X tg iter wi)(hg:PG X tg g)(hb:PSs X body tb)
  (hs: ∀x,foldedSetIterable iter X.env x=pure x:=by intro _;rfl):PS X (.For tg iter body [] pos) (tFor wi g tb):=by
 intro pins s σ H D I h;refine wpAny_For (thn (hi pins s σ H _ I h) λv s1 h1=>thn h1 λitv s2 h2=> ?_) hs
 obtain⟨it,fp,tn,J,H2,e,I2,T,st2,f2,W,⟨m0,w0⟩,turn⟩:=h2;subst e;have stat: ∀{H':Hp},(∀b∈fp,H' b=none)-> ∀b∈fp,aX9 X pins H' b:=λhn b hb=>⟨hn b hb,(f2 b hb).2⟩
 refine codeAny_forLoop_any (λn s'=> ∃i σ' H',Inv X pins σ' H' s'/\tn i s'.heap/\(∀b∈fp,H' b=none)/\W i n σ' H') ?_ m0 ⟨0,σ,H2,I2,st2,λb hb=>(f2 b hb).1,w0⟩
 rintro n s3 ⟨i,σ3,H3,I3,st3,fr3,w3⟩;rcases turn i n σ3 H3 w3 with⟨stop,qn⟩| ⟨go,N,hN,step⟩
 .refine oB hp (thn (T.done X rfl rfl rfl hc i pins s3 σ3 H3 X.xe I3 (stat fr3) st3 stop) λr s4 ⟨hr,I4⟩=> ?_)
  subst hr;exact qY ⟨σ3,H3,I4,qn⟩
 .refine oB hp (thn (T.item X rfl rfl rfl hc i pins s3 σ3 H3 X.xe I3 (stat fr3) st3 go) λr s4 ⟨u,hr,h4⟩=> ?_)
  subst hr;refine oB hp (thn h4 λ_ s5 ⟨x,H5,I5,r5,y5,st5,fr5⟩=> ?_)
  have I5':=I5.pinned (stat fr5) (T.obj _ _ st5);refine oB hp (thn (hg _ s5 σ3 H5 x u _ I5' r5<|step x H5 y5) λ_ s6 ⟨σ6,H6,I6,q6⟩=> ?_)
  refine oB hp (thn (hb _ s6 σ6 H6 _ I6 q6) λf s7 q7=> ?_)
  have again: ∀{σ7:St} {H7:Hp},Inv X (pins++b87 fp s5.heap) σ7 H7 s7->N σ7 H7-> ∃m,m<n/\ ∃i σ' H',Inv X pins σ' H' s7/\tn i s7.heap/\(∀b∈fp,H' b=none)/\W i m σ' H':=λ{σ7 H7} I7 n7=>by
   obtain⟨m',hm,w7⟩:=hN σ7 H7 n7;refine⟨m',hm,i+1,σ7,H7,I7.unpinned,T.keep _ _ _ st5 λb hb o e=>(I7.pin (b,o)<|gL _<|gL _<|a37 hb e).1,λb hb=> ?_,w7⟩
   obtain⟨o,e,d⟩:=T.obj _ _ st5 b hb;exact(I7.pin (b,o)<|gL _<|gL _<|a37 hb e).2.1
  cases f with
  | next=>obtain⟨σ7,H7,I7,n7⟩:=q7;exact again I7 n7
  | cont=>obtain⟨σ7,H7,I7,n7⟩:=q7;exact again I7 n7
  | brk=>obtain⟨σ7,H7,I7,q7⟩:=q7;exact⟨σ7,H7,I7.unpinned,q7⟩
  | ret v=>obtain⟨x7,σ7,H7,I7,r7,q7⟩:=q7;exact⟨x7,σ7,H7,I7.unpinned,r7,q7⟩
end
abbrev R2:=V->V->Hp->VK->Prop
def OpR (X:Cx)(f:Value->Value->Sem Value)(r:R2):Prop:=
 ∀(pins:List (Addr×Obj)) (s:Shared) (σ:St) (H:Hp) (x y:V) (v u:Value) (Q:VK),Inv X pins σ H s->RelV x v->RelV y u->r x y H Q->
  wpAny (model X.prog X.w) X.A (f v u) (EP X pins σ Q) X.xe s
def UnR (X:Cx)(f:Value->Sem Value)(r:V->Hp->VK->Prop):Prop:=
 ∀(pins:List (Addr×Obj)) (s:Shared) (σ:St) (H:Hp) (x:V) (v:Value) (Q:VK),Inv X pins σ H s->RelV x v->r x H Q->
  wpAny (model X.prog X.w) X.A (f v) (EP X pins σ Q) X.xe s
def pE (X:Cx)(f:Value)(r:List V->Hp->VK->Prop):Prop:=
 ∀(pins:List (Addr×Obj)) (s:Shared) (σ:St) (H:Hp) (xs:List V) (us:List Value) (Q:VK),Inv X pins σ H s->Vals xs us->r xs H Q->
  wpAny (model X.prog X.w) X.A (call f us) (EP X pins σ Q) X.xe s
def tOp (r:R2)(ta tb:TE):TE:=λσ H Q=>ta σ H λx H1=>tb σ H1 λy H2=>r x y H2 Q
def tUn (r:V->Hp->VK->Prop)(ta:TE):TE:=λσ H Q=>ta σ H λx H1=>r x H1 Q
def rI (C:Int->Int->Prop)(g:Int->Int->V):R2:=λx y H Q=> ∃i j,x= .int i/\y= .int j/\C i j/\Q (g i j) H
def rI0 (g:Int->Int->V):R2:=λx y H Q=> ∃i j,x= .int i/\y= .int j/\Q (g i j) H
def rU (g:Int->V):V->Hp->VK->Prop:=λx H Q=> ∃i,x= .int i/\Q (g i) H
section
variable {X:Cx}{a b c:Expr}{ta tb tc:TE}{pos:Pos}
theorem binT (ha:PE X a ta)(hb:PE X b tb){σ:St}{H:Hp}{R:V->V->Hp->Prop}(I:Inv X pins σ H s)
  (h:ta σ H λx H1=>tb σ H1 λy H2=>R x y H2) {Q:Value->Shared->Prop} {f:Value->Value->Sem Value}
  (hf: ∀v u s2 x y H2,Inv X pins σ H2 s2->RelV x v->RelV y u->R x y H2->wpAny (model X.prog X.w) X.A (f v u) Q X.xe s2) :
  wpAny (model X.prog X.w) X.A (eval a X.env) (λv s₁=>wpAny (model X.prog X.w) X.A (eval b X.env) (λu s₂=>wpAny (model X.prog X.w) X.A (f v u) Q X.xe s₂) X.xe s₁) X.xe s:=by
 refine thn (ha pins s σ H _ I h) λv s1 ⟨x,H1,I1,r1,q1⟩=> ?_
 refine thn (hb pins s1 σ H1 _ I1 q1) λu s2 ⟨y,H2,I2,r2,q2⟩=> ?_
 exact hf v u s2 x y H2 I2 r1 r2 q2
theorem pe_op {op:Operator}{r:R2}(ho:OpR X (binaryOp op) r)(ha:PE X a ta)(hb:PE X b tb):PE X (.BinOp a op b pos) (tOp r ta tb):=by
 intro pins s σ H Q I h;exact wpAny_BinOp (binT ha hb I h λv u s2 x y H2 I2 rx ry q=>ho pins s2 σ H2 x y v u Q I2 rx ry q)
theorem pe_un {op:UnaryOp}{r:V->Hp->VK->Prop}(ho:UnR X (unaryOp op) r)(ha:PE X a ta):PE X (.UnaryOp op a pos) (tUn r ta):=by
 intro pins s σ H Q I h;exact UnaryOp_ (thn (ha pins s σ H _ I h) λv s1 ⟨x,H1,I1,r1,q1⟩=>ho pins s1 σ H1 x v Q I1 r1 q1)
theorem opI {f:Value->Value->Sem Value}{C:Int->Int->Prop}{g:Int->Int->Int}
  (rule: ∀(i j:Int) (t u:Tok) (s:Shared) (Q:Value->Shared->Prop) (E:Value->Shared->Prop),C i j->Q (.int (g i j) s.toks) {s with toks:=s.toks+1}->wpAny (model X.prog X.w) X.A (f (.int i t)<|.int j u) Q E s) :
  OpR X f (rI C λi j=> .int (g i j)):=by
 intro pins s σ H x y v u Q I rx ry h;obtain⟨i,j,rfl,rfl,hc,q⟩:=h;obtain⟨t,rfl⟩:=rx;obtain⟨t',rfl⟩:=ry;exact rule i j t t' s _ _ hc ⟨.int<|g i j,H,I.tok _,⟨_,rfl⟩,q⟩
theorem opI0 {f:Value->Value->Sem Value}{g:Int->Int->Int}
  (rule: ∀(i j:Int) (t u:Tok) (s:Shared) (Q:Value->Shared->Prop) (E:Value->Shared->Prop),Q (.int (g i j) s.toks) {s with toks:=s.toks+1}->wpAny (model X.prog X.w) X.A (f (.int i t)<|.int j u) Q E s) :
  OpR X f (rI0 λi j=> .int (g i j)):=by
 intro pins s σ H x y v u Q I rx ry h;obtain⟨i,j,rfl,rfl,q⟩:=h;obtain⟨t,rfl⟩:=rx;obtain⟨t',rfl⟩:=ry;exact rule i j t t' s _ _ ⟨.int<|g i j,H,I.tok _,⟨_,rfl⟩,q⟩
theorem dI0 {f:Value->Value->Sem Value}{g:Int->Int->Bool}
  (rule: ∀(i j:Int) (t u:Tok) (s:Shared) (Q:Value->Shared->Prop) (E:Value->Shared->Prop),Q (.bool<|g i j) s->wpAny (model X.prog X.w) X.A (f (.int i t)<|.int j u) Q E s) :
  OpR X f (rI0 λi j=> .bl (g i j)):=by
 intro pins s σ H x y v u Q I rx ry h;obtain⟨i,j,rfl,rfl,q⟩:=h;obtain⟨t,rfl⟩:=rx;obtain⟨t',rfl⟩:=ry;exact rule i j t t' s _ _ ⟨.bl<|g i j,H,I,rfl,q⟩
def dI1 (i j:Int):Prop:=0<=j/\j<=1000000/\i.natAbs<2^64
def c31 (i j:Int):Prop:=(-(2^64)<i/\i<2^64)\/(-(2^64)<j/\j<2^64)
theorem c31.ok {i j:Int}(h:c31 i j):IntMulOk i j:=by
 rcases h with⟨h1,h2⟩| ⟨h1,h2⟩
 .exact .of_left (intBits_le_64 h1 h2)
 .exact .of_right (intBits_le_64 h1 h2)
theorem op_add:OpR X (binaryOp .Add) (rI0 λi j=> .int (i+j)):=opI0 λ_ _ _ _ _ _ _ q=>add_int q
theorem op_sub:OpR X (binaryOp .Sub) (rI0 λi j=> .int (i-j)):=opI0 λ_ _ _ _ _ _ _ q=>sub_int q
theorem dI2:OpR X (binaryOp .Mod) (rI (λ_ j=>j≠0) λi j=> .int (i.fmod j)):=opI λ_ _ _ _ _ _ _ hc q=>mod_int' hc q
theorem op_pow:OpR X (binaryOp .Pow) (rI dI1 λi j=> .int (i^j.toNat)):=opI λ_ _ _ _ _ _ _ hc q=>pow_int_small hc.1 hc.2.1 hc.2.2 q
theorem unI {f:Value->Sem Value}{g:Int->Int}
  (rule: ∀(i:Int) (t:Tok) (s:Shared) (Q:Value->Shared->Prop) (E:Value->Shared->Prop),Q (.int (g i) s.toks) {s with toks:=s.toks+1}->wpAny (model X.prog X.w) X.A (f<|.int i t) Q E s) :
  UnR X f (rU λi=> .int (g i)):=by
 intro pins s σ H x v Q I rx h;obtain⟨i,rfl,q⟩:=h;obtain⟨t,rfl⟩:=rx;exact rule i t s _ _ ⟨.int<|g i,H,I.tok _,⟨_,rfl⟩,q⟩
theorem un_neg:UnR X (unaryOp .USub) (rU λi=> .int (-i)):=unI λ_ _ _ _ _ q=>neg_int q
end
noncomputable def scal:V->V->Bool
 | .non,.non=>true| .non,.int _=>true| .int _,.non=>true| .non,.bl _=>true| .bl _,.non=>true| .non,.str _=>true| .str _,.non=>true
 | .int _,.int _=>true| .bl _,.bl _=>true| .str _,.str _=>true| .byt _,.byt _=>true
 | .int _,.str _=>true| .str _,.int _=>true| .bl _,.str _=>true| .str _,.bl _=>true
 | _,_=>false
noncomputable def rEq:R2:=λx y H Q=>scal x y=true/\Q (.bl<|decide (x=y)) H
noncomputable def rNe:R2:=λx y H Q=>scal x y=true/\Q (.bl<|!decide (x=y)) H
theorem b68 {i j:Int}:decide (V.int i=V.int j)=(i==j):=by
 rw[a17];simp
theorem bT9 {i j:Bool}:decide (V.bl i=V.bl j)=(i==j):=by
 rw[a17];simp
theorem b69 {i j:Str}:decide (V.str i=V.str j)=(i==j):=by
 rw[a17];simp
theorem cL7 {i j:Array UInt8}:decide (V.byt i=V.byt j)=(i.toList==j.toList):=by
 rw[a17];cases i;cases j;simp
section
variable {X:Cx}{a b c:Expr}{ta tb tc:TE}{pos:Pos}
theorem gG {σ:St}{H:Hp}{Q:VK}{k k':Bool}(I:Inv X pins σ H s)(q:Q (.bl k) H)(e:k=k'):EP X pins σ Q (.bool k') s:=by
 subst e;exact⟨.bl k,H,I,rfl,q⟩
theorem d02:OpR X (compareOp .Eq) rEq:=by
 intro pins s σ H x y v u Q I rx ry h;obtain⟨hs,q⟩:=h;cases x with
 | non=>
  cases rx;cases y with
  | non=>cases ry;exact PySem.EqNone.eq_none_none (gG I q ae)
  | bl j=>cases ry;exact PySem.EqNone.eq_none_bool (gG I q ae)
  | int j=>obtain⟨t',rfl⟩:=ry;exact PySem.EqNone.eq_none_int (gG I q ae)
  | str j=>obtain⟨t',rfl⟩:=ry;exact PySem.EqNone.eq_none_str (gG I q ae)
  | _=>exact absurd (show false=true from hs) bE
 | bl i=>
  cases rx;cases y with
  | non=>cases ry;exact PySem.EqNone.eq_bool_none (gG I q ae)
  | bl j=>cases ry;exact eq_bool (gG I q bT9)
  | str j=>obtain⟨t',rfl⟩:=ry;exact PySem.EqMixed.eq_bool_str (gG I q ae)
  | _=>exact absurd (show false=true from hs) bE
 | int i=>
  obtain⟨t,rfl⟩:=rx;cases y with
  | non=>cases ry;exact PySem.EqNone.eq_int_none (gG I q ae)
  | int j=>obtain⟨t',rfl⟩:=ry;exact eq_int (gG I q b68)
  | str j=>obtain⟨t',rfl⟩:=ry;exact PySem.EqMixed.eq_int_str (gG I q ae)
  | _=>exact absurd (show false=true from hs) bE
 | str i=>
  obtain⟨t,rfl⟩:=rx;cases y with
  | non=>cases ry;exact PySem.EqNone.eq_str_none (gG I q ae)
  | bl j=>cases ry;exact PySem.EqMixed.eq_str_bool (gG I q ae)
  | int j=>obtain⟨t',rfl⟩:=ry;exact PySem.EqMixed.eq_str_int (gG I q ae)
  | str j=>obtain⟨t',rfl⟩:=ry;exact eq_str (gG I q b69)
  | _=>exact absurd (show false=true from hs) bE
 | byt i=>
  obtain⟨t,rfl⟩:=rx;cases y with
  | byt j=>obtain⟨t',rfl⟩:=ry;exact PySem.W.eq_bytes (gG I q cL7)
  | _=>exact absurd (show false=true from hs) bE
 | _=>cases y<;>exact absurd (show false=true from hs) bE
theorem d03:OpR X (compareOp .NotEq) rNe:=by
 intro pins s σ H x y v u Q I rx ry h;obtain⟨hs,q⟩:=h;cases x with
 | non=>
  cases rx;cases y with
  | non=>cases ry;exact PySem.EqNone.ne_none_none (gG I q ae)
  | bl j=>cases ry;exact PySem.EqNone.ne_none_bool (gG I q ae)
  | int j=>obtain⟨t',rfl⟩:=ry;exact PySem.EqNone.ne_none_int (gG I q ae)
  | str j=>obtain⟨t',rfl⟩:=ry;exact PySem.EqNone.ne_none_str (gG I q ae)
  | _=>exact absurd (show false=true from hs) bE
 | bl i=>
  cases rx;cases y with
  | non=>cases ry;exact PySem.EqNone.ne_bool_none (gG I q ae)
  | bl j=>cases ry;exact ne_bool (gG I q<|bW not bT9)
  | str j=>obtain⟨t',rfl⟩:=ry;exact PySem.EqMixed.ne_bool_str (gG I q ae)
  | _=>exact absurd (show false=true from hs) bE
 | int i=>
  obtain⟨t,rfl⟩:=rx;cases y with
  | non=>cases ry;exact PySem.EqNone.ne_int_none (gG I q ae)
  | int j=>obtain⟨t',rfl⟩:=ry;exact ne_int (gG I q<|bW not b68)
  | str j=>obtain⟨t',rfl⟩:=ry;exact PySem.EqMixed.ne_int_str (gG I q ae)
  | _=>exact absurd (show false=true from hs) bE
 | str i=>
  obtain⟨t,rfl⟩:=rx;cases y with
  | non=>cases ry;exact PySem.EqNone.ne_str_none (gG I q ae)
  | bl j=>cases ry;exact PySem.EqMixed.ne_str_bool (gG I q ae)
  | int j=>obtain⟨t',rfl⟩:=ry;exact PySem.EqMixed.ne_str_int (gG I q ae)
  | str j=>obtain⟨t',rfl⟩:=ry;exact ne_str (gG I q<|bW not b69)
  | _=>exact absurd (show false=true from hs) bE
 | byt i=>
  obtain⟨t,rfl⟩:=rx;cases y with
  | byt j=>obtain⟨t',rfl⟩:=ry;exact PySem.W.ne_bytes (gG I q<|bW not cL7)
  | _=>exact absurd (show false=true from hs) bE
 | _=>cases y<;>exact absurd (show false=true from hs) bE
theorem op_lt:OpR X (compareOp .Lt) (rI0 λi j=> .bl (decide (i<j))):=dI0 λ_ _ _ _ _ _ _ q=>lt_int q
theorem op_le:OpR X (compareOp .LtE) (rI0 λi j=> .bl (decide (i<=j))):=dI0 λ_ _ _ _ _ _ _ q=>le_int q
theorem op_gt:OpR X (compareOp .Gt) (rI0 λi j=> .bl (decide (j<i))):=dI0 λ_ _ _ _ _ _ _ q=>gt_int q
theorem op_ge:OpR X (compareOp .GtE) (rI0 λi j=> .bl (decide (j<=i))):=dI0 λ_ _ _ _ _ _ _ q=>ge_int q
theorem b88 (b:Expr)(h:⇑(op≠ .In))(h2:⇑(op≠ .NotIn)):behindInMarks op b=false:=by
 have e1:(op==CmpOp.In)=false:=by cases op<;>first|rfl|exact absurd rfl h
 have e2:(op==CmpOp.NotIn)=false:=by cases op<;>first|rfl|exact absurd rfl h2
 cases b<;>simp[behindInMarks,e1,e2]
theorem dI3 {r:R2}(ho:OpR X (compareOp op) r)(ha:PE X a ta)(hb:PE X b tb)(hm:behindInMarks op b=false):PE X (.Compare a [op] [b] pos) (tOp r ta tb):=by
 intro pins s σ H Q I h;exact wpAny_Compare1 (binT ha hb I h λv u s2 x y H2 I2 rx ry q=>ho pins s2 σ H2 x y v u Q I2 rx ry q) hm
def tTest (t:TE):TT:=λσ H Q=>t σ H λx H'=> ∃k,x= .bl k/\Q k H'
theorem dI4 {r:R2}(ho:OpR X (compareOp op) r)(ha:PE X a ta)(hb:PE X b tb)(hm:behindInMarks op b=false):PT X (.Compare a [op] [b] pos) (tTest<|tOp r ta tb):=by
 intro pins s σ H Q I h;refine wpAny_isTrue_Compare1 (thn (ha pins s σ H _ I h) λv s1 ⟨x,H1,I1,r1,q1⟩=>thn (hb pins s1 σ H1 _ I1 q1) λu s2 ⟨y,H2,I2,r2,q2⟩=>
  thn (ho pins s2 σ H2 x y v u _ I2 r1 r2 q2) λc s3 ⟨z,H3,I3,r3,k,e,q3⟩=> ?_) hm
 subst e;cases r3;exact lH ⟨H3,I3,q3⟩
def tChain (r r':R2)(ta tb tc:TE):TE:=λσ H Q=>ta σ H λx H1=>tb σ H1 λy H2=>r x y H2 λz H3=> ∃k,z= .bl k/\
 (if k=true then tc σ H3 λw' H4=>r' y w' H4 Q else Q (.bl false) H3)
theorem d04 {op op':CmpOp}{r r':R2}(ho:OpR X (compareOp op) r)(ho':OpR X (compareOp op') r')(ha:PE X a ta)(hb:PE X b tb)(hc:PE X c tc)
  (hm:lastMarks [op,op'] [b,c]=false:=by with_unfolding_all rfl):PE X (.Compare a [op,op'] [b,c] pos) (tChain r r' ta tb tc):=by
 intro pins s σ H Q I h;refine Compare_chain (thn (ha pins s σ H _ I h) λv s1 ⟨x,H1,I1,r1,q1⟩=>chain_link (thn (hb pins s1 σ H1 _ I1 q1) λu s2 ⟨y,H2,I2,r2,q2⟩=>
  thn (ho pins s2 σ H2 x y v u _ I2 r1 r2 q2) λd s3 ⟨z,H3,I3,r3,k,e,q3⟩=> ?_)) hm
 subst e;cases r3;refine lH ?_;cases k with
 | false=>exact ite_ff ⟨.bl false,H3,I3,rfl,q3⟩
 | true=>exact ite_tt (chain_last<|thn (hc pins s3 σ H3 _ I3 q3) λw' s4 ⟨z',H4,I4,r4,q4⟩=>ho' pins s4 σ H4 y z' u w' Q I4 r2 r4 q4)
theorem aY0:(sizeLine:Nat)<2^63:=by rw[sizeLine_eq];decide
theorem vals1 {x:V}(r:Vals [x] us): ∃u,us=[u]/\RelV x u:=by
 cases r with
 | cons r1 r2=>cases r2;exact⟨_,rfl,r1⟩
theorem vals2 {x y:V}(r:Vals [x,y] us): ∃u w',us=[u,w']/\RelV x u/\RelV y w':=by
 cases r with
 | cons r1 r2=>
  cases r2 with
  | cons r3 r4=>cases r4;exact⟨_,_,rfl,r1,r3⟩
theorem d05:pE X (.builtin "abs") (λxs H Q=> ∃i,xs=[.int i]/\Q (.int<|if i<0 then -i else i) H):=by
 intro pins s σ H xs us Q I r h;obtain⟨i,rfl,q⟩:=h;obtain⟨u,rfl,t,rfl⟩:=vals1 r;exact call_abs_int λu tk=>⟨.int<|if i<0 then -i else i,H,I.tok _,⟨_,rfl⟩,q⟩
theorem cS6 (hc:X.calm=true):pE X (.builtin "max") (λxs H Q=> ∃i j,xs=[.int i,.int j]/\Q (.int<|if j>i then j else i) H):=by
 intro pins s σ H xs us Q I r h;obtain⟨i,j,rfl,q⟩:=h;obtain⟨u,w',rfl,⟨t,rfl⟩,⟨t',rfl⟩⟩:=vals2 r;refine max_two_ints (I.ok.hd hc) λh' tk k=>⟨_,H,I.kept k,?_,q⟩
 by_cases hj:j>i
 .rw[a7 hj,a7 hj];exact⟨_,rfl⟩
 .rw[a6 hj,a6 hj];exact⟨_,rfl⟩
theorem cS7 (hc:X.calm=true):pE X (.builtin "min") (λxs H Q=> ∃i j,xs=[.int i,.int j]/\Q (.int<|if j<i then j else i) H):=by
 intro pins s σ H xs us Q I r h;obtain⟨i,j,rfl,q⟩:=h;obtain⟨u,w',rfl,⟨t,rfl⟩,⟨t',rfl⟩⟩:=vals2 r;refine min_two_ints (I.ok.hd hc) λh' tk k=>⟨_,H,I.kept k,?_,q⟩
 by_cases hj:j<i
 .rw[a7 hj,a7 hj];exact⟨_,rfl⟩
 .rw[a6 hj,a6 hj];exact⟨_,rfl⟩
theorem bN5:pE X (.type "int") (λxs H Q=>(∃i,xs=[.int i]/\Q (.int i) H)\/ ∃k,xs=[.bl k]/\Q (.int<|if k then 1 else 0) H):=by
 intro pins s σ H xs us Q I r h;rcases h with⟨i,rfl,q⟩| ⟨k,rfl,q⟩
 .obtain⟨u,rfl,t,rfl⟩:=vals1 r;exact call_int_int ⟨.int i,H,I,⟨_,rfl⟩,q⟩
 .obtain⟨u,rfl,r1⟩:=vals1 r;cases r1;exact call_int_bool ⟨.int<|if k then 1 else 0,H,I.tok _,⟨_,rfl⟩,q⟩
end
structure cS8 (h:Heap)(x dx C:Addr)(mA:Str->Option Value):Prop where
 obj:h.get? x=some (instObj C dx)
 ns:h.Ns1 dx mA
 ne:dx≠x
theorem bN6 {mA:Str->Option Value}(n:h.Ns1 dx mA): ∃od,h.get? dx=some od/\ ∀name,PySem.W.lookIn name od=some (mA name):=by
 obtain⟨o,es,ep,ho,hd,hk,_,hm⟩:=n;refine⟨o,ho,λname=> ?_⟩
 have e:=hm name;unfold nsFind findBy at e;rw[<-Array.find?_toList]at e;unfold PySem.W.lookIn;rw[hd];right;split
 .rename_i y q
  rw[q]at e;exact bW some e
 .rename_i q
  rw[q]at e;have a:es.toList.any (·.refKey)=false:=by
   rw[List.any_eq_false];intro y hy;obtain⟨z,t,hkey⟩:=hk y (Array.mem_toList_iff.mp hy);simp[DictEntry.refKey,hkey]
  have a': ¬es.toList.any (·.refKey)=true:=by rw[a];exact bE
  rw[a6 a'];exact bW some e
theorem cS8.look {x:Addr}{mA:Str->Option Value}(I:cS8 h x dx C mA): ∃od,PySem.W.InstAt h x (instObj C dx) C (some od)/\ ∀name,PySem.W.lookIn name od=some (mA name):=
 let ⟨od,ho,hl⟩:=bN6 I.ns
 ⟨od,⟨I.obj,rfl,rfl,ho⟩,hl⟩
section
variable {prog:Program}{w:World}{A:Around}{E:Value->Shared->Prop}{s:Shared}{K:PySem.W.Frag}{x dx C f:Addr}{mA:Str->Option Value}{name:Str}{v:Value}
theorem dI5 {expr:Bool}(X:K.In s.heap)(I:cS8 s.heap x dx C mA)(hg:plainGet K C name=true)(hh:PySem.W.hasDictIn K C=true)
  (ha:PySem.W.findIn K (.ref C) name=some none) (hv:mA name=some v) (hv':PySem.W.handedIn v=true) (h:Q v {s with toks:=s.toks+1}) :
  wpAny (model prog w) A (getAttr (.ref x) name expr) Q E s:=by
 obtain⟨od,J,hl⟩:=I.look;exact PySem.W.get_value X J (PySem.W.plainGet_of hg).1 (PySem.W.findObj_own hh ha rfl (by rw[hl,hv])) hv' h
theorem dI6 {ns:List Str}{Q:Unit->Shared->Prop}(X:K.In s.heap)(I:cS8 s.heap x dx C mA)
  (hs:PySem.W.findIn K (.ref C) "__setattr__"=some (some<|.builtin "object.__setattr__")) (hp:plainOver K C=true) (ht:takerIn K C name=some none) (hh:PySem.W.hasDictIn K C=true)
  (hw:PySem.Within mA ns) (hsz:ns.length<=sizeLine)
  (h: ∀h',cS8 h' x dx C (λy=>if y=name then some v else mA y)->SameBut dx s.heap h'->Q () {s with heap:=h',toks:=s.toks+2}) :
  wpAny (model prog w) A (setAttr (.ref x) name v) Q E s:=by
 obtain⟨od,J,hl⟩:=I.look;refine PySem.W.set_plain X J hs (PySem.W.osa_open (s:={s with toks:=s.toks+1}) (r:=none) X J hp ht λb=> ?_)
 obtain⟨cd,hc,hd'⟩:=PySem.W.any_some hh;have hx:s.heap.get? x=some ⟨.ref C,some dx,.plain,#[]⟩:=I.obj;refine a9 (aN<|a9<|a9<|wpAny_loadPart hx<|a9<|PySem.W.Looks.here (s:={s with toks:=s.toks+1}) (aL1 X hc) ?_);rw[hd'];refine aN (a:=some dx) (a9<|aN<|a9 ?_);refine wpAny_nsSet1 (s:={s with toks:=s.toks+1}) I.ns λh' hn2 hs2=> ?_
 obtain⟨oD,esD,epD,hoD,hdD,hcD⟩:=hn2.count (PySem.Within.cons name v hw);refine a9 (wpAny_lookBehind hoD (by rw[hdD];exact pastItsLine_dict (aI hcD (by rw[jP];lia))) ?_)
 exact aN (h _ ⟨(hs2.2 _<|Ne.symm I.ne).trans I.obj,hn2,I.ne⟩ hs2)
theorem d06 {R:Result->Shared->Prop}{vs:List Value}(X:K.In s.heap)(hm:makesIn K C=true)
  (hi:PySem.W.findIn K (.ref C) "__init__"=some (some<|.ref f)) (hf:PySem.W.typeIn K (.ref f)=some (.type "function"))
  (h:codeAny (model prog w) (A.under<|.builtin "type.__call__" ⟨.ref C::vs,kw⟩) (.call (.ref f) ⟨.ref (s.heap.objs.size+1)::vs,kw⟩) (PySem.W.InitBack (s.heap.objs.size+1) R)
   {s with heap:=(s.heap.push emptyDict).push (instObj C s.heap.objs.size)}) :
  codeAny (model prog w) A (.call (.ref C) ⟨vs,kw⟩) R s:=by
 obtain⟨hh,g,d,t,os⟩:=s;exact PySem.W.make_core (PySem.W.makes_of X hm) (PySem.W.looks_findIn X hi) (λself=>PySem.W.bind_fn X self hf) (.inl rfl) h
end
noncomputable def wR (f:Str)(v:V):List (Str×V)->List (Str×V)
 | []=>[(f,v)]
 | (g,x)::r=>if g=f then(g,v)::r else(g,x)::wR f v r
theorem b27 (f g:Str)(v:V): ∀fs:List (Str×V),(wR f v fs).lookup g=if g=f then some v else fs.lookup g
 | []=>by
  show List.lookup g [(f,v)]=_
  by_cases h:g=f
  .have hb:(g==f)=true:=iN.mpr h;simp only[List.lookup,hb,a7 h]
  .have hb:(g==f)=false:=qP.mpr h;simp only[List.lookup,hb,a6 h]
 | (k,x)::r=>by
  have ih:=b27 f g v r;rw[show wR f v ((k,x)::r)=(if k=f then(k,v)::r else(k,x)::wR f v r)from rfl]
  by_cases hk:k=f
  .rw[a7 hk]
   by_cases h:g=k
   .have hb:(g==k)=true:=iN.mpr h;simp only[List.lookup,hb,a7<|h.trans hk]
   .have hb:(g==k)=false:=qP.mpr h;simp only[List.lookup,hb,a6 (λe:g=f=>h (e.trans hk.symm))]
  .rw[a6 hk]
   by_cases h:g=k
   .have hb:(g==k)=true:=iN.mpr h;simp only[List.lookup,hb,a6 (λe:g=f=>hk (h.symm.trans e))]
   .have hb:(g==k)=false:=qP.mpr h;simp only[List.lookup,hb];exact ih
theorem aY1 (f:Str)(v:V): ∀fs:List (Str×V),f∈(wR f v fs).map (·.1)/\ ∀g,g∈fs.map (·.1)->g∈(wR f v fs).map (·.1)
 | []=>⟨by simp[wR],λg h=>by simp at h⟩
 | (k,x)::r=>by
  obtain⟨i1,i2⟩:=aY1 f v r;rw[show wR f v ((k,x)::r)=(if k=f then(k,v)::r else(k,x)::wR f v r)from rfl]
  by_cases hk:k=f
  .rw[a7 hk];subst hk;exact⟨ae,λg h=>by exists h⟩
  .rw[a6 hk];refine⟨?_,λg h=> ?_⟩
   .rw[fM];exact bH _ i1
   .rw[fM]at h⊢;rcases bB.mp h with e|e
    .exact bB.mpr (.inl e)
    .exact bH _ (i2 g e)
theorem b28 (f:Str)(v:V): ∀fs:List (Str×V),(wR f v fs).length<=fs.length+1
 | []=>by simp[wR]
 | (k,x)::r=>by
  have ih:=b28 f v r;rw[show wR f v ((k,x)::r)=(if k=f then(k,v)::r else(k,x)::wR f v r)from rfl]
  by_cases hk:k=f
  .rw[a7 hk,jP,jP];lia
  .rw[a6 hk,jP,jP];lia
theorem c28.some_of {v:V}{o:Option Value}(r:c28 (some v) o): ∃u,o=some u/\RelV v u:=by
 cases o with
 | none=>exact(show False from r).elim
 | some u=>exact⟨u,rfl,r⟩
theorem bN7 {v:V}(r:RelV v u):PySem.W.handedIn u=true:=by
 cases v with
 | non=>cases (show u=Value.none from r);rfl
 | bl b=>cases (show u=Value.bool b from r);rfl
 | int i=>obtain⟨t,e⟩:=(show ∃t,u=Value.int i t from r);cases e;rfl
 | str x=>obtain⟨t,e⟩:=(show ∃t,u=Value.str x t from r);cases e;rfl
 | byt b=>obtain⟨t,e⟩:=(show ∃t,u=Value.bytes b t from r);cases e;rfl
 | flt b=>obtain⟨t,e⟩:=(show ∃t,u=Value.float b t from r);cases e;rfl
 | ref a=>cases (show u=Value.ref a from r);rfl
 | ty n=>cases (show u=Value.type n from r);rfl
section
variable {P:Program}{w:World}{H H':Hp}{h h':Heap}{a C dx:Addr}{fs fs':List (Str×V)}
theorem cL8 (hok:HOk P w H h)(e:H a=some (.ins C dx fs)): ∃mA,cS8 h a dx C mA/\(∀f,c28 (fs.lookup f)<|mA f)/\PySem.Within mA (fs.map (·.1))/\fs.length<=1000/\H dx=some (.own a):=by
 obtain⟨d,z,ne,ob,mA,n,r,q⟩:=(show qA P w H h a (.ins C dx fs)from hok a _ e)
 exact⟨mA,⟨ob,n,ne⟩,r,q,z,d⟩
end
structure Cls (K:PySem.W.Frag)(C:Addr):Prop where
 pg:plainGet K C Str.empty=true
 hd:PySem.W.hasDictIn K C=true
 po:plainOver K C=true
 sa:PySem.W.findIn K (.ref C) "__setattr__"=some (some<|.builtin "object.__setattr__")
theorem Cls.get (c:Cls K C)(f:Str):plainGet K C f=true:=c.pg
def a94 (K:PySem.W.Frag)(C:Addr)(f:Str):Prop:=PySem.W.findIn K (.ref C) f=some none
theorem a94.taker {f:Str}(n:a94 K C f):takerIn K C f=some none:=by
 unfold takerIn;rw[show PySem.W.findIn K (.ref C) f=some none from n]
 rfl
section
variable {X:Cx}{pins:List (Addr×Obj)}{σ:St}{H:Hp}{s:Shared}{a C dx:Addr}{fs:List (Str×V)}{f:Str}{v:V}{A:Around}{E:Value->Shared->Prop}
theorem cD6 {b:Bool}(I:Inv X pins σ H s)(e:H a=some (.ins C dx fs))(c:Cls X.K C)(n:a94 X.K C f)(l:fs.lookup f=some v)
  (h: ∀u s',Inv X pins σ H s'->RelV v u->Q u s'):wpAny (model X.prog X.w) A (getAttr (.ref a) f b) Q E s:=by
 obtain⟨mA,O,r,_,_,_⟩:=cL8 I.hok e;obtain⟨u,hu,ru⟩:=c28.some_of (v:=v) (o:=mA f) (by rw[<-l];exact r f)
 exact dI5 I.kIn O (c.get f) c.hd n hu (bN7 ru) (h u _ (I.tok _) ru)
theorem cD7 {y:V}{Q:Unit->Shared->Prop}(I:Inv X pins σ H s)(e:H a=some (.ins C dx fs))(c:Cls X.K C)(n:a94 X.K C f)(hl:fs.length<1000)(ry:RelV y u)
  (h: ∀s',Inv X pins σ (upd H a<|.ins C dx<|wR f y fs) s'->Q () s'):wpAny (model X.prog X.w) A (setAttr (.ref a) f u) Q E s:=by
 obtain⟨mA,O,r,wi,_,ho⟩:=cL8 I.hok e;have hz:(fs.map (·.1)).length<=sizeLine:=by rw[aF,sizeLine_eq];lia
 refine dI6 I.kIn O c.sa c.po n.taker c.hd wi hz λh' O' sb=>h _ ?_
 have hd: ∃o,h'.get? dx=some o:=let ⟨o,_,_,e',_⟩:=O'.ns;⟨o,e'⟩;refine I.write (x:=a) (e:=dx) (by rw[e];exact True.intro) (.inr ho) (λb q hb z=>(sb.2 b hb).trans z) hd ?_
 refine⟨by rw[cW O.ne];exact ho,?_,O.ne,O'.obj,_,O'.ns,λg=> ?_,λg hg=> ?_⟩
 .have:=b28 f y fs;lia
 .show c28 ((wR f y fs).lookup g) (if g=f then some u else mA g)
  rw[b27]
  by_cases q:g=f
  .rw[a7 q,a7 q];exact ry
  .rw[a6 q,a6 q];exact r g
 .by_cases q:g=f
  .rw[q];exact(aY1 f y fs).1
  .refine(aY1 f y fs).2 g (wi g λz=>hg ?_)
   show(if g=f then some u else mA g)=none
   rw[a6 q];exact z
theorem Inv.made (I:Inv X pins σ H s):Inv X pins σ (upd (upd H s.heap.objs.size<|.own<|s.heap.objs.size+1) (s.heap.objs.size+1)<|.ins C s.heap.objs.size [])
  {s with heap:=(s.heap.push emptyDict).push (instObj C s.heap.objs.size)}:=by
 have e1:(s.heap.push emptyDict).get? s.heap.objs.size=some emptyDict:=cZ s.heap rfl;have e2:((s.heap.push emptyDict).push<|instObj C s.heap.objs.size).get? (s.heap.objs.size+1)=some (instObj C s.heap.objs.size):=by
  have:=cZ (s.heap.push emptyDict) (o:=instObj C s.heap.objs.size) rfl
  rwa [r8]at this
 have e3:(s.heap.push emptyDict).Ns s.heap.objs.size (λ_=>none):=⟨emptyDict,#[],_,e1,rfl,(λe he=>absurd he ae),λ_=>rfl⟩
 have I1:=I.laid (a:=s.heap.objs.size) (o:= .own (s.heap.objs.size+1)) (h':=s.heap.push emptyDict) (t':=s.toks) (λb u q=>bC _ q) (aD _) ⟨_,e1⟩
 refine I1.laid (a:=s.heap.objs.size+1) (o:= .ins C s.heap.objs.size []) (t':=s.toks) (λb u q=>bC _ q) (le_of_eq<|r8 _ _) ?_
 have ne:s.heap.objs.size≠s.heap.objs.size+1:=bJ (uQ _);refine⟨by rw[cW ne,jH],gA _,ne,e2,λ_=>none,(Heap.Ns1.of_empty e3).at λo q=>bC _ q,λ_=>True.intro,λy hy=>absurd rfl hy⟩
theorem cL9 {env:Env}{f:Str}{s:Shared}(hb:attributeBase e f env (eval e env)=eval e env)
  (h:wpAny (model prog w) A (eval e env) (λo s₁=>wpAny (model prog w) A (getAttr o f true) Q E s₁) E s):wpAny (model prog w) A (eval (.Attribute e f pos) env) Q E s:=
 Attribute_any_ h (by rw[arm_eval_Attribute,hb])
end
def tFld (K:PySem.W.Frag)(ta:TE)(f:Str):TE:=λσ H Q=>ta σ H λx H1=> ∃a C dx fs v,x= .ref a/\H1 a=some (.ins C dx fs)/\Cls K C/\a94 K C f/\fs.lookup f=some v/\Q v H1
def d07 (K:PySem.W.Frag)(ta tv:TE)(f:Str):TS:=λD σ H=>tv σ H λy H1=>ta σ H1 λx H2=> ∃a C dx fs,x= .ref a/\H2 a=some (.ins C dx fs)/\Cls K C/\a94 K C f/\fs.length<1000/\
 D.nx σ (upd H2 a<|.ins C dx<|wR f y fs)
section
variable {X:Cx}{o e value:Expr}{f:Str}{pos pos' tpos:Pos}{ta tv:TE}
theorem pe_fld (he:PE X e ta)(hb:attributeBase e f X.env (eval e X.env)=eval e X.env):PE X (.Attribute e f pos) (tFld X.K ta f):=by
 intro pins s σ H Q I h;refine cL9 hb (thn (he pins s σ H _ I h) λu s1 zz=> ?_)
 obtain⟨x,H1,I1,rx,a,C,dx,fs,v,ex,ea,c,n,l,q⟩:=zz;subst ex;obtain rfl:u=Value.ref a:=rx;exact cD6 I1 ea c n l λu' s2 I2 ru=>⟨v,H1,I2,ru,q⟩
theorem cD8 (ha:PE X o ta)(hv:PE X value tv)(hs:swapsWith value (some<|.Attribute o f pos') pos.line X.env=pure false):PS X (.Assign [.Attribute o f pos'] value pos) (d07 X.K ta tv f):=by
 intro pins s σ H D I h;refine aI6 (thn (hv pins s σ H _ I h) λu s1 ⟨y,H1,I1,ry,q⟩=>thn (ha pins s1 σ H1 _ I1 q) λov s2 zz=> ?_) hs
 obtain⟨x,H2,I2,rx,a,C,dx,fs,ex,ea,c,n,l,q2⟩:=zz;subst ex;obtain rfl:ov=Value.ref a:=rx;exact cD7 I2 ea c n l ry λs3 I3=>⟨σ,_,I3,q2⟩
end
structure jB (k:Nat)(A:Around):Prop where
 hd:A.handled=none
 dp:A.depth+3*k+5<recursionLimit
 un:A.units+16*k+200<cLine
theorem jB.mono (r:jB k A)(h:j<=k):jB j A:=⟨r.hd,by have:=r.dp;lia,by have:=r.un;lia⟩
theorem jB.deeper (r:jB (k+1) A)(env:Env):jB k (A.deeper env):=
 ⟨r.hd,by have:=r.dp;show A.depth+1+3*k+5<_;lia,by have:=r.un;show A.units+3+16*k+200<_;lia⟩
theorem cD9 :(A.under<|.builtin "type.__call__" ⟨.ref C::us,kw⟩).depth=A.depth+1:=by
 first|rfl|simp[Around.under,Code.weight,Code.isCreation,Code.isGuard,Code.isCaller,Code.frames,Code.isFrame,guardIds]
theorem cE0 :(A.under<|.builtin "type.__call__" ⟨.ref C::us,kw⟩).units=A.units+1:=by
 first|rfl|simp[Around.under,Code.cUnits,Code.frames,Code.isFrame]
theorem jB.make (r:jB (k+1) A)(C:Addr)(us:List Value)(kw:List (Str×Value)):jB k (A.under<|.builtin "type.__call__" ⟨.ref C::us,kw⟩):=
 ⟨r.hd,by have:=r.dp;rw[cD9];omega,by have:=r.un;rw[cE0];omega⟩
theorem jB.depth (r:jB k A):A.depth<recursionLimit:=by have:=r.dp;lia
theorem jB.units (r:jB k A):A.units+64<cLine:=by have:=r.un;lia
def tNil:TA:=λ_ H Q=>Q [] H
def tCons (ta:TE)(tr:TA):TA:=λσ H Q=>ta σ H λx H1=>tr σ H1 λxs H2=>Q (x::xs) H2
section
variable {X:Cx}{e:Expr}{es:List Expr}{te:TE}{t:TA}{pos:Pos}
theorem cE1:PA X [] tNil:=λ_ _ _ _ H Q I h=>Calls.spliced_nil ⟨[],H,I,.nil,h⟩
theorem bU0 (ha:PE X e te)(hr:PA X es t)(hs:↥(starEach (e::es) X.env=(false,eval e X.env)::starEach es X.env)):PA X (e::es) (tCons te t):=by
 intro pos pins s σ H Q I h;rw[hs];show wpAny _ _ (spliced ((false,eval e X.env)::backTo pos (starEach es X.env))) _ _ s;refine Calls.spliced_cons (thn (ha pins s σ H _ I h) λu s1 ⟨x,H1,I1,r1,q1⟩=> ?_)
 exact thn (hr pos pins s1 σ H1 _ I1 q1) λus s2 ⟨xs,H2,I2,r2,q2⟩=>⟨x::xs,H2,I2,.cons r1 r2,q2⟩
def tTup (t:TA):TE:=λσ H Q=>t σ H λxs H1=>xs.length<=sizeLine/\ ∀p,H1 p=none->Q (.ref p) (upd H1 p<|.tup xs)
def tLst (t:TA):TE:=λσ H Q=>t σ H λxs H1=>xs.length<=sizeLine/\ ∀p,H1 p=none->Q (.ref p) (upd H1 p<|.lst xs)
theorem pe_tup {x1}(h:PA X es t):PE X (.Tuple es x1 pos) (tTup t):=by
 intro pins s σ H Q I hq;refine wpAny_Tuple_spliced (thn (h pos pins s σ H _ I hq) λus s1 ⟨xs,H1,I1,r,z,q⟩=>⟨by rw[<-r.length];exact z,?_⟩)
 have hf:H1 s1.heap.objs.size=none:=I1.hok.fresh (aD _);refine⟨.ref s1.heap.objs.size,upd H1 s1.heap.objs.size<|.tup xs,I1.laid (t':=s1.toks) (λb u e=>bC _ e) (aD _) ?_,rfl,q _ hf⟩
 exact⟨z,us,r,⟨_,cZ _ rfl,rfl,_,rfl⟩⟩
theorem pe_lst (h:PA X es t):PE X (.List es pos) (tLst t):=by
 intro pins s σ H Q I hq;refine wpAny_List_spliced (thn (h pos pins s σ H _ I hq) λus s1 ⟨xs,H1,I1,r,z,q⟩=>⟨by rw[<-r.length];exact z,?_⟩)
 have hf:H1 s1.heap.objs.size=none:=I1.hok.fresh (aD _);refine⟨.ref s1.heap.objs.size,upd H1 s1.heap.objs.size<|.lst xs,I1.laid (t':=s1.toks) (λb u e=>bC _ e) (aD _) ?_,rfl,q _ hf⟩
 exact⟨z,us,0,r,cZ _ rfl⟩
end
abbrev Sp:=List V->Hp->VK->XK->Prop
abbrev CXT:=List Env->Hp->Shared->XK->Value->Shared->Prop
structure cE2 (P:Program)(w:World)(K:PySem.W.Frag)(mg:Str->Option Value)(base:Heap)(A:Around)(outer:List Env)(s:Shared)(H:Hp):Prop where
 frames:A.frames=some outer
 mod:Mod K mg base
 bs: ∀b o,base.get? b=some o->s.heap.get? b=some o/\H b=none
 bsz:base.objs.size<=s.heap.objs.size
 funs:s.heap.FunFrames base outer
 frf: ∀b∈frs outer,H b=none
 hok:HOk P w H s.heap
 bare:AllBare s.gens
def CE (outer:List Env)(P:Program)(w:World)(H:Hp)(s:Shared)(Q:VK)(u:Value)(s':Shared):Prop:=
 ∃v H',s'.os=s.os/\AllBare s'.gens/\Un (frs outer) [] H H' s.heap s'.heap/\HOk P w H' s'.heap/\RelV v u/\Q v H'
def CR (CX:CXT)(outer:List Env)(P:Program)(w:World)(H:Hp)(s:Shared)(Q:VK)(E:XK)(r:Result)(s':Shared):Prop:=
 match r with
 | .ok (.ret u)=>CE outer P w H s Q u s'
 | .ok _=>False
 | .error e=>CX outer H s E e s'
structure wS (P:Program)(w:World)(K:PySem.W.Frag)(mg:Str->Option Value)(base:Heap)(CX:CXT)(k:Nat)(f:Addr)(fd:FuncData)(ps:List Str)(sp:Sp):Prop where
 len: ∀vs H Q E,sp vs H Q E->vs.length=ps.length
 run: ∀(A:Around) (outer:List Env) (s:Shared) (H:Hp) (args:Args) (us:List Value) (vs:List V) (Q:VK) (E:XK),jB k A->cE2 P w K mg base A outer s H->BindsTo s fd args (ps.zip us)->Vals vs us->sp vs H Q E->
  codeAny (model P w) A (.call (.ref f) args) (CR CX outer P w H s Q E) s
theorem wS.mono {CX:CXT}{ps:List Str}{sp:Sp}(F:wS P w K mg base CX j f fd ps sp)(h:j<=k) :
  wS P w K mg base CX k f fd ps sp:=⟨F.len,λA outer s H args us vs Q E hr=>F.run A outer s H args us vs Q E (hr.mono h)⟩
theorem cE2.make {H:Hp}(e:cE2 P w K mg base A outer s H)(C:Addr)(us:List Value)(kw:List (Str×Value)) :
  cE2 P w K mg base (A.under<|.builtin "type.__call__" ⟨.ref C::us,kw⟩) outer s H:=⟨by first|exact e.frames| (simpa[Around.under,Code.envs,Code.isFrame,pushEnvs]using e.frames),e.mod,e.bs,e.bsz,e.funs,e.frf,e.hok,e.bare⟩
section
variable {X:Cx}{pins:List (Addr×Obj)}{σ:St}{H:Hp}{s s':Shared}
theorem Inv.env0 (I:Inv X pins σ H s):cE2 X.prog X.w X.K X.mg X.base X.A X.stack s H:=
 ⟨I.ok.frames,I.ok.mod,I.bs,aI I.ok.bsz I.sz,I.stack,I.stkFree,I.hok,I.bare⟩
theorem Inv.after {Q:VK}(I:Inv X pins σ H s)(h:CE X.stack X.prog X.w H s Q u s'):EP X pins σ Q u s':=by
 obtain⟨v,H',os,bare,un,hok,r,q⟩:=h;obtain⟨hh,g,d,t,os'⟩:=s';obtain rfl:os'=s.os:=os;exact⟨v,H',I.call (h':=hh) (g':=g) (d':=d) (t':=t) (ch:=[]) un hok bare λb z=>absurd z ae,r,q⟩
end
def d08 (sp:Sp)(dvs:List V)(E:XK)(t:TA):TE:=λσ H Q=>t σ H λvs H1=>sp (vs++dvs) H1 Q E
def dS9 (C:Addr)(sp:Sp)(dvs:List V)(E:XK)(t:TA):TE:=λσ H Q=>t σ H λvs H1=> ∀x dx,H1 x=none->H1 dx=none->dx≠x->
 sp (.ref x::(vs++dvs)) (upd (upd H1 dx<|.own x) x<|.ins C dx []) (λv H2=>v= .non/\Q (.ref x) H2) E
def Binds (K:PySem.W.Frag)(fd:FuncData)(ps:List Str)(ds:List Value):Prop:=
 ∀(s:Shared) (us:List Value),K.In s.heap->(us++ds).length=ps.length->BindsTo s fd ⟨us,[]⟩ (ps.zip<|us++ds)
theorem Binds.all {ps:List Str}(h: ∀us:List Value,us.length=ps.length->bindArgs fd ⟨us,[]⟩=pure (ps.zip us)):Binds K fd ps []:=λs us _ hl=>by
 rw[kO]at hl⊢;exact .of_eq (h us hl)
def aM8 (CX:CXT)(X:Cx)(E:XK):Prop:= ∀(pins:List (Addr×Obj)) (σ:St) (H:Hp) (s:Shared) (e:Value) (s':Shared),Inv X pins σ H s->CX X.stack H s E e s'->X.xe e s'
section
variable {X:Cx}{CX:CXT}{k:Nat}{f C:Addr}{fd:FuncData}{ps:List Str}{sp:Sp}{dvs:List V}{ds:List Value}{E:XK}{x m:Str}{p pos apos:Pos}{e o:Expr}{es:List Expr}{ta:TE}{t:TA}
theorem d09 {pins:List (Addr×Obj)}{σ:St}{H:Hp}{s:Shared}{Q:VK}{us:List Value}{vs:List V}(F:wS X.prog X.w X.K X.mg X.base CX k f fd ps sp)(hr:jB k X.A)(hb:Binds X.K fd ps ds)(hd:Vals dvs ds)(hx:aM8 CX X E)
  (I:Inv X pins σ H s) (r:Vals vs us) (h:sp (vs++dvs) H Q E):wpAny (model X.prog X.w) X.A (call (.ref f) us) (EP X pins σ Q) X.xe s:=by
 have r2:Vals (vs++dvs) (us++ds):=r.append hd;have hl:(us++ds).length=ps.length:=by rw[<-r2.length];exact F.len _ _ _ _ h
 refine v9 (a24 (F.run X.A X.stack s H ⟨us,[]⟩ (us++ds) (vs++dvs) Q E hr I.env0 (hb s us I.kIn hl) r2 h) λr s' hq=> ?_)
 cases r with
 | error e=>exact hx pins σ H s e s' I hq
 | ok fl=>
  cases fl with
  | ret u=>exact I.after hq
  | next=>exact False.elim hq
  | brk=>exact False.elim hq
  | cont=>exact False.elim hq
theorem cM0 (F:wS X.prog X.w X.K X.mg X.base CX k f fd ps sp)(hr:jB k X.A)(hg:Gl X x)(hm:X.mg x=some (.ref f))(hk:keepIn X.K (.ref f)=true)(hb:Binds X.K fd ps ds)(hd:Vals dvs ds)(hx:aM8 CX X E)
  (ha:PA X (e::es) t) (hdb:⇑((x==("__debug__":Str))=false)) (he:↥(starEach (e::es) X.env=(false,eval e X.env)::starEach es X.env)) (hpl:↥((backTo pos<|starEach es X.env).any (·.1)=false)) :
  PE X (.Call (.Name x p) (e::es) [] pos) (d08 sp dvs E t):=by
 intro pins s σ H Q I h;refine uM (nP I hg hm ?_ hdb);refine PySem.W.callWith_K (h₀:=X.base) I.ok.mod.kin hk (thn (ha pos pins s σ H _ I h) λus s1 ⟨vs,H1,I1,r,q⟩=>⟨I1.kIn,?_⟩) he hpl
 exact d09 F hr hb hd hx I1 r q
theorem d10 (F:wS X.prog X.w X.K X.mg X.base CX k f fd ps sp)(hr:jB k X.A)(hg:Gl X x)(hm:X.mg x=some (.ref f))(hk:keepIn X.K (.ref f)=true)(hb:Binds X.K fd ps ds)(hd:Vals dvs ds)(hx:aM8 CX X E)
  (hdb:⇑((x==("__debug__":Str))=false)):PE X (.Call (.Name x p) [] [] pos) (d08 sp dvs E tNil):=by
 intro pins s σ H Q I h;refine uM (nP I hg hm ?_ hdb);exact PySem.W.callWith_K0 I.kIn hk (d09 (us:=[]) F hr hb hd hx I .nil h)
structure Mk (K:PySem.W.Frag)(C f:Addr):Prop where
 makes:makesIn K C=true
 init:PySem.W.findIn K (.ref C) "__init__"=some (some<|.ref f)
 fn:PySem.W.isFn K (.ref f)=true
 kp:keepIn K (.ref C)=true
end
section
variable {X:Cx}{CX:CXT}{k:Nat}{f C:Addr}{fd:FuncData}{ps ks:List Str}{sp:Sp}{E:XK}{x m:Str}{p pos apos kpos:Pos}{e o:Expr}{es:List Expr}{kws:List Keyword}{te ta:TE}{t tk:TA}{nm:Option Str}
variable {g:List Value->List Value->List Value}{gV:List V->List V->List V}
end
structure aY (N P:List Str)(sc:Scope):Prop where
 kind:sc.kind= .function
 co:sc.isCoroutine=false
 gen:sc.isGenerator=false
 nd:N.Nodup
 pre:N.take P.length=P
 par: ∀x∈P,sc.names.lookup x=some .local\/sc.names.lookup x=some .cell
 nofree: ∀y∈sc.names,y.2≠ .free
theorem bN8 {kindOf:Str->Option NameKind}{x:Str}: ∀{binds:List (Str×Value)} {m:Str->Option Value},(∀v,(x,v) ∉ binds)->bindL kindOf binds m x=m x
 | [],_,_=>rfl
 | (n,v)::r,m,h=>by
  unfold bindL;rw[bN8 λw hw=>h w (bH _ hw)]
  split
  .have:x≠n:=by rintro rfl;exact h v cP
   simp[this]
  .rfl
theorem bN9 {kindOf:Str->Option NameKind}{x:Str}: ∀{binds:List (Str×Value)} {m:Str->Option Value},(∀v,(x,v) ∉ binds)->bindC kindOf binds m x=m x
 | [],_,_=>rfl
 | (n,v)::r,m,h=>by
  unfold bindC;rw[bN9 λw hw=>h w (bH _ hw)]
  split
  .rfl
  .have:x≠n:=by rintro rfl;exact h v cP
   simp[this]
theorem bO0 {kindOf:Str->Option NameKind}{x:Str}{v:Value}: ∀{P:List Str} {vs:List Value} {i:Nat} {m:Str->Option Value},P.Nodup->P[i]? =some x->vs[i]? =some v->kindOf x=some .local->
  bindL kindOf (P.zip vs) m x=some v
 | [],_,_,_,_,h,_,_=>by simp at h
 | _::_,[],_,_,_,_,h,_=>by simp at h
 | p::P,w::vs,0,m,nd,h1,h2,hk=>by
  simp at h1 h2;subst h1;subst h2
  show bindL kindOf ((p,w)::P.zip vs) m p=_
  unfold bindL;rw[bN8 λv hv=>(a18.mp nd).1 (a19 hv).1,a7 hk]
  simp
 | p::P,w::vs,i+1,m,nd,h1,h2,hk=>by
  show bindL kindOf ((p,w)::P.zip vs) m x=_
  unfold bindL;exact bO0 (i:=i) (a18.mp nd).2 (by exists h1) (by exists h2) hk
theorem bO1 {kindOf:Str->Option NameKind}{x:Str}{v:Value}: ∀{P:List Str} {vs:List Value} {i:Nat} {m:Str->Option Value},P.Nodup->P[i]? =some x->vs[i]? =some v->kindOf x≠some .local->
  bindC kindOf (P.zip vs) m x=some v
 | [],_,_,_,_,h,_,_=>by simp at h
 | _::_,[],_,_,_,_,h,_=>by simp at h
 | p::P,w::vs,0,m,nd,h1,h2,hk=>by
  simp at h1 h2;subst h1;subst h2
  show bindC kindOf ((p,w)::P.zip vs) m p=_
  unfold bindC;rw[bN9 λv hv=>(a18.mp nd).1 (a19 hv).1,a6 hk]
  simp
 | p::P,w::vs,i+1,m,nd,h1,h2,hk=>by
  show bindC kindOf ((p,w)::P.zip vs) m x=_
  unfold bindC;exact bO1 (i:=i) (a18.mp nd).2 (by exists h1) (by exists h2) hk
noncomputable def start (N:List Str)(vs:List V):St:=vs.map some++replicate (N.length-vs.length) none
noncomputable def vB (CX:CXT)(P:Program)(w:World)(K:PySem.W.Frag)(mg:Str->Option Value)(base:Heap)(N:List Str)(qual:Str)(scope:Scope)(f:Addr)(cd:Value)(A:Around)(outer:List Env)(s:Shared)(H:Hp)(E:XK):Cx where
 prog:=P
 w:=w
 K:=K
 mg:=mg
 base:=base
 A:=A.deeper (envOfC qual scope s.heap.objs.size f cd)
 N:=N
 s₀:=s
 H₀:=H
 env:=envOfC qual scope s.heap.objs.size f cd
 outer:=outer
 stack:=envOfC qual scope s.heap.objs.size f cd::outer
 ex:=[]
 calm:=true
 fn:=λ_=>true
 pn:=[]
 xe:=λe s'=>wpAny (model P w) (A.deeper<|envOfC qual scope s.heap.objs.size f cd) (leaving (envOfC qual scope s.heap.objs.size f cd) e) (λ_ s''=>CX outer H s E e s'') (λe' s''=>CX outer H s E e' s'') s'
theorem c32 {sc:Scope}(h:sc.names.lookup x=some .cell): ∃c,(cellsFrom n sc.names []).lookup x=some c:=by
 have q:=aJ9 sc.names n [] (.inl h);exact Option.isSome_iff_exists.mp q
theorem bO2 {CX:CXT}{ps:List Str}{cd:Value}{s1:Shared}{H:Hp}{E:XK}{vs:List V}
  (S:aY N ps scope) (hd:A.handled=none) (e0:cE2 P w K mg base A outer s H) (hl:vs.length=ps.length) (r:Vals vs us)
  (x:InCallC s s.heap.objs.size (bindL (envOfC qual scope s.heap.objs.size f cd).kindOf (ps.zip us) λ_=>none) (cellsFrom (s.heap.objs.size+1) scope.names []) (bindC (envOfC qual scope s.heap.objs.size f cd).kindOf (ps.zip us) λ_=>none) s1) :
  Inv (vB CX P w K mg base N qual scope f cd A outer s H E) [] (start N vs) H s1:=by
 have hpl:ps.length<=N.length:=by have:=bW List.length S.pre;rw[qX]at this;lia
 obtain⟨h1,tk,rfl,hk⟩:=x.done;have noA: ∀b:Addr,b ∉ (vB CX P w K mg base N qual scope f cd A outer s H E).ex:=λb z=>absurd (show b∈([]:List Addr)from z) ae
 refine⟨⟨e0.mod,S.kind,rfl,rfl,aD _,λy z c h1 h2=> ?_,λy hy=> ?_,λy c _ h=> ?_,λ_=>hd,Around.frames_deeper e0.frames,.inr ⟨rfl,rfl⟩,λb z=>absurd z (noA b),e0.bs,e0.bsz,λb _ _=>noA b,λb z=>absurd z (noA b),e0.funs,e0.frf⟩,
  rfl,e0.bare,Un.kept hk,⟨_,x.toInCall.ns,λi y v h1 h2 h3=> ?_⟩,λy c h=>⟨_,x.cell y c h⟩,e0.hok.fresh<|aD _,λy c h=> ?_,λp hp=>absurd (show p∈([]:List (Addr×Obj))from hp) ae,e0.hok.kept hk,?_⟩
 .exact name_of_addr x.apart (qR h1) (qR h2)
 .have hy:scope.names.lookup y=some .cell\/scope.names.lookup y=some .free:=hy;rcases hy with hy|hy
  .exact c32 hy
  .exact absurd rfl (S.nofree _<|qR hy)
 .exact oE (x.above y c<|qR h)
 .have hi:i<vs.length:=by
   unfold start at h2
   by_cases hi:i<vs.length
   .exact hi
   .rw[qF<|by simpa using hi]at h2
    rw[aJ3]at h2;split at h2<;>cases h2
  have ha:vs[i]? =some v:=by
   unfold start at h2;rw[uF<|by simpa using hi,bI]at h2
   cases e:vs[i]? with
   | none=>rw[e]at h2;cases h2
   | some a=>rw[e]at h2;cases h2;rfl
  obtain⟨u,hu,rv⟩:=r.get ha;have hp:ps[i]? =some y:=by
   rw[<-S.pre,List.getElem?_take_of_lt ad];exact h1
  have ndP:ps.Nodup:=by rw[<-S.pre];exact S.nd.sublist (List.take_sublist _ _)
  refine⟨u,rv,?_⟩
  rcases S.par y (aK6 hp)with k|k
  .exact .inl ⟨k,bO0 ndP hp hu k⟩
  .obtain⟨c,e⟩:=c32 (n:=s.heap.objs.size+1) k;refine .inr ⟨.inl k,c,e,?_⟩;have q:=x.cell y c e;rw[bO1 ndP hp hu (by show scope.names.lookup y≠_;rw[k];decide)]at q
   exact q
 .exact e0.hok.fresh (oE<|x.above y c<|qR h)
 .unfold start;show _=N.length;rw[dD,aF,aK3]
  lia
theorem d11 {CX:CXT}{P:Program}{w:World}{K:PySem.W.Frag}{mg:Str->Option Value}{base:Heap}{k:Nat}{f:Addr}{name qual:Str}{params:Arguments}{body:List Stmt}{scope:Scope}{dV kV doc pm cdv ct oc:Value}{an od:Option Addr}
  {osl:Array (Option Value)} {N ps:List Str} {sp:Sp} (lk:K.lookup f=some ⟨oc,od,.func<|fnOf name qual params body scope dV kV doc pm an cdv ct,osl⟩) (hcd:codeIn K cdv qual=true) (S:aY N ps scope)
  (len: ∀vs H Q E,sp vs H Q E->vs.length=ps.length)
  (hbody: ∀(A:Around) (outer:List Env) (s:Shared) (H:Hp) (vs:List V) (Q:VK) (E:XK),jB k (A.deeper<|envOfC qual scope s.heap.objs.size f cdv)->sp vs H Q E->
   ∃t,PSs (vB CX P w K mg base N qual scope f cdv A outer s H E) body t/\t {nx:=λ_ H'=>Q .non H',rt:=Q} (start N vs) H) :
  wS P w K mg base CX (k+1) f (fnOf name qual params body scope dV kV doc pm an cdv ct) ps sp:=by
 refine⟨len,λA outer s H args us vs Q E hr e0 hb r hsp=> ?_⟩
 have hl:=len _ _ _ _ hsp;have KX:K.In s.heap:=e0.mod.kin.keeps λb o e=>(e0.bs b o e).1
 have lim:s.heap.NoLimit:=e0.mod.nolimit.keeps λb o e=>(e0.bs b o e).1
 have hkind: ∀y∈ps.zip us,scope.names.lookup y.1=some .local\/(scope.names.lookup y.1=some .cell/\((cellsFrom (s.heap.objs.size+1) scope.names []).lookup y.1).isSome=true):=λ⟨n,v⟩ hy=>by
  rcases S.par n (a19 hy).1 with q|q
  .exact .inl q
  .exact .inr ⟨q,aJ9 _ _ _<|.inl q⟩
 refine codeAny_call_function hr.depth (KX _ _ lk) rfl S.co S.gen rfl (PySem.W.codeRec_of KX hcd) (hb _ _ _ _ ?_)
 refine wpAny_newFunctionEnv_cells S.kind hkind λenv he s1 x=> ?_
 subst he;refine⟨lim.keeps x.toInCall.keep,codeAny_func ?_⟩;obtain⟨t,ht,hq⟩:=hbody A outer s H vs Q E (hr.deeper _) hsp;have I:Inv (vB CX P w K mg base N qual scope f cdv A outer s H E) [] (start N vs) H s1:=bO2 S hr.hd e0 hl r x;refine bK (ht [] s1 (start N vs) H _ I hq) (λfl s' hs=> ?_) λe s' hs=>hs
 have fin: ∀{σ':St} {H':Hp} {v:V} {u:Value},Inv (vB CX P w K mg base N qual scope f cdv A outer s H E) [] σ' H' s'->RelV v u->Q v H'->CE outer P w H s Q u s':=
  λ{σ' H' v u} J rv q=>⟨v,H',J.os,J.bare,J.base,J.hok,rv,q⟩
 cases fl with
 | ret u=>
  obtain⟨v,σ',H',J,rv,q⟩:=hs;exact fin J rv q
 | next=>
  obtain⟨σ',H',J,q⟩:=hs;exact fin (v:=V.non) (u:=Value.none) J rfl q
 | brk=>
  obtain⟨_,_,_,q⟩:=hs;exact False.elim q
 | cont=>
  obtain⟨_,_,_,q⟩:=hs;exact False.elim q
section
variable {X:Cx}{x:Str}{p pos:Pos}{e:Expr}{es:List Expr}{t:TA}{id T:String}{r:List V->Hp->VK->Prop}
def tCB (r:List V->Hp->VK->Prop)(t:TA):TE:=λσ H Q=>t σ H λvs H1=>r vs H1 Q
theorem c33 (hc:pE X (.builtin id) r)(hg:Gl X x)(hm:X.mg x=none)(hv:bootBuiltins x=some (.builtin id))(ha:PA X (e::es) t)(hn:⇑(x≠"__name__"))(hdb:⇑((x==("__debug__":Str))=false))
  (he:↥(starEach (e::es) X.env=(false,eval e X.env)::starEach es X.env)) (hpl:↥((backTo pos<|starEach es X.env).any (·.1)=false)):PE X (.Call (.Name x p) (e::es) [] pos) (tCB r t):=by
 intro pins s σ H Q I h;refine uM (xS I hg hm hv ?_ hn hdb);exact PyProof.Rows.callWith_builtin1 (thn (ha pos pins s σ H _ I h) λus s1 ⟨vs,H1,I1,r1,q1⟩=>hc pins s1 σ H1 vs us Q I1 r1 q1) he hpl
theorem cS9 (hc:pE X (.type T) r)(hg:Gl X x)(hm:X.mg x=none)(hv:bootBuiltins x=some (.type T))(ha:PA X (e::es) t)(hn:⇑(x≠"__name__"))(hdb:⇑((x==("__debug__":Str))=false))
  (he:↥(starEach (e::es) X.env=(false,eval e X.env)::starEach es X.env)) (hpl:↥((backTo pos<|starEach es X.env).any (·.1)=false)):PE X (.Call (.Name x p) (e::es) [] pos) (tCB r t):=by
 intro pins s σ H Q I h;refine uM (xS I hg hm hv ?_ hn hdb);exact lD (thn (ha pos pins s σ H _ I h) λus s1 ⟨vs,H1,I1,r1,q1⟩=>hc pins s1 σ H1 vs us Q I1 r1 q1) he hpl
end
end L2
namespace HT
open PySem PyProof.Rows
section
open PySem.SeqAt
open PySem.AutoSeq1 (wpAny_loadPart')
open PySem.MeetsSeq PySem.MeetsSeq2 PySem.MeetsSeq3
end
section
variable {prog:Program}{w:World}{A:Around}{E:Value->Shared->Prop}{s:Shared}
theorem cat_tup {vs ws:List Value}(ht:IsTup s.heap t vs.toArray)(hb:IsTup s.heap b ws.toArray)(hv:vs≠[])
  (h1:ws=[]->Q (.ref t) s) (h2:ws≠[]->Q (.ref s.heap.objs.size) {s with heap:=s.heap.push {cls:= .type "tuple",data:= .seq (vs++ws).toArray}})
  (hsz:vs.length+ws.length<=sizeLine):wpAny (model prog w) A (binaryOp .Add (.ref t)<|.ref b) Q E s:=by
 obtain⟨⟨cls,dd,data,sl⟩,ho,hc,n,hd⟩:=id ht;obtain⟨⟨cls2,dd2,data2,sl2⟩,ho2,hc2,n2,hd2⟩:=id hb;simp only at hc hd hc2 hd2;subst hc hd hc2 hd2;have e:vs.toArray++ws.toArray=(vs++ws).toArray:=ae
 by_cases hw:ws=[]
 .exact concat_meets ⟨_,ho,rfl⟩ ⟨_,ho2,rfl⟩ aM2 seq_tuple_add aK0 aJ4 (aI9 _ _)
   (tuple_addW1 t b vs.toArray ws.toArray n n2 dd dd2 sl sl2 (by exists hv)<|by simp[hw]) ⟨ho,ho2,h1 hw⟩
 .refine concat_meets ⟨_,ho,rfl⟩ ⟨_,ho2,rfl⟩ aM2 seq_tuple_add aK0 aJ4 (aI9 _ _)
   (tuple_addW2 t b vs.toArray ws.toArray n n2 dd dd2 sl sl2 (by exists hv) (by exists hw) (by rw[b9,b9];exact hsz)) ⟨ho,ho2,?_⟩
  rw[e];exact h2 hw
noncomputable def sIx (n d:Nat):Option Int->Nat
 | none=>d
 | some v=>if v<0 then(v+(n:Int)).toNat else min v.toNat n
theorem sIx_none (n d:Nat):sIx n d none=d:=rfl
theorem sIx_nat (n d k:Nat):sIx n d (some (k:Int))=min k n:=by
 show(if(k:Int)<0 then((k:Int)+(n:Int)).toNat else min (k:Int).toNat n)=min k n
 rw[a6 ad,dU]
theorem sIx_le (n d:Nat)(hd:d<=n)(o:Option Int):sIx n d o<=n:=by
 cases o with
 | none=>exact hd
 | some v=>
  show(if v<0 then(v+(n:Int)).toNat else min v.toNat n)<=n
  by_cases hv:v<0
  .rw[a7 hv];lia
  .rw[a6 hv];exact Nat.min_le_right _ _
theorem cM1 (v:Int)(n d:Nat):(if v<0 then max (v+(n:Int)) 0 else min v (n:Int))=((sIx n d (some v):Nat):Int):=by
 show(if v<0 then max (v+(n:Int)) 0 else min v (n:Int))=(((if v<0 then(v+(n:Int)).toNat else min v.toNat n):Nat):Int)
 by_cases hv:v<0
 .simp only[a7 hv];lia
 .simp only[a6 hv];lia
theorem cE3 (lo hi:Option Int)(n:Nat):Builtin.Slice.sliceAdjust lo hi 1 (n:Int)=(((sIx n 0 lo:Nat):Int),((sIx n n hi:Nat):Int)):=by
 have h1: ¬((1:Int)<0):=ad
 unfold Builtin.Slice.sliceAdjust;simp only[h1,dL];refine j4 ?_ ?_
 .cases lo with
  | none=>rfl
  | some v=>exact cM1 v n 0
 .cases hi with
  | none=>rfl
  | some v=>exact cM1 v n n
theorem cE4 (i j:Nat):Builtin.Slice.slicePlaces (i:Int) (j:Int) 1=j-i:=by
 unfold Builtin.Slice.slicePlaces;have h1:(1:Int)>0:=ad
 simp only[h1,dM,Int.ediv_one];split<;>lia
theorem b89 {o:Option Int}{Q:Option Int->Shared->Prop}(p:IsPart v o)(h:Q o s):wpAny (model prog w) A (Builtin.Slice.slicePartIndex v) Q E s:=by
 cases p with
 | none=>exact slicePart_none h
 | int i t=>exact slicePart_int h
theorem yX {lo:Option Int}{Q:Int×Int×Nat->Shared->Prop}(hs:s.heap.IsSliceOf sl vl vu .none)(pl:IsPart vl lo)(pu:IsPart vu hi)
  (h:Q (((sIx n 0 lo:Nat):Int),1,sIx n n hi-sIx n 0 lo) s):wpAny (model prog w) A (Builtin.Slice.sliceApplied (.ref sl)<|pure (n:Int)) Q E s:=by
 obtain⟨os,hos,hcs,hds⟩:=id hs;unfold Builtin.Slice.sliceApplied Builtin.Slice.sliceFields;refine a9 (a9<|iM hos hds (x:=vl) rfl (a9<|iM hos hds (x:=vu) rfl (a9<|iM hos hds (x:= .none) rfl (aN ?_))));refine a9 (slicePart_none ?_);show wpAny _ _ (if((1:Int)==0)=true then _ else _) _ _ s;rw[a6 ac]
 refine a9 (b89 pl<|a9<|b89 pu<|a9<|aN ?_)
 show wpAny _ _ (match Builtin.Slice.sliceAdjust lo hi 1 (n:Int)with| (lo,hi)=>pure (lo,(1:Int),Builtin.Slice.slicePlaces lo hi 1)) _ _ s
 rw[cE3 lo hi n];show wpAny _ _ (pure (((sIx n 0 lo:Nat):Int),(1:Int),Builtin.Slice.slicePlaces ((sIx n 0 lo:Nat):Int) ((sIx n n hi:Nat):Int) 1)) _ _ s;rw[cE4];exact aN h
theorem d12 (xs:Array Value)(i k:Nat):((List.range k).filterMap fun(m:Nat)=>xs[((i:Int)+(m:Int)*1).toNat]?).toArray=((xs.toList.drop i).take k).toArray:=by
 have e:(fun(m:Nat)=>xs[((i:Int)+(m:Int)*1).toNat]?)=λm=>xs[i+m]? :=by
  funext m
  have:((i:Int)+(m:Int)*1).toNat=i+m:=ad
  rw[this]
 rw[e];have:=pick_run xs i k;rw[List.filterMap_map]at this;have e2:((λx=>xs[x]?)∘λx=>i+x)=λm=>xs[i+m]? :=rfl
 rw[e2]at this;rw[this]
theorem getItem_tuple_cut {lo:Option Int}(ht:IsTup s.heap t items)(hs:s.heap.IsSliceOf sl vl vu .none)(pl:IsPart vl lo)(pu:IsPart vu hi)
  (hw: ¬(sIx items.size 0 lo=0/\sIx items.size items.size hi=items.size))
  (h:Q (.ref s.heap.objs.size) {s with heap:=s.heap.push {cls:= .type "tuple",data:= .seq ((items.toList.drop<|sIx items.size 0 lo).take<|sIx items.size items.size hi-sIx items.size 0 lo).toArray}})
  (hsz:items.size<=sizeLine):wpAny (model prog w) A (getItem (.ref t)<|.ref sl) Q E s:=by
 have htake:sizeOk (.seq ((items.toList.drop<|sIx items.size 0 lo).take<|sIx items.size items.size hi-sIx items.size 0 lo).toArray):=by
  show((items.toList.drop<|sIx items.size 0 lo).take<|sIx items.size items.size hi-sIx items.size 0 lo).toArray.size<=sizeLine
  rw[b9,qX,a14,qQ];omega
 have hj:sIx items.size items.size hi<=items.size:=sIx_le _ _ (aD _) hi;obtain⟨os,hos,hcs,hds⟩:=id hs;have hTs:s.TypeIs (.ref sl) "slice":=⟨os,hos,hcs⟩;unfold getItem;try with_reducible refine iJ ?_
 first|refine a9 (aN ?_)|skip
 refine a9 (wpAny_sequenceKey ht.typeIs ac ?_)
 refine a9 (qG (name:=Str.ofString "__getitem__") ht.typeIs zZ
  (lK zZ ht.typeIs entry_tuple_getitem ?_<|args_tuple_getitem _ _))
 show wpAny _ _ (Builtin.Tuple.tupleItemsOf (.ref t) >>= _) _ _ s
 refine a9 (tupleItemsOf_ ht ?_)
 refine a9 (a25 hTs ?_)
 rw[a7 ac]
 refine a9 (yX hs pl pu ?_)
 have hno: ¬((((sIx items.size 0 lo:Nat):Int)==0&&(1:Int)==1&&(sIx items.size items.size hi-sIx items.size 0 lo)==items.size)=true):=by
  intro q;rw[iI,iI]at q;have q1:((sIx items.size 0 lo:Nat):Int)=0:=eq_of_beq q.1.1;have q2:sIx items.size items.size hi-sIx items.size 0 lo=items.size:=eq_of_beq q.2;exact hw ⟨aa,aa⟩
 show wpAny _ _ (if(((sIx items.size 0 lo:Nat):Int)==0&&(1:Int)==1&&(sIx items.size items.size hi-sIx items.size 0 lo)==items.size)=true then _ else _) _ _ s
 rw[a6 hno,d12]
 first
  | exact a9 (m:=Builtin.Tuple.tupleExact _) (kJ (aN ⟨_,rfl,aN h⟩) htake)
  | exact a9 (m:=Builtin.Tuple.tupleExact _) (kJ (a9<|aN<|aN ⟨_,rfl,aN h⟩) htake)
  | exact a9 (a9 (m:=Builtin.Tuple.tupleExact _)<|kJ (aN<|aN ⟨_,rfl,aN h⟩) htake)
  | exact a9 (a9 (m:=Builtin.Tuple.tupleExact _)<|kJ (aN ⟨_,rfl,aN h⟩) htake)
end
end HT
namespace L2
abbrev TO:=St->Hp->(Option Int->Hp->Prop)->Prop
def PO (X:Cx)(e:Option Expr)(t:TO):Prop:=
 ∀(pins:List (Addr×Obj)) (s:Shared) (σ:St) (H:Hp) (Q:Option Int->Hp->Prop),Inv X pins σ H s->t σ H Q->
  wpAny (model X.prog X.w) X.A (evalPart e X.env) (λu s'=> ∃o H',Inv X pins σ H' s'/\IsPart u o/\Q o H') X.xe s
def dI7:TO:=λ_ H Q=>Q none H
def tPart (t:TE):TO:=λσ H Q=>t σ H λx H1=> ∃i,x= .int i/\Q (some i) H1
theorem intsAre_of {ns:List Int}: ∀{us:List Value},Vals (ns.map V.int) us->IntsAre us ns:=by
 induction ns with
 | nil=>intro us r;rw[uY]at r;cases r;exact .nil
 | cons n ns ih=>
  intro us r;rw[fM]at r;cases r with
  | cons r1 r2=>
   obtain⟨t,e⟩:=r1;subst e;exact .cons n t (ih r2)
section
variable {X:Cx}{e:Expr}{te:TE}{lo hi:Option Expr}{tl th:TO}{pos p2:Pos}
theorem dI8:PO X none dI7:=by
 intro pins s σ H Q I h;rw[evalPart_none];exact aN ⟨none,H,I,.none,h⟩
theorem dI9 (h:PE X e te):PO X (some e) (tPart te):=by
 intro pins s σ H Q I hw;rw[evalPart_some];refine thn (h pins s σ H _ I hw) λu s1 ⟨x,H1,I1,r1,q1⟩=> ?_
 obtain⟨i,rfl,q⟩:=q1;obtain⟨t,rfl⟩:=r1;exact⟨some i,H1,I1,.int i t,q⟩
def SlR (X:Cx)(r:V->Option Int->Option Int->Hp->VK->Prop):Prop:=
 ∀(pins:List (Addr×Obj)) (s:Shared) (σ:St) (H:Hp) (x:V) (v vl vu:Value) (lo hi:Option Int) (sl:Addr) (Q:VK),Inv X pins σ H s->RelV x v->s.heap.IsSliceOf sl vl vu .none->IsPart vl lo->IsPart vu hi->r x lo hi H Q->
  ∃T id,typeLookup (.type T) "__getitem__"=pure (some<|.builtin id)/\s.TypeIs v T/\wpAny (model X.prog X.w) X.A (getItem v<|.ref sl) (EP X pins σ Q) X.xe s
theorem SlR.or {r r':V->Option Int->Option Int->Hp->VK->Prop}(h:SlR X r)(h':SlR X r'):SlR X (λx lo hi H Q=>r x lo hi H Q\/r' x lo hi H Q):=by
 intro pins s σ H x v vl vu lo hi sl Q I rx hs pl pu q;rcases q with q|q
 .exact h pins s σ H x v vl vu lo hi sl Q I rx hs pl pu q
 .exact h' pins s σ H x v vl vu lo hi sl Q I rx hs pl pu q
def tSl (r:V->Option Int->Option Int->Hp->VK->Prop)(te:TE)(tl th:TO):TE:=λσ H Q=>te σ H λx H1=>tl σ H1 λl H2=>th σ H2 λu H3=>r x l u H3 Q
theorem c34 {r:V->Option Int->Option Int->Hp->VK->Prop}(hr:SlR X r)(he:PE X e te)(hl:PO X lo tl)(hu:PO X hi th):PE X (.Subscript e (.Slice lo hi none p2) pos) (tSl r te tl th):=by
 intro pins s σ H Q I h;refine Subscript_ (thn (he pins s σ H _ I h) λv s1 ⟨x,H1,I1,r1,q1⟩=> ?_)
 refine wpAny_Slice (thn (hl pins s1 σ H1 _ I1 q1) λvl s2 ⟨l,H2,I2,pl,q2⟩=>thn (hu pins s2 σ H2 _ I2 q2) λvu s3 ⟨u,H3,I3,pu,q3⟩=> ?_)
 rw[evalPart_none];refine aN ?_;have I4:Inv X pins σ H3 {s3 with heap:=s3.heap.push {cls:= .type "slice",data:= .fields #[vl,vu,.none]}}:=I3.kept (t':=s3.toks) λb ob q=>bC _ q
 obtain⟨T,id,hT,ht,hg⟩:=hr pins {s3 with heap:=s3.heap.push {cls:= .type "slice",data:= .fields #[vl,vu,.none]}} σ H3 x v vl vu l u s3.heap.objs.size Q I4 r1 (Heap.IsSliceOf.new ..) pl pu q3;show wpAny (model X.prog X.w) X.A (subscriptTail e (.Slice lo hi none p2) v<|.ref s3.heap.objs.size) (EP X pins σ Q) X.xe {s3 with heap:=s3.heap.push {cls:= .type "slice",data:= .fields #[vl,vu,.none]}}
 exact tail_any (ops:=[.ref s3.heap.objs.size,v]) ht hT hg (by with_unfolding_all rfl)
noncomputable def c35 (xs:List V)(lo hi:Option Int):List V:=(xs.drop<|HT.sIx xs.length 0 lo).take (HT.sIx xs.length xs.length hi-HT.sIx xs.length 0 lo)
theorem b29 (xs:List V)(lo hi:Option Int):(c35 xs lo hi).length<=xs.length:=by
 unfold c35;rw[qX,a14]
 lia
noncomputable def rSlT (K:PySem.W.Frag):V->Option Int->Option Int->Hp->VK->Prop:=λx lo hi H Q=> ∃a xs,x= .ref a/\SqT K H a xs/\
 ¬(HT.sIx xs.length 0 lo=0/\HT.sIx xs.length xs.length hi=xs.length)/\ ∀p,H p=none->Q (.ref p) (upd H p<|.tup<|c35 xs lo hi)
theorem d13:SlR X (rSlT X.K):=by
 intro pins s σ H x v vl vu lo hi sl Q I rx hs pl pu h;obtain⟨a,xs,rfl,hx,hw,q⟩:=h;cases rx;obtain⟨its,r,ht,hz⟩:=I.tuple hx;have hlen:its.toArray.size=xs.length:=by rw[b9];exact r.length.symm
 refine⟨"tuple",_,PyProof.Rows.slot_tuple_getitem.lookup,ht.typeIs,?_⟩
 refine HT.getItem_tuple_cut ht hs pl pu (by rw[hlen];exact hw) ?_ (by rw[hlen];exact hz)
 rw[hlen];refine⟨.ref s.heap.objs.size,_,I.laid (t':=s.toks) (o:= .tup (c35 xs lo hi)) (λb ob q=>bC _ q) (aD _) ?_,rfl,q _<|I.hok.fresh<|aD _⟩
 exact⟨aI (b29 xs lo hi) hz,_,(r.drop<|HT.sIx xs.length 0 lo).take<|HT.sIx xs.length xs.length hi-HT.sIx xs.length 0 lo,vA _ _⟩
noncomputable def rCatT (K:PySem.W.Frag):R2:=λx y H Q=> ∃a b xs ys,x= .ref a/\y= .ref b/\SqT K H a xs/\SqT K H b ys/\xs≠[]/\xs.length+ys.length<=sizeLine/\
 (ys=[]->Q (.ref a) H)/\(ys≠[]-> ∀p,H p=none->Q (.ref p) (upd H p<|.tup<|xs++ys))
theorem Vals.nil_iff {xs:List V}(r:Vals xs us):us=[]↔xs=[]:=by
 cases r with
 | nil=>simp
 | cons _ _=>simp
theorem dJ0:OpR X (binaryOp .Add) (rCatT X.K):=by
 intro pins s σ H x y v u Q I rx ry h;obtain⟨a,b,xs,ys,rfl,rfl,ha,hb,hx,hz,q1,q2⟩:=h;cases rx;cases ry;obtain⟨its,r1,p1,_⟩:=I.tuple ha;obtain⟨its2,r2,p2,_⟩:=I.tuple hb;refine HT.cat_tup p1 p2 (λz=>hx (r1.nil_iff.mp z)) (λz=>⟨.ref a,H,I,rfl,q1<|r2.nil_iff.mp z⟩) (λz=> ?_) (by rw[<-r1.length,<-r2.length];exact hz)
 refine⟨.ref s.heap.objs.size,_,I.laid (t':=s.toks) (o:= .tup (xs++ys)) (λb ob q=>bC _ q) (aD _) ?_,rfl,q2 (λw=>z (r2.nil_iff.mpr w)) _<|I.hok.fresh<|aD _⟩
 exact⟨by rw[dD];exact hz,_,r1.append r2,vA _ _⟩
end
noncomputable def ixN (n:Nat)(i:Int):Option Nat:=if 0<=i then(if i<n then some i.toNat else none)else if -(n:Int)<=i then some (i+n).toNat else none
noncomputable def atI (xs:List α)(i:Int):Option α:=(ixN xs.length i).bind λj=>xs[j]?
theorem cM2 {i:Int}(h:ixN n i=some j):seqIndex? i n=some j/\j<n/\ -(n:Int)<=i/\i<n:=by
 unfold ixN at h
 by_cases h0:0<=i
 .rw[a7 h0]at h
  by_cases h1:i<n
  .rw[a7 h1]at h;have e:i.toNat=j:=gX h;exact⟨by rw[a32 h0 h1,e],ad,ad,h1⟩
  .rw[a6 h1]at h;cases h
 .rw[a6 h0]at h
  by_cases h1: -(n:Int)<=i
  .rw[a7 h1]at h;have e:(i+n).toNat=j:=gX h;exact⟨by rw[a26 ad h1,e],ad,h1,ad⟩
  .rw[a6 h1]at h;cases h
theorem b70 {xs:List α}{i:Int}{v:α}(h:atI xs i=some v): ∃j,seqIndex? i xs.length=some j/\xs[j]? =some v/\j<xs.length/\ -(xs.length:Int)<=i/\i<xs.length:=by
 unfold atI at h;cases e:ixN xs.length i with
 | none=>rw[e]at h;cases h
 | some j=>
  rw[e]at h;obtain⟨h1,h2,h3,h4⟩:=cM2 e;exact⟨j,h1,h,h2,h3,h4⟩
theorem cY {xs:List α}{v:α}(h:xs[j]? =some v):atI xs (j:Int)=some v:=by
 have hj:j<xs.length:=(kG.mp h).1;have e:ixN xs.length (j:Int)=some j:=by
  unfold ixN;rw[a7 ad,a7 ad];simp
 unfold atI;rw[e];exact h
theorem d14 (xs:List α)(v:α):atI (xs++[v]) (-1)=some v:=by
 have hl:(xs++[v]).length=xs.length+1:=ae
 have e:ixN (xs++[v]).length (-1)=some xs.length:=by
  unfold ixN;rw[hl,a6 ac,a7 ad]
  congr 1
  lia
 unfold atI;rw[e];show(xs++[v])[xs.length]? =some v;simp
def bU1 (b:Expr):Prop:= ∀o i,subscripted b false o i=operate [o,i] (getItem o i)
def IxR (X:Cx)(r:R2):Prop:=
 ∀(value slice:Expr) (pins:List (Addr×Obj)) (s:Shared) (σ:St) (H:Hp) (x y:V) (v u:Value) (Q:VK),Inv X pins σ H s->RelV x v->RelV y u->r x y H Q->
  subscripted slice false v u=operate [v,u] (getItem v u)->wpAny (model X.prog X.w) X.A (subscriptTail value slice v u) (EP X pins σ Q) X.xe s
def MtR (X:Cx)(id:String)(r:V->List V->Hp->VK->Prop):Prop:=
 ∀(pins:List (Addr×Obj)) (s:Shared) (σ:St) (H:Hp) (x:V) (xs:List V) (v:Value) (us:List Value) (Q:VK),Inv X pins σ H s->RelV x v->Vals xs us->r x xs H Q->
  wpAny (model X.prog X.w) X.A (call (.builtin id) (v::us)) (EP X pins σ Q) X.xe s
section
variable {X:Cx}{a b:Expr}{ta tb:TE}{pos:Pos}
theorem IxR.or {r r':R2}(h:IxR X r)(h':IxR X r'):IxR X (λx y H Q=>r x y H Q\/r' x y H Q):=by
 intro value slice pins s σ H x y v u Q I rx ry q hs;rcases q with q|q
 .exact h value slice pins s σ H x y v u Q I rx ry q hs
 .exact h' value slice pins s σ H x y v u Q I rx ry q hs
theorem pe_ix {r:R2}(hr:IxR X r)(ha:PE X a ta)(hb:PE X b tb)(hs:bU1 b):PE X (.Subscript a b pos) (tOp r ta tb):=by
 intro pins s σ H Q I h;exact Subscript_ (binT ha hb I h λv u s2 x y H2 I2 rx ry q=>hr a b pins s2 σ H2 x y v u Q I2 rx ry q (hs _ _))
noncomputable def rIxL (K:PySem.W.Frag):R2:=λx y H Q=> ∃p xs i v,x= .ref p/\y= .int i/\SqL K H p xs/\atI xs i=some v/\Q v H
noncomputable def rIxT (K:PySem.W.Frag):R2:=λx y H Q=> ∃p xs i v,x= .ref p/\y= .int i/\SqT K H p xs/\atI xs i=some v/\Q v H
noncomputable def rIxS:R2:=λx y H Q=> ∃z i c,x= .str z/\y= .int i/\z.length<=sizeLine/\atI z.cps.toList i=some c/\Q (.str ⟨#[c]⟩) H
theorem dJ1:IxR X (rIxL X.K):=by
 intro value slice pins s σ H x y v u Q I rx ry h hs;obtain⟨p,xs,i,z,rfl,rfl,hq,he,q⟩:=h;cases rx;obtain⟨t,rfl⟩:=ry;obtain⟨its,r,pl,hz⟩:=I.list hq;obtain⟨j,h1,h2,h3,h4,h5⟩:=b70 he;obtain⟨w,ew,rw'⟩:=r.get h2;have hl:=r.length;have hn:=aY0;have fin:EP X pins σ Q w s:=⟨z,H,I,rw',q⟩
 by_cases h0:0<=i
 .have hj:i.toNat=j:=by
   rw[a32 h0 h5]at h1;exact gX h1
  exact item_listR pl.isList h0 ad (by rw[hj];exists ew) fin hs
 .have hj:(i+(its.toArray.size:Int)).toNat=j:=by
   rw[a26 ad h4]at h1
   rw[b9,<-hl];exact gX h1
  exact subscriptTail_builtinR (x:=w) pl.isList.typeIs slot_list_getitem.lookup
   (wpAny_getItem_list_neg (Q:=λr s'=>r=w/\EP X pins σ Q r s') pl.isList ad (by rw[b9]<;>lia) ad (by rw[hj];exists ew) ⟨rfl,fin⟩) hs
theorem ix_tup:IxR X (rIxT X.K):=by
 intro value slice pins s σ H x y v u Q I rx ry h hs;obtain⟨p,xs,i,z,rfl,rfl,hq,he,q⟩:=h;cases rx;obtain⟨t,rfl⟩:=ry;obtain⟨its,r,pl,hz⟩:=I.tuple hq;obtain⟨j,h1,h2,h3,h4,h5⟩:=b70 he;obtain⟨w,ew,rw'⟩:=r.get h2;have hl:=r.length;have hn:=aY0;have fin:EP X pins σ Q w s:=⟨z,H,I,rw',q⟩;exact subscriptTail_builtinR (x:=w) pl.typeIs slot_tuple_getitem.lookup
  (getItem_tuple (j:=j) (Q:=λr s'=>r=w/\EP X pins σ Q r s') pl ad ad (by rw[b9,<-hl];exact h1) (by exists ew) ⟨rfl,fin⟩) hs
theorem ix_str:IxR X rIxS:=by
 intro value slice pins s σ H x y v u Q I rx ry h hs;obtain⟨z,i,c,rfl,rfl,hz,he,q⟩:=h;obtain⟨t,rfl⟩:=rx;obtain⟨t',rfl⟩:=ry;obtain⟨j,h1,h2,h3,h4,h5⟩:=b70 he;have hl:z.cps.toList.length=z.length:=by simp[Str.length]
 rw[hl]at h1 h4 h5;have hn:=aY0;exact tail_any (typeIs_str s z t) slot_str_getitem.lookup (getItem_str (c:=c) (by
  have e1:decide (i< -(2^63:Int))=false:=fX ad
  have e2:decide (i≥2^63)=false:=fX ad
  rw[e1,e2,Bool.or_false]) (by rw[h1];exists h2) ⟨.str ⟨#[c]⟩,H,I.tok _,⟨_,rfl⟩,q⟩) hs
noncomputable def rIx (K:PySem.W.Frag):R2:=λx y H Q=>rIxL K x y H Q\/rIxT K x y H Q\/rIxS x y H Q
theorem ix_seq:IxR X (rIx X.K):=dJ1.or (ix_tup.or ix_str)
theorem cE5 (its:List Value)(n j:Nat)(u:Value):Obj.mapSeq (·.setIfInBounds j u) {cls:= .type "list",data:= .seq its.toArray n}={cls:= .type "list",data:= .seq (its.set j u).toArray n}:=by
 simp[Obj.mapSeq]
theorem Inv.lst {σ:St}{H:Hp}{p:Addr}{xs:List V}(I:Inv X pins σ H s)(h:H p=some (.lst xs)) :
  ∃(its:List Value) (n:Nat),Vals xs its/\s.heap.get? p=some {cls:= .type "list",data:= .seq its.toArray n}/\xs.length<=sizeLine:=by
 obtain⟨z,its,n,r,e⟩:=I.hok p _ h;exact⟨its,n,r,e,z⟩
theorem Inv.lstUpd {σ:St}{H:Hp}{p:Addr}{xs ys:List V}{its':List Value}{n':Nat}{f:Obj->Obj}(I:Inv X pins σ H s)(h:H p=some (.lst xs))
  (ho:s.heap.get? p=some {cls:= .type "list",data:= .seq its.toArray n}) (hf:f {cls:= .type "list",data:= .seq its.toArray n}={cls:= .type "list",data:= .seq its'.toArray n'}) (r:Vals ys its') (hz:ys.length<=sizeLine) (t:Nat) :
  Inv X pins σ (upd H p<|.lst ys) {s with heap:=s.heap.update p f,toks:=t}:=by
 have e:(s.heap.update p f).get? p=some {cls:= .type "list",data:= .seq its'.toArray n'}:=by
  rw[qI f ho (by rw[hf]<;>rfl),hf]
 refine I.write (x:=p) (e:=p) (by rw[h];trivial) (.inl rfl) (λb u hb q=>(aK1 _ _<|Ne.symm hb).trans q) ⟨_,e⟩ ?_
 exact⟨hz,its',n',r,e⟩
noncomputable def rSetL:V->V->V->Hp->(Hp->Prop)->Prop:=λo i v H Q=> ∃p xs k j,o= .ref p/\i= .int k/\H p=some (.lst xs)/\ixN xs.length k=some j/\Q (upd H p<|.lst<|xs.set j v)
theorem c36:PSet X rSetL:=by
 intro pins s σ H o i v ov iv u Q I ro ri rv h;obtain⟨p,xs,k,j,rfl,rfl,hp,hj,q⟩:=h;cases ro;obtain⟨t,rfl⟩:=ri;obtain⟨its,n,r,ho,hz⟩:=I.lst hp;obtain⟨h1,h2,h3,h4⟩:=cM2 hj;have hl:=r.length;have hn:=aY0;have I':Inv X pins σ (upd H p<|.lst<|xs.set j v) {s with heap:=s.heap.update p (Obj.mapSeq (·.setIfInBounds j u))}:=
  I.lstUpd hp ho (cE5 its n j u) (r.set rv j) (by rw[fY];exact hz) s.toks
 by_cases h0:0<=k
 .have hk:k.toNat=j:=by
   rw[a32 h0 h4]at h1;exact gX h1
  exact PySem.W.ki_setAt ho h0 ad (by rw[b9,<-hl];exact h4) (by rw[hk];exact⟨_,I',q⟩)
 .have hk:(k+(its.toArray.size:Int)).toNat=j:=by
   rw[a26 ad h3]at h1
   rw[b9,<-hl];exact gX h1
  exact PySem.W.ki_setBack ho ad (by rw[b9,<-hl];exact h3) ad (by rw[hk];exact⟨_,I',q⟩)
theorem bU2 (lo hi:Option Int)(n:Nat):(sliceBounds lo hi none n).1=((HT.sIx n 0 lo:Nat):Int)/\(sliceBounds lo hi none n).2.1=((HT.sIx n n hi:Nat):Int)/\(sliceBounds lo hi none n).2.2=1:=by
 refine⟨?_,?_,rfl⟩
 .cases lo with
  | none=>simp[sliceBounds,HT.sIx]
  | some i=>
   simp only[sliceBounds,HT.sIx,getD_none,show(1:Int)>0 by decide,dM]
   by_cases h:i<0
   .simp only[h,dM]<;>lia
   .simp only[h,dL]<;>lia
 .cases hi with
  | none=>simp[sliceBounds,HT.sIx]
  | some i=>
   simp only[sliceBounds,HT.sIx,getD_none,show(1:Int)>0 by decide,dM]
   by_cases h:i<0
   .simp only[h,dM]<;>lia
   .simp only[h,dL]<;>lia
theorem bK6 (its:List Value)(lo hi:Option Int):slicePick its.toArray lo hi none=((its.drop<|HT.sIx its.length 0 lo).take<|HT.sIx its.length its.length hi-HT.sIx its.length 0 lo).toArray:=by
 obtain⟨h1,h2,h3⟩:=bU2 lo hi its.toArray.size;unfold slicePick;rw[h1,h2,h3];simp only[sliceRange_one,pick_run,b9]<;>rfl
noncomputable def rSlL (K:PySem.W.Frag):V->Option Int->Option Int->Hp->VK->Prop:=λx lo hi H Q=> ∃a xs,x= .ref a/\SqL K H a xs/\ ∀p,H p=none->Q (.ref p) (upd H p<|.lst<|c35 xs lo hi)
theorem cM3:SlR X (rSlL X.K):=by
 intro pins s σ H x v vl vu lo hi sl Q I rx hs pl pu h;obtain⟨a,xs,rfl,hx,q⟩:=h;cases rx;obtain⟨its,r,ht,hz⟩:=I.list hx;have hlen:=r.length;refine⟨"list",_,slot_list_getitem.lookup,ht.isList.typeIs,?_⟩;refine wpAny_getItem_list_slice ht.isList hs pl pu .none ae ?_ (by rw[b9]<;>lia)
 rw[bK6,<-hlen];refine⟨.ref s.heap.objs.size,_,I.laid (t':=s.toks) (o:= .lst (c35 xs lo hi)) (λb ob q=>bC _ q) (aD _) ?_,rfl,q _<|I.hok.fresh<|aD _⟩
 exact⟨aI (b29 xs lo hi) hz,_,0,(r.drop<|HT.sIx xs.length 0 lo).take<|HT.sIx xs.length xs.length hi-HT.sIx xs.length 0 lo,cZ _ rfl⟩
noncomputable def aP9:V->Bool
 | .non=>true
 | .bl _=>true
 | .int _=>true
 | .str _=>true
 | _=>false
noncomputable def eqV:V->V->Bool
 | .non,.non=>true
 | .bl a,.bl b=>a==b
 | .bl a,.int b=>(if a then 1 else 0)==b
 | .int a,.bl b=>a==(if b then 1 else 0)
 | .int a,.int b=>a==b
 | .str a,.str b=>a==b
 | _,_=>false
theorem eqAt_V {y x:V}(ry:RelV y u)(rx:RelV x v)(fy:aP9 y=true)(fx:aP9 x=true):SeqAt.EqAt A s u v (eqV y x):=by
 cases y with
 | non=>
  cases ry;cases x with
  | non=>cases rx;exact SeqAt.EqAt.same _
  | bl b=>cases rx;exact SeqAt.EqAt.none_bool b
  | int b=>obtain⟨t,rfl⟩:=rx;exact SeqAt.EqAt.none_int b t
  | str b=>obtain⟨t,rfl⟩:=rx;exact SeqAt.EqAt.none_str b t
  | _=>exact absurd (show false=true from fx) bE
 | bl a=>
  cases ry;cases x with
  | non=>cases rx;exact SeqAt.EqAt.bool_none a
  | bl b=>cases rx;exact SeqAt.EqAt.bool_bool a b
  | int b=>obtain⟨t,rfl⟩:=rx;exact SeqAt.EqAt.bool_int a b t
  | str b=>obtain⟨t,rfl⟩:=rx;exact SeqAt.EqAt.bool_str a b t
  | _=>exact absurd (show false=true from fx) bE
 | int a=>
  obtain⟨t',rfl⟩:=ry;cases x with
  | non=>cases rx;exact SeqAt.EqAt.int_none a t'
  | bl b=>cases rx;exact SeqAt.EqAt.int_bool a t' b
  | int b=>obtain⟨t,rfl⟩:=rx;exact SeqAt.EqAt.int_int a t' b t
  | str b=>obtain⟨t,rfl⟩:=rx;exact SeqAt.EqAt.int_str a t' b t
  | _=>exact absurd (show false=true from fx) bE
 | str a=>
  obtain⟨t',rfl⟩:=ry;cases x with
  | non=>cases rx;exact SeqAt.EqAt.str_none a t'
  | bl b=>cases rx;exact SeqAt.EqAt.str_bool a t' b
  | int b=>obtain⟨t,rfl⟩:=rx;exact SeqAt.EqAt.str_int a t' b t
  | str b=>obtain⟨t,rfl⟩:=rx;exact SeqAt.EqAt.str_str a t' b t
  | _=>exact absurd (show false=true from fx) bE
 | _=>exact absurd (show false=true from fy) bE
noncomputable def eqU (x:V)(u:Value):Bool:=match u with
 | .none=>eqV .non x
 | .bool b=>eqV (.bl b) x
 | .int i _=>eqV (.int i) x
 | .str z _=>eqV (.str z) x
 | _=>false
theorem d15 {x y:V}(r:RelV y u)(f:aP9 y=true):eqU x u=eqV y x:=by
 cases y with
 | non=>cases r;rfl
 | bl b=>cases r;rfl
 | int i=>obtain⟨t,rfl⟩:=r;rfl
 | str z=>obtain⟨t,rfl⟩:=r;rfl
 | _=>exact absurd (show false=true from f) bE
theorem bU3 {x:V}: ∀{xs:List V} {us:List Value},Vals xs us->xs.all aP9=true->us.any (eqU x)=xs.any λy=>eqV y x
 | _,_,.nil,_=>rfl
 | y::xs,u::us,.cons r t,f=>by
  rw[all_cons,iI]at f;rw[any_cons,any_cons,d15 r f.1,bU3 t f.2]
theorem b90 {A:Around}{s:Shared}{x:V}{v:Value}(rx:RelV x v)(fx:aP9 x=true): ∀{xs:List V} {us:List Value},Vals xs us->xs.all aP9=true-> ∀u∈us,SeqAt.EqAt A s u v (eqU x u)
 | _,_,.nil,_=>λu hu=>by cases hu
 | y::xs,u::us,.cons r t,f=>λu' hu=>by
  rw[all_cons,iI]at f;rcases bB.mp hu with rfl|hu
  .rw[d15 r f.1];exact eqAt_V r rx f.1 fx
  .exact b90 rx fx t f.2 u' hu
noncomputable def inV (x:V)(xs:List V):Bool:=xs.any λy=>eqV y x
noncomputable def rIn (K:PySem.W.Frag)(neg:Bool):R2:=λx y H Q=> ∃p xs,y= .ref p/\(SqL K H p xs\/SqT K H p xs)/\aP9 x=true/\xs.all aP9=true/\Q (.bl<|if neg then !inV x xs else inV x xs) H
theorem bU4:OpR X (compareOp .NotIn) (rIn X.K true):=by
 intro pins s σ H x y v u Q I rx ry h;obtain⟨p,xs,rfl,hq,fx,fs,q⟩:=h;cases ry;rcases hq with hq|hq
 .obtain⟨its,r,pl,hz⟩:=I.list hq;refine SeqAt.notIn_listAt (eqU x) pl.isList (λw hw=>b90 rx fx r fs w (by exists hw)) ⟨.bl _,H,I,rfl,?_⟩
  rw[show its.toArray.any (eqU x)=its.any (eqU x)by simp,bU3 r fs]
  exact q
 .obtain⟨its,r,pl,hz⟩:=I.tuple hq;refine SeqAt.notIn_tupleAt (eqU x) pl (λw hw=>b90 rx fx r fs w (by exists hw)) ⟨.bl _,H,I,rfl,?_⟩
  rw[show its.toArray.any (eqU x)=its.any (eqU x)by simp,bU3 r fs]
  exact q
theorem bU5:pE X (.builtin "len") (λxs H Q=> ∃p ys,xs=[.ref p]/\(SqL X.K H p ys\/SqT X.K H p ys)/\Q (.int ys.length) H):=by
 intro pins s σ H xs us Q I r h;obtain⟨p,ys,rfl,hq,q⟩:=h;obtain⟨u,rfl,rx⟩:=vals1 r;cases rx;have hn:=aY0;rcases hq with hq|hq
 .obtain⟨its,r',pl,hz⟩:=I.list hq;have hlen:=r'.length;exact Calls.call_len_list pl.isList (by simp only[b9]<;>lia) ⟨.int ys.length,H,I.tok _,⟨s.toks+1,by rw[b9,hlen]⟩,q⟩
 .obtain⟨its,r',pl,hz⟩:=I.tuple hq;have hlen:=r'.length;exact len_tuple pl (by simp only[b9]<;>lia) ⟨.int ys.length,H,I.tok _,⟨s.toks+1,by rw[b9,hlen]⟩,q⟩
theorem bU6:pE X (.type "list") (λxs H Q=> ∃p ys,xs=[.ref p]/\(SqL X.K H p ys\/SqT X.K H p ys)/\ ∀l,H l=none->Q (.ref l) (upd H l<|.lst ys)):=by
 intro pins s σ H xs us Q I r h;obtain⟨p,ys,rfl,hq,q⟩:=h;obtain⟨u,rfl,rx⟩:=vals1 r;cases rx;have fin: ∀(its:List Value),Vals ys its->ys.length<=sizeLine-> ∀(h':Heap) (c':Nat),(∀b o',s.heap.get? b=some o'->h'.get? b=some o')->
   h'.get? s.heap.objs.size=some {cls:= .type "list",dict:=none,data:= .seq its.toArray c',slots:= #[]}->EP X pins σ Q (.ref s.heap.objs.size) {s with heap:=h'}:=λits r' hz h' c' kp e=>
  ⟨.ref s.heap.objs.size,_,I.laid (t':=s.toks) kp (aD _)<|show qA X.prog X.w _ h' _ (.lst ys)from⟨hz,its,c',r',e⟩,rfl,q _<|I.hok.fresh<|aD _⟩
 rcases hq with hq|hq
 .obtain⟨its,r',pl,hz⟩:=I.list hq;have hlen:=r'.length;obtain⟨o,ho,hc,n,hd⟩:=pl.isList;exact call_list_seq p (.inl rfl) ho hc hd (λh' c' kp e=>fin its r' hz h' c' kp e) (by simp only[b9]<;>lia)
 .obtain⟨its,r',pl,hz⟩:=I.tuple hq;have hlen:=r'.length;obtain⟨o,ho,hc,n,hd⟩:=pl;exact call_list_seq p (.inr rfl) ho hc hd (λh' c' kp e=>fin its r' hz h' c' kp e) (by simp only[b9]<;>lia)
theorem xT:pE X (.type "tuple") (λxs H Q=> ∃p ys,xs=[.ref p]/\((SqL X.K H p ys/\ ∀l,H l=none->Q (.ref l) (upd H l<|.tup ys))\/(SqT X.K H p ys/\Q (.ref p) H))):=by
 intro pins s σ H xs us Q I r h;obtain⟨p,ys,rfl,h⟩:=h;obtain⟨u,rfl,rx⟩:=vals1 r;cases rx;rcases h with⟨hq,q⟩| ⟨hq,q⟩
 .obtain⟨its,r',pl,hz⟩:=I.list hq;have hlen:=r'.length;refine call_tuple_list pl.isList (λh' kp=> ?_) (by simp only[b9]<;>lia)
  have I1:Inv X pins σ H {s with heap:=h'}:=I.kept (t':=s.toks) kp;have I2:Inv X pins σ (upd H h'.objs.size<|.tup ys) {s with heap:=h'.push {cls:= .type "tuple",data:= .seq its.toArray}}:=
   I1.laid (t':=s.toks) (λb o e=>bC _ e) (aD _) (show qA X.prog X.w _ _ _ (.tup ys)from⟨hz,its,r',vA _ _⟩)
  exact⟨.ref h'.objs.size,_,I2,rfl,q _<|I1.hok.fresh<|aD _⟩
 .obtain⟨its,r',pl,hz⟩:=I.tuple hq;exact call_tuple_same pl ⟨.ref p,H,I,rfl,q⟩
def tyV (K:PySem.W.Frag)(T:String)(x:V)(H:Hp):Prop:=match x with
 | .str _=>T="str"
 | .int _=>T="int"
 | .ref p=>(T="list"/\ ∃xs,SqL K H p xs)\/(T="tuple"/\ ∃o,K.lookup p=some o/\o.cls= .type "tuple"/\o.dict=none)\/
   (T="dict"/\((∃kvs,H p=some (.dK kvs))\/ ∃kvs,H p=some (.dT kvs)))\/(T="set"/\ ∃S n,H p=some (.set S n))
 | _=>False
theorem tyV_is {pins:List (Addr×Obj)}{σ:St}{H:Hp}{s:Shared}{T:String}{x:V}{v:Value}(I:Inv X pins σ H s)(r:RelV x v)(ty:tyV X.K T x H) :
  s.TypeIs v T/\ ∀a,v= .ref a-> ∃ob,s.heap.get? a=some ob/\ob.dict=none:=by
 cases x with
 | str z=>
  obtain⟨t,rfl⟩:=r;cases (show T="str" from ty)
  exact⟨typeIs_str s z t,λ_ e=>nomatch e⟩
 | int i=>
  obtain⟨t,rfl⟩:=r;cases (show T="int" from ty)
  exact⟨rJ s i t,λ_ e=>nomatch e⟩
 | ref p=>
  cases r;rcases ty with⟨rfl,xs,hq⟩| ⟨rfl,o,hk,hc,hd⟩| ⟨rfl,hk⟩| ⟨rfl,S,n,hk⟩
  .obtain⟨its,_,pl,_⟩:=I.list hq;refine⟨pl.isList.typeIs,λa e=> ?_⟩
   cases e;obtain⟨o,n,e,c,hd,_⟩:=pl;exact⟨o,e,hd⟩
  .refine⟨⟨o,I.kIn p o hk,hc⟩,λa e=> ?_⟩
   cases e;exact⟨o,I.kIn _ o hk,hd⟩
  .have z: ∃o,s.heap.get? p=some o/\o.ExactDict:=by
    rcases hk with⟨kvs,hk⟩| ⟨kvs,hk⟩
    .obtain⟨_,_,_,_,o,_,_,e,ex,_⟩:=I.hok p _ hk;exact⟨o,e,ex⟩
    .obtain⟨_,_,_,_,o,_,_,e,ex,_⟩:=I.hok p _ hk;exact⟨o,e,ex⟩
   obtain⟨o,e,ex⟩:=z;refine⟨⟨o,e,ex.1⟩,λa e2=> ?_⟩
   cases e2;exact⟨o,e,ex.2.1⟩
  .obtain⟨o,_,_,_,e,ex,_⟩:=I.hok p _ hk;refine⟨⟨o,e,ex.1⟩,λa e2=> ?_⟩
   cases e2;exact⟨o,e,ex.2.1⟩
 | _=>exact False.elim ty
def tBM (K:PySem.W.Frag)(T:String)(r:V->List V->Hp->VK->Prop)(to:TE)(t:TA):TE:=λσ H Q=>to σ H λx H1=>tyV K T x H1/\t σ H1 λxs H2=>r x xs H2 Q
variable {o e:Expr}{es:List Expr}{to:TE}{t:TA}{name:Str}{apos cpos:Pos}{T id:String}{r:V->List V->Hp->VK->Prop}
theorem pe_bm (pa:PlainAttrs T)(slot:Slot T name id)(hty:typeOf (.builtin id)=pure (.type "method_descriptor"))(hm:MtR X id r)(ho:PE X o to)(ha:PA X (e::es) t)
  (hbase:↥(attributeBase o name X.env (eval o X.env)=eval o X.env))
  (hfew:↥(((backTo cpos<|starEach (e::es) X.env).all (λx=> !x.1)&&(backToKw cpos<|keywordEach [] X.env).all (λx=>x.1.isSome)
   &&decide ((e::es).length+([]:List Keyword).length+(if([]:List Keyword).isEmpty then 0 else 1)<30))=true))
  (hline:↥((apos.endLine==cpos.line)=true)) (hs:↥(starEach (e::es) X.env=(false,eval e X.env)::starEach es X.env)) (hplain:↥((backTo cpos<|starEach es X.env).any (·.1)=false)) :
  PE X (.Call (.Attribute o name apos) (e::es) [] cpos) (tBM X.K T r to t):=by
 intro pins s σ H Q I h;refine wpAny_Call_method_late hbase hfew hline rfl (thn (ho pins s σ H _ I h) λv s1 ⟨x,H1,I1,r1,ty,q1⟩=> ?_)
 obtain⟨h1,h2⟩:=tyV_is I1 r1 ty;refine⟨T,id,pa,slot,hty,h1,h2,?_⟩;have hA:=ha cpos pins s1 σ H1 _ I1 q1;rw[hs]at hA⊢;refine Calls.callWith_builtin (by show(false||(backTo cpos<|starEach es X.env).any (·.1))=false;rw[hplain]<;>rfl) (aK7 ?_)
 exact thn hA λus s2 ⟨vs,H2,I2,r2,q2⟩=>hm pins s2 σ H2 x vs v us Q I2 r1 r2 q2
end
def MtM (X:Cx)(id:String)(r:V->List V->Hp->VK->Prop):Prop:=
 ∀(pins:List (Addr×Obj)) (s:Shared) (σ:St) (H:Hp) (x:V) (xs:List V) (v:Value) (us:List Value) (Q:VK),Inv X pins σ H s->RelV x v->Vals xs us->r x xs H Q->
  wpAny (model X.prog X.w) X.A (call (.builtin id) (v::us)) (EP X pins σ Q) X.xe s
theorem Vals.one {x:V}(h:Vals [x] us): ∃u,us=[u]/\RelV x u:=by
 cases h with
 | cons r q=>cases q;exact⟨_,rfl,r⟩
theorem Vals.rep {xs:List V}{us:List Value}(h:Vals xs us): ∀k:Nat,Vals (replicate k xs).flatten (replicate k us).flatten
 | 0=> .nil
 | k+1=>by
  rw[kI,kI,nZ,nZ];exact Vals.append h (Vals.rep h k)
theorem foldl_rep (its:List Value): ∀(k:Nat) (acc:List Value),
  foldl (λx1 x2=>x1++x2) acc.toArray (replicate k its.toArray)=(acc++(replicate k its).flatten).toArray
 | 0,acc=>ae
 | k+1,acc=>by
  have e:acc.toArray++its.toArray=(acc++its).toArray:=ae
  have e2:(acc++its)++(replicate k its).flatten=acc++(replicate (k+1) its).flatten:=by
   rw[kI,nZ,List.append_assoc]
  rw[<-e2,<-foldl_rep its k (acc++its),<-e,kI,List.foldl_cons]
section
variable {X:Cx}{pins:List (Addr×Obj)}{σ:St}{H:Hp}{s:Shared}{l b:Addr}{xs ys zs:List V}
theorem Inv.lset {its':List Value}{f:Array Value->Array Value}(I:Inv X pins σ H s)(hH:H l=some (.lst xs))
  (e:s.heap.get? l=some {cls:= .type "list",data:= .seq its.toArray n}) (hf:f its.toArray=its'.toArray) (hv:Vals ys its') (hz:ys.length<=sizeLine) :
  Inv X pins σ (upd H l<|.lst ys) {s with heap:=s.heap.update l (Obj.mapSeq f),toks:=t'}:=by
 have q:=PySem.IsL.update e f;rw[hf]at q;refine I.write (x:=l) (e:=l) (by rw[hH];exact trivial) (.inl rfl) (λb' u hb hu=>(aK1 s.heap (Obj.mapSeq f)<|Ne.symm hb).trans hu) ⟨_,q⟩ ?_
 exact⟨hz,its',_,hv,q⟩
theorem Inv.lnew (I:Inv X pins σ H s)(hv:Vals ys its)(hz:ys.length<=sizeLine) :
  Inv X pins σ (upd H s.heap.objs.size<|.lst ys) {s with heap:=s.heap.push {cls:= .type "list",data:= .seq its.toArray},toks:=t'}:=
 I.laid (λ_ _ q=>bC _ q) (aD _) ⟨hz,its,0,hv,cZ _ rfl⟩
theorem Inv.fresh (I:Inv X pins σ H s):H s.heap.objs.size=none:=I.hok.fresh (aD _)
theorem Inv.lstM (I:Inv X pins σ H s)(hH:H l=some (.lst xs)):xs.length<=sizeLine/\ ∃(its:List Value) (n:Nat),Vals xs its/\xs.length=its.length/\s.heap.get? l=some {cls:= .type "list",data:= .seq its.toArray n}:=by
 obtain⟨z,its,n,r,e⟩:=I.hok l _ hH;exact⟨z,its,n,r,r.length,e⟩
theorem d16 (h:n<=sizeLine):Builtin.List.listTooLong n=false:=by
 unfold Builtin.List.listTooLong;exact fX ad
end
section
variable {X:Cx}
noncomputable def dJ2:V->List V->Hp->VK->Prop:=λx vs H Q=> ∃l xs y,x= .ref l/\vs=[y]/\H l=some (.lst xs)/\xs.length<sizeLine/\Q .non (upd H l<|.lst<|xs++[y])
theorem bO3:MtM X "list.append" dJ2:=by
 intro pins s σ H x vs v us Q I rx rv h;obtain⟨l,xs,y,rfl,rfl,hH,hz,q⟩:=h;cases rx;obtain⟨u,rfl,ru⟩:=rv.one;obtain⟨z,its,n,r,hl,e⟩:=I.lstM hH;refine lQ F.slot_list_append ⟨_,e,rfl⟩ F.entry_list_append (F.args_list_append_2 _ _) (PySem.list_append l its.toArray n u (by rw[b9];lia)) ⟨e,?_⟩
 refine⟨.non,_,I.lset (its':=its++[u]) hH e ae (r.append<|.cons ru .nil) ?_,rfl,q⟩
 rw[dD,aK4]
 lia
noncomputable def rCat:R2:=λx y H Q=> ∃l b xs zs,x= .ref l/\y= .ref b/\H l=some (.lst xs)/\H b=some (.lst zs)/\xs.length+zs.length<=sizeLine/\ ∀p,H p=none->Q (.ref p) (upd H p<|.lst<|xs++zs)
theorem op_cat:OpR X (binaryOp .Add) rCat:=by
 intro pins s σ H x y v u Q I rx ry h;obtain⟨l,b,xs,zs,rfl,rfl,hH,hB,hz,q⟩:=h;cases rx;cases ry;obtain⟨z,its,n,r,hl,e⟩:=I.lstM hH;obtain⟨z2,its2,n2,r2,hl2,e2⟩:=I.lstM hB;refine PySem.P.add_list e e2 ?_ (by rw[b9,b9];omega)
 have ea:its.toArray++its2.toArray=(its++its2).toArray:=ae
 rw[ea];exact⟨.ref _,_,I.lnew (t':=s.toks) (r.append r2) (by rw[dD];omega),rfl,q _ I.fresh⟩
noncomputable def rRep:R2:=λx y H Q=> ∃l k xs,x= .ref l/\y= .int k/\H l=some (.lst xs)/\ -(2^63)<=k/\k<2^63/\xs.length*k.toNat<=sizeLine/\
 ∀p,H p=none->Q (.ref p) (upd H p<|.lst (replicate k.toNat xs).flatten)
theorem bU7 (xs:List α)(k:Nat):(replicate k xs).flatten.length=k*xs.length:=by
 induction k with
 | zero=>simp
 | succ k ih=>rw[kI,nZ,dD,ih,Nat.succ_mul,a27]
theorem op_rep:OpR X (binaryOp .Mult) rRep:=by
 intro pins s σ H x y v u Q I rx ry h;obtain⟨l,k,xs,rfl,rfl,hH,h1,h2,hz,q⟩:=h;cases rx;obtain⟨t,rfl⟩:=ry;obtain⟨z,its,n,r,hl,e⟩:=I.lstM hH;have hlen:its.toArray.size*k.toNat<=sizeLine:=by rw[b9,<-hl];exact hz
 have hcap: ¬its.toArray.size*k.toNat>(2^63-1)/8:=by
  have:(sizeLine:Nat)<=(2^63-1)/8:=ac
  lia
 have hfit: ¬(!Builtin.List.listFitsIndex k)=true:=by
  rw[fitsIndex_both h1 h2];exact bE
 have hlong: ¬Builtin.List.listTooLong (its.toArray.size*k.toNat)=true:=by
  rw[d16 hlen];exact bE
 have hnew:foldl (λx1 x2=>x1++x2) #[] (replicate (if its.toArray.isEmpty=true then 0 else k.toNat) its.toArray)=(replicate k.toNat its).flatten.toArray:=by
  have f0: ∀m:Nat,foldl (λx1 x2=>x1++x2) #[] (replicate m its.toArray)=(replicate m its).flatten.toArray:=λm=>by
   have:=foldl_rep its m [];rw[qZ]at this;exact this
  rw[f0];cases its with
  | nil=>simp
  | cons a r'=>rw[a6 ae]
 refine wpAny_binaryOp_repeat_ref (T:="list") (U:="int") ac ⟨_,e,rfl⟩ (λs'=>rJ s' k t) noFill_list_mul F.fills_int_mul F.slot_int_rmul repeat_list F.slot_int_index.lookup
  (lQ F.slot_int_rmul (rJ s k t) F.entry_int_rmul (F.args_int_rmul_2 _ _) (int___rmul___int_list k t l its.toArray n)
   ⟨e,rfl,⟨_,e,rfl⟩,lQ F.slot_list_mul ⟨_,e,rfl⟩ F.entry_list_mul (F.args_list_mul_2 _ _) (AutoListH.list___mul___list_int_3 l its.toArray n k t hfit hcap hlong) ⟨e,?_⟩⟩)
 rw[hnew];exact⟨.ref _,_,I.lnew (t':=s.toks) (r.rep k.toNat) (by rw[bU7,mul_comm];exact hz),rfl,q _ I.fresh⟩
end
section
variable {prog:Program}{w:World}{A:Around}{E:Value->Shared->Prop}{s:Shared}
set_option maxRecDepth 100000 in
end
end L2
namespace Att
open PySem PySem.W PySem.Calls PyProof.Rows
theorem b48 {P:Params}: ∀(ns:List Int) (vs:List Value),WellAll P h vs (ns.map WData.int)->IntsAre vs ns:=by
 intro ns
 induction ns with
 | nil=>
  intro vs w;rw[uY]at w;cases w;exact .nil
 | cons n ns ih=>
  intro vs w;rw[fM]at w;cases w with
  | cons a b=>
   cases a;exact .cons _ _ (ih _ b)
theorem cT0 {l:OpenLaw}{n:Nat}(hn:l.most=some n){P:Params}{h:Heap}{args:List WData}{vals:List Value}
  (hpre:l.row.toRowW.claim.pre args=true) (hwl:WellAll P h vals args) :
  ∃a vs ns,vals=[Value.ref a]/\args=[WData.list<|ns.map WData.int]/\h.get? a=some {cls:= .type "list",data:= .seq vs.toArray}/\IntsAre vs ns/\ns.length<=n:=by
 have hsh:WShape.hasAll [] args [.list .int]=true:=(pre_splitW hpre).1;have hc:l.pre.holds [] {args:=args}=true:=(pre_splitW hpre).2;obtain⟨d,r,rfl,h1,h2⟩:=hasAllW_cons hsh;obtain rfl:=hasAllW_nil h2;obtain⟨xs,rfl,h3⟩:=hasW_list h1;obtain⟨ns,rfl⟩:=items_int h3;have hlen:ns.length<=n:=by
  unfold OpenLaw.pre at hc;have h4:(WTm.not<|.lt (.lit<|.int (n:Int))<|.len<|.arg 0).holds [] {args:=[.list<|ns.map .int]}=true:=by
   have h4:=(holds_andW hc).1;rw[hn]at h4;exact h4
  have h5:=condW_of h4 (w_not<|w_lt w_lit<|w_len_list<|w_arg rfl);rw[aF]at h5;refine Nat.le_of_not_lt λq=> ?_
  have q':(n:Int)< ((ns.length:Nat):Int):=aa
  first
   | (rw[fL q']at h5;exact absurd h5 ac)
   | (simp at h5;omega)
 cases hwl with
 | cons w1 w2=>
  cases w2;cases w1 with
  | list ho hall=>exact⟨_,_,ns,rfl,rfl,ho,b48 ns _ hall,hlen⟩
theorem cT1 (l:OpenLaw)(args:List WData):l.row.toRowW.claim.post args (.bool true) args=true:=
 postW_of (r:=l.row.toRowW) (X:=(true==true))
  (show WShape.has [] (.bool true) .bool=true by first|rfl|decide|simp[WShape.has,WShape.arms,WShape.armsAll])
  (show(WTm.eq .res<|.lit<|.bool true).value [] {args:=args,res:=some (.bool true),after:=args}=some (.bool<|true==true)from w_eq_bool (w_res rfl) w_lit) rfl
theorem attach_call {l:OpenLaw}{XP:(Str->Option Value)->Heap->Prop}{d:DefRec}
  (hn:l.most=some n) (hdf:d.params.defaults=[])
  (call: ∀(w:World) (s₀ s₁:Shared) (mg mb:Str->Option Value) (fa:Addr) (o:Obj) (pm cd doc:Value) (a:Addr) (vs:List Value) (ns:List Int),
   Ground q loose [] XP w s₀ mg mb s₁.heap->YP w s₁.heap->
   s₁.heap.get? fa=some o->o.data= .func (docDef d.name d.params d.body d.scope pm cd doc)->s₁.heap.CodeRec cd d.name->mg d.name=some (.ref fa)->
   s₁.heap.get? a=some {cls:= .type "list",data:= .seq vs.toArray}->IntsAre vs ns->ns.length<=n->s₁.gens= #[]->
   codeAny (model l.prog w) callerA (.call (.ref fa) ⟨[.ref a],[]⟩) (λr s'=>r= .ok (.ret<|.bool true)/\OldK s₁.heap s'.heap/\s'.os=s₁.os/\AllBare s'.gens) s₁) :
  WalkO q loose XP YP l.row.toRowW d [] (λf vs=>PySem.call f vs):=by
 intro w s₀ s₁ mg mb G Y fa o pm cd doc dV kV ho hd hcd hD hmg hg args vals as hpre hlay hrd hwl hlo;obtain rfl:dV= .none:=Dflts.none hD hdf;obtain rfl:kV= .none:=Dflts.noKw hD;obtain⟨a,vs,ns,rfl,rfl,hobj,hints,hlen⟩:=cT0 hn hpre hwl;refine enter_call (a24 (call w s₀ s₁ mg mb fa o pm cd doc a vs ns G Y ho (fd_plain hd) hcd hmg hobj hints hlen hg) λr s' hq=> ?_)
 obtain⟨rfl,h2,h3,h4⟩:=hq;exact⟨.inl ⟨.bool true,.bool true,[],rfl,λ_=>rfl,.bool true,cT1 l _,λ_=>⟨List.Pairwise.nil,λ_ hm=>(nomatch hm)⟩⟩,h2,h3,h4⟩
end Att
namespace L2
theorem bO4: ∀{vs:List Value} {ns:List Int},IntsAre vs ns->Vals (ns.map V.int) vs
 | _,_,.nil=> .nil
 | _,_,.cons n t h=> .cons ⟨t,rfl⟩ (bO4 h)
def Only (H:Hp):Prop:= ∀b,H b=none\/ ∃o xs,H b=some (.frz o<|.lst xs)
theorem d17 {P:Program}{w:World}{K:PySem.W.Frag}{mg mb:Str->Option Value}{CX:CXT}{k:Nat}{fa a:Addr}{fd:FuncData}{x:Str}{sp:Sp}{s₁:Shared}{vs:List Value}{ns:List Int}
  (KX:K.In s₁.heap) (hns:s₁.heap.Ns mainGlobals mg) (hb:s₁.heap.Ns builtinsNs mb) (hbb: ∀x:Str,x≠"__name__"->mb x=bootBuiltins x) (hlim:s₁.heap.NoLimit) (hg:s₁.gens= #[])
  (ha:s₁.heap.get? a=some {cls:= .type "list",data:= .seq vs.toArray}) (hi:IntsAre vs ns) (hl:ns.length<=sizeLine) (hr:jB k callerA)
  (F: ∀base:Heap,K.In base->base.Ns mainGlobals mg->wS P w K mg base CX k fa fd [x] sp) (hbind: ∀(s:Shared) (u:Value),BindsTo s fd ⟨[u],[]⟩ [(x,u)])
  (hsp: ∀H:Hp,Only H->SqL K H a (ns.map V.int)->sp [.ref a] H (λv _=>v= .bl true) λ_ _ _=>False)
  (hCX: ∀H e s',CX [] H s₁ (λ_ _ _=>False) e s'->False) :
  codeAny (model P w) callerA (.call (.ref fa) ⟨[.ref a],[]⟩) (λr s'=>r= .ok (.ret<|.bool true)/\OldK s₁.heap s'.heap/\s'.os=s₁.os/\AllBare s'.gens) s₁:=by
 have rv:=bO4 hi;have lenV:=hi.length;have core: ∀H:Hp,Only H->SqL K H a (ns.map V.int)->HOk P w H s₁.heap->(∀b,H b≠none->b=a)->(H a≠none->K.lookup a=none)->
   codeAny (model P w) callerA (.call (.ref fa) ⟨[.ref a],[]⟩) (λr s'=>r= .ok (.ret<|.bool true)/\OldK s₁.heap s'.heap/\s'.os=s₁.os/\AllBare s'.gens) s₁:=by
  intro H hO hS hok hA hK;have xE: ∀{b:Addr} {o:Obj},s₁.heap.get? b=some o->H b=none->(bT6 s₁.heap H).get? b=some o:=λe n=>cZ0 e n
  have noA: ∀{b:Addr} {o:Obj} {es:Array DictEntry} {ep:Nat},s₁.heap.get? b=some o->o.data= .dict es ep->H b=none:=λ{b o es ep} e d=>by
   cases q:H b with
   | none=>rfl
   | some u=>
    have e':b=a:=hA b (by rw[q];simp)
    subst e';rw[ha]at e;cases e;have d':Data.seq vs.toArray _=Data.dict es ep:=d;cases d'
  have nsK: ∀{b:Addr} {m:Str->Option Value},s₁.heap.Ns b m->(bT6 s₁.heap H).Ns b m:=λ{b m} ⟨o,es,ep,e,d,r⟩=>⟨o,es,ep,xE e<|noA e d,d,r⟩
  have hKb:K.In (bT6 s₁.heap H):=λb o e=>xE (KX b o e) (by
   cases q:H b with
   | none=>rfl
   | some u=>
    have e':b=a:=hA b (by rw[q];simp)
    subst e';rw[hK (by rw[q];simp)]at e;cases e)
  have hM:Mod K mg (bT6 s₁.heap H):=⟨hKb,nsK hns,⟨mb,nsK hb,hbb⟩,let ⟨mc,h1,h2⟩:=hlim;⟨mc,nsK h1,h2⟩⟩;have e0:cE2 P w K mg (bT6 s₁.heap H) callerA [] s₁ H:=⟨rfl,hM,λb o e=>dH2 e,le_of_eq<|cS0 _ _,trivial,λb hb=>absurd (show b∈([]:List Addr)from hb) ae,hok,.of_eq hg⟩
  refine a24 ((F _ hKb<|nsK hns).run callerA [] s₁ H ⟨[.ref a],[]⟩ [.ref a] [.ref a] _ _ hr e0 (hbind s₁<|.ref a) (.cons rfl .nil)<|hsp H hO hS) λr s' h=> ?_
  cases r with
  | error e=>exact(hCX H e s' h).elim
  | ok fl=>
   cases fl with
   | next=>exact False.elim h
   | brk=>exact False.elim h
   | cont=>exact False.elim h
   | ret u=>
    obtain⟨v,H',os,bare,un,hok',r',q⟩:=h;have q':v= .bl true:=q;subst q';obtain rfl:u=Value.bool true:=r';refine⟨rfl,OldK.of_keep λb o e=> ?_,os,bare⟩
    cases q:H b with
    | none=>exact un.keep b o e q (by intro z;exact absurd (show b∈([]:List Addr)from z) ae) ae
    | some u=>
     rcases hO b with z| ⟨ob,xs,z⟩
     .rw[q]at z;cases z
     .have z2:=un.frzs b ob _ z;obtain⟨e1,_⟩:=hok b _ z;obtain⟨e2,_⟩:=hok' b _ z2;rw[e]at e1;cases e1;exact e2
 cases hk:K.lookup a with
 | some o=>
  have e:=KX a o hk;rw[ha]at e;cases e;refine core (λ_=>none) (λ_=> .inl rfl) (.inr ⟨_,vs.toArray,_,hk,rfl,rfl,rfl,by rw[b9,lenV];exact hl,by exists rv⟩) (λb u z=>by have z':(none:Option HO)=some u:=z;cases z') (λb z=>absurd rfl z) λz=>absurd rfl z
 | none=>
  refine core (λb=>if b=a then some (.frz {cls:= .type "list",data:= .seq vs.toArray}<|.lst<|ns.map V.int)else none) (λb=> ?_) (.inl<|.inr ⟨{cls:= .type "list",data:= .seq vs.toArray},a7 rfl⟩) (λb u z=> ?_) (λb z=> ?_) λ_=>hk
  .by_cases hb:b=a
   .exact .inr ⟨_,_,a7 hb⟩
   .exact .inl (a6 hb)
  .by_cases hb:b=a
   .have z':=(a7 hb).symm.trans z;cases z';subst hb;exact⟨ha,by rw[aF];exact hl,vs,_,rv,ha⟩
   .have z':=(a6 hb).symm.trans z;cases z'
  .by_cases hb:b=a
   .exact hb
   .exact absurd (a6 hb) z
theorem walk_of {l:PySem.W.OpenLaw}{XP:(Str->Option Value)->Heap->Prop}{d:DefRec}{K:Params->PySem.W.Frag}{CX:World->CXT}{sp:World->Sp}
  (hn:l.most=some n) (hn2:n<=sizeLine) (hdf:d.params.defaults=[]) (hr:jB k callerA)
  (hY: ∀(w:World) (h:Heap),YP w h->(K w.params).In h)
  (F: ∀(w:World) (mg:Str->Option Value) (fa:Addr) (h:Heap),(K w.params).In h->h.Ns mainGlobals mg->mg d.name=some (.ref fa)->
   ∃fd:FuncData,(∀(s:Shared) (u:Value),BindsTo s fd ⟨[u],[]⟩ [(x,u)])/\
    ∀base:Heap,(K w.params).In base->base.Ns mainGlobals mg->wS l.prog w (K w.params) mg base (CX w) k fa fd [x] (sp w))
  (hsp: ∀(w:World) (H:Hp) (a:Addr) (ns:List Int),ns.length<=n->Only H->SqL (K w.params) H a (ns.map V.int)->sp w [.ref a] H (λv _=>v= .bl true) λ_ _ _=>False)
  (hCX: ∀(w:World) (H:Hp) (s:Shared) (e:Value) (s':Shared),CX w [] H s (λ_ _ _=>False) e s'->False) :
  PySem.W.WalkO q loose XP YP l.row.toRowW d [] (λf vs=>PySem.call f vs):=by
 refine Att.attach_call hn hdf λw s₀ s₁ mg mb fa o pm cd doc a vs ns G Y ho hd hcd hmg hobj hints hlen hg=> ?_
 have KX:=hY w _ Y;obtain⟨fd,hb,hF⟩:=F w mg fa _ KX G.T.g hmg;exact d17 KX G.T.g G.T.b G.T.builtins G.T.nolimit hg hobj hints (aI hlen hn2) hr hF hb (λH hO hS=>hsp w H a ns hlen hO hS) λH e s'=>hCX w H s₁ e s'
def jX (s:Stmt):Arguments:=match s with
 | .FunctionDef _ a _ _ _ _ _ _ _ _=>a
 | _=>{posonlyargs:=[],args:=[],vararg:=none,kwonlyargs:=[],kw_defaults:=[],kwarg:=none,defaults:=[]}
def eX (s:Stmt):List Stmt:=match s with
 | .FunctionDef _ _ b _ _ _ _ _ _ _=>b
 | _=>[]
def aG (s:Stmt):Scope:=match s with
 | .FunctionDef _ _ _ _ _ _ sc _ _ _=>sc
 | _=>{kind:= .function,names:=[],isGenerator:=false,isCoroutine:=false}
abbrev CX0:CXT:=λ_ _ _ _ _ _=>False
abbrev E0:XK:=λ_ _ _=>False
structure Fun (K:PySem.W.Frag)(x qual:Str)(st:Stmt)(f:Addr)(fd:FuncData):Prop where
 ex: ∃(oc:Value) (od:Option Addr) (kV doc pm:Value) (an:Option Addr) (cdv ct:Value) (osl:Array (Option Value)),
  fd=fnOf x qual (jX st) (eX st) (aG st) .none kV doc pm an cdv ct/\K.lookup f=some ⟨oc,od,.func fd,osl⟩/\codeIn K cdv qual=true
 kp:keepIn K (.ref f)=true
section
variable {P:Program}{w:World}{K:PySem.W.Frag}{mg:Str->Option Value}{base:Heap}
theorem Fun.ok {ps:List Str}{sp:Sp}(F:Fun K x qual st f fd)(S:aY N ps (aG st))(len: ∀vs H Q E,sp vs H Q E->vs.length=ps.length)
  (hbody: ∀(cdv:Value) (A:Around) (outer:List Env) (s:Shared) (H:Hp) (vs:List V) (Q:VK) (E:XK),jB k (A.deeper<|envOfC qual (aG st) s.heap.objs.size f cdv)->sp vs H Q E->
   ∃t,PSs (vB CX0 P w K mg base N qual (aG st) f cdv A outer s H E).nox (eX st) t/\t {nx:=λ_ H'=>Q .non H',rt:=Q} (start N vs) H):wS P w K mg base CX0 (k+1) f fd ps sp:=by
 obtain⟨oc,od,kV,doc,pm,an,cdv,ct,osl,rfl,lk,hcd⟩:=F.ex;refine d11 lk hcd S len λA outer s H vs Q E hr hsp=> ?_
 obtain⟨t,h,q⟩:=hbody cdv A outer s H vs Q E hr hsp;exact⟨t,h.nox,q⟩
theorem Fun.binds {ps:List Str}(F:Fun K x qual st f fd)
  (h: ∀(kV doc pm:Value) (an:Option Addr) (cdv ct:Value) (us:List Value),us.length=ps.length->bindArgs (fnOf x qual (jX st) (eX st) (aG st) .none kV doc pm an cdv ct) ⟨us,[]⟩=pure (ps.zip us)):Binds K fd ps []:=by
 obtain⟨oc,od,kV,doc,pm,an,cdv,ct,osl,rfl,lk,hcd⟩:=F.ex;exact .all (h kV doc pm an cdv ct)
theorem aY2 {oc:Value}{an:Option Addr}{osl:Array (Option Value)}{kV doc pm cdv ct:Value}(l:K.lookup f=some ⟨oc,od,.func<|fnOf x qual (jX st) (eX st) (aG st) .none kV doc pm an cdv ct,osl⟩)
  (c:codeIn K cdv qual=true) (k:keepIn K (.ref f)=true):Fun K x qual st f (fnOf x qual (jX st) (eX st) (aG st) .none kV doc pm an cdv ct):=⟨⟨oc,od,kV,doc,pm,an,cdv,ct,osl,rfl,l,c⟩,k⟩
end
section
variable {X:Cx}
theorem pv (i:Nat)(hN:↥(X.N[i]? =some x))(hv:Vis X.env.scope x:=by first|exact Or.inl rfl|exact Or.inr (Or.inl rfl)|exact Or.inr (Or.inr rfl))(hd:⇑((x==("__debug__":Str))=false))
  (hcd:⇑((x==("__classdict__":Str))=false)):PE X (.Name x pos) (aG0 i):=pe_var hN hv hd hcd
end
def iV (H H':Hp):Prop:= ∀b o,H b=some o->H' b=some o
theorem iV.refl (H:Hp):iV H H:=λ_ _ h=>h
theorem iV.trans {H H1 H2:Hp}(a:iV H H1)(b:iV H1 H2):iV H H2:=λc o h=>b c o (a c o h)
theorem iV.free {H H':Hp}(e:iV H H')(h:H' l=Option.none):H l=Option.none:=by
 cases q:H l with
 | none=>rfl
 | some o=>
  rw[e l o q]at h;cases h
theorem iV.seq {H H':Hp}{xs:List V}(e:iV H H')(h:SqL K H a xs):SqL K H' a xs:=by
 rcases h with(h| ⟨o,h⟩)|h
 .exact .inl (.inl<|e _ _ h)
 .exact .inl (.inr ⟨o,e _ _ h⟩)
 .exact .inr h
end L2
namespace M
inductive D where
 | non|bl (b:Bool)|int (i:Int)|str (x:Str)|ty (n:String)
 | tup (l:List D)|lst (l:List D)|rol (l:List D)
 | obj (C:Addr) (ks:List Str) (l:List D)
 | adr (a:Addr)
 | xob (a d:Addr) (ks:List Str) (l:List D)
abbrev AS:=Addr->Prop
def KT (K:PySem.W.Frag)(a:Addr)(vs:List V):Prop:=
 ∃(o:Obj) (its:Array Value) (n:Nat),K.lookup a=some o/\o.cls= .type "tuple"/\o.data= .seq its n/\its.size<=sizeLine/\Vals vs its.toList
def KL (K:PySem.W.Frag)(a:Addr)(vs:List V):Prop:=
 ∃(o:Obj) (its:Array Value) (n:Nat),K.lookup a=some o/\o.cls= .type "list"/\o.dict=none/\o.data= .seq its n/\its.size<=sizeLine/\Vals vs its.toList
def OkC (K:PySem.W.Frag)(C:Addr)(ks:List Str):Prop:=Cls K C/\ ∀f∈ks,a94 K C f
mutual
def Rep (K:PySem.W.Frag)(A:AS)(H:Hp):D->V->Prop
 | .non,v=>v= .non
 | .bl b,v=>v= .bl b
 | .int i,v=>v= .int i
 | .str x,v=>v= .str x
 | .ty n,v=>v= .ty n
 | .tup l,v=> ∃a vs,v= .ref a/\((¬A a/\Rd H a (.tup vs))\/KT K a vs)/\cD K A H l vs
 | .lst l,v=> ∃a vs,v= .ref a/\ ¬A a/\H a=some (.lst vs)/\cD K A H l vs
 | .rol l,v=> ∃a vs,v= .ref a/\((¬A a/\Rd H a (.lst vs))\/KL K a vs)/\cD K A H l vs
 | .obj C ks l,v=> ∃a dx vs,v= .ref a/\ ¬A a/\H a=some (.ins C dx<|ks.zip vs)/\ks.length=vs.length/\cD K A H l vs/\OkC K C ks
 | .adr a,v=>v= .ref a
 | .xob a d ks l,v=> ∃vs,v= .ref a/\ ¬A d/\H d=some (.xd<|ks.zip vs)/\ks.length=vs.length/\cD K A H l vs
def cD (K:PySem.W.Frag)(A:AS)(H:Hp):List D->List V->Prop
 | [],vs=>vs=[]
 | d::ds,vs=> ∃v vr,vs=v::vr/\Rep K A H d v/\cD K A H ds vr
end
section
variable {K:PySem.W.Frag}{A A':AS}{H H':Hp}
def nE (A:AS)(H:Hp)(A':AS)(H':Hp):Prop:= ∀b o,¬A b->H b=some o-> ¬A' b/\H' b=some o
theorem Rd.pres (p:nE A H A' H'){u:HO}(n: ¬A a)(r:Rd H a u): ¬A' a/\Rd H' a u:=by
 rcases r with r| ⟨o,r⟩
 .exact⟨(p a _ n r).1,.inl (p a _ n r).2⟩
 .exact⟨(p a _ n r).1,.inr ⟨o,(p a _ n r).2⟩⟩
mutual
theorem Rep.mono (p:nE A H A' H'): ∀{d:D} {v:V},Rep K A H d v->Rep K A' H' d v
 | .non,_,h=>h
 | .bl _,_,h=>h
 | .int _,_,h=>h
 | .str _,_,h=>h
 | .ty _,_,h=>h
 | .tup l,v,h=>by
  simp only[Rep]at h⊢;obtain⟨a,vs,e,c,r⟩:=h;refine⟨a,vs,e,?_,cD.mono p r⟩;rcases c with⟨n,c⟩|c
  .exact .inl (Rd.pres p n c)
  .exact .inr c
 | .lst l,v,h=>by
  simp only[Rep]at h⊢;obtain⟨a,vs,e,n,c,r⟩:=h;exact⟨a,vs,e,(p a _ n c).1,(p a _ n c).2,cD.mono p r⟩
 | .rol l,v,h=>by
  simp only[Rep]at h⊢;obtain⟨a,vs,e,c,r⟩:=h;refine⟨a,vs,e,?_,cD.mono p r⟩;rcases c with⟨n,c⟩|c
  .exact .inl (Rd.pres p n c)
  .exact .inr c
 | .obj C ks l,v,h=>by
  simp only[Rep]at h⊢;obtain⟨a,dx,vs,e,n,c,hl,r,ok⟩:=h;exact⟨a,dx,vs,e,(p a _ n c).1,(p a _ n c).2,hl,cD.mono p r,ok⟩
 | .adr _,_,h=>h
 | .xob a d ks l,v,h=>by
  simp only[Rep]at h⊢;obtain⟨vs,e,n,c,hl,r⟩:=h;exact⟨vs,e,(p d _ n c).1,(p d _ n c).2,hl,cD.mono p r⟩
theorem cD.mono (p:nE A H A' H'): ∀{l:List D} {vs:List V},cD K A H l vs->cD K A' H' l vs
 | [],_,h=>by simp only[cD]at h ⊢; exact h
 | d::ds,vs,h=>by
  simp only[cD]at h⊢;obtain⟨v,vr,e,r,rs⟩:=h;exact⟨v,vr,e,Rep.mono p r,cD.mono p rs⟩
end
theorem cD.length: ∀{l:List D} {vs:List V},cD K A H l vs->l.length=vs.length
 | [],_,h=>by simp only[cD]at h;subst h;rfl
 | d::ds,vs,h=>by
  simp only[cD]at h;obtain⟨v,vr,rfl,_,rs⟩:=h;simp only[jP,cD.length rs]
theorem cD.nil:cD K A H [] []:=by simp only[cD]
theorem cD.cons {d:D}{v:V}{l:List D}{vs:List V}(r:Rep K A H d v)(rs:cD K A H l vs):cD K A H (d::l) (v::vs):=by
 simp only[cD];exact⟨v,vs,rfl,r,rs⟩
theorem cD.uncons {d:D}{l:List D}{vs:List V}(h:cD K A H (d::l) vs): ∃v vr,vs=v::vr/\Rep K A H d v/\cD K A H l vr:=by
 simpa only[cD]using h
theorem cD.unnil {vs:List V}(h:cD K A H [] vs):vs=[]:=by simpa only[cD]using h
theorem cD.append: ∀{l m:List D} {vs ws:List V},cD K A H l vs->cD K A H m ws->cD K A H (l++m) (vs++ws)
 | [],_,_,_,h,g=>by rw[h.unnil];exact g
 | d::l,m,vs,ws,h,g=>by
  obtain⟨v,vr,rfl,r,rs⟩:=h.uncons;exact .cons r (cD.append rs g)
theorem cD.get: ∀{l:List D} {vs:List V} {i:Nat} {d:D},cD K A H l vs->l[i]? =some d-> ∃v,vs[i]? =some v/\Rep K A H d v
 | [],_,_,_,_,e=>by simp at e
 | d::l,vs,0,d',h,e=>by
  obtain⟨v,vr,rfl,r,rs⟩:=h.uncons;simp at e;subst e;exact⟨v,ae,r⟩
 | d::l,vs,i+1,d',h,e=>by
  obtain⟨v,vr,rfl,r,rs⟩:=h.uncons;obtain⟨w,h1,h2⟩:=cD.get (i:=i) rs (by exists e)
  exact⟨w,by simpa using h1,h2⟩
theorem cD.set: ∀{l:List D} {vs:List V} {d:D} {v:V} (i:Nat),cD K A H l vs->Rep K A H d v->cD K A H (l.set i d) (vs.set i v)
 | [],_,_,_,_,h,_=>by rw[h.unnil];exact .nil
 | d'::l,vs,d,v,0,h,g=>by
  obtain⟨w,vr,rfl,r,rs⟩:=h.uncons;exact .cons g rs
 | d'::l,vs,d,v,i+1,h,g=>by
  obtain⟨w,vr,rfl,r,rs⟩:=h.uncons;exact .cons r (cD.set i rs g)
theorem cD.drop: ∀{l:List D} {vs:List V} (n:Nat),cD K A H l vs->cD K A H (l.drop n) (vs.drop n)
 | _,_,0,h=>h
 | [],_,n+1,h=>by rw[h.unnil];exact .nil
 | d::l,vs,n+1,h=>by
  obtain⟨v,vr,rfl,r,rs⟩:=h.uncons;exact cD.drop n rs
theorem cD.take: ∀{l:List D} {vs:List V} (n:Nat),cD K A H l vs->cD K A H (l.take n) (vs.take n)
 | _,_,0,h=>by simp only[List.take_zero];exact .nil
 | [],_,n+1,h=>by rw[h.unnil];exact .nil
 | d::l,vs,n+1,h=>by
  obtain⟨v,vr,rfl,r,rs⟩:=h.uncons;exact .cons r (cD.take n rs)
theorem cD.rep {l:List D}{vs:List V}(h:cD K A H l vs): ∀k:Nat,cD K A H (replicate k l).flatten (replicate k vs).flatten
 | 0=> .nil
 | k+1=>by
  rw[kI,kI,nZ,nZ];exact .append h (h.rep k)
theorem nE.same (s:iV H H'):nE A H A H':=λb o n e=>⟨n,s b o e⟩
theorem nE.sub (s:iV H H')(h: ∀a,A' a->A a):nE A H A' H':=λb o n e=>⟨λq=>n (h b q),s b o e⟩
theorem nE.fresh (s:iV H H')(n:H a=none):nE A H (λb=>A b\/b=a) H':=λb o nb e=>
 ⟨λq=>q.elim nb λz=>(by subst z;rw[n]at e;cases e),s b o e⟩
theorem nE.upd {a:Addr}{o:HO}(h:A a):nE A H A (upd H a o):=λb o' nb e=>⟨nb,by rw[cW λz=>nb (by subst z;exact h)];exact e⟩
end
inductive B where
 | pu (d:D)|ow (l:List D)|bo (l:List D)
noncomputable def B.d:B->D
 | .pu d=>d
 | .ow l=> .lst l
 | .bo l=> .lst l
abbrev Ev:=List (Option B)
def Own (ρ:Ev)(σ:L2.St):AS:=λa=> ∃(i:Nat) (l:List D),ρ[i]? =some (some<|.ow l)/\σ[i]? =some (some<|.ref a)
structure C0 where
 H0:Hp
 A0:AS
def Av (C:C0)(ρ:Ev)(σ:L2.St):AS:=λa=>C.A0 a\/Own ρ σ a
structure EOk (K:PySem.W.Frag)(C:C0)(ρ:Ev)(σ:L2.St)(H:Hp):Prop where
 len:ρ.length=σ.length
 pu: ∀(i:Nat) (d:D),ρ[i]? =some (some<|.pu d)-> ∃v,σ[i]? =some (some v)/\Rep K (Av C ρ σ) H d v
 ow: ∀(i:Nat) (l:List D),ρ[i]? =some (some<|.ow l)-> ∃a vs,σ[i]? =some (some<|.ref a)/\H a=some (.lst vs)/\C.H0 a=none/\cD K (Av C ρ σ) H l vs
 inj: ∀(i j:Nat) (l l':List D) (a:Addr),ρ[i]? =some (some<|.ow l)->ρ[j]? =some (some<|.ow l')->σ[i]? =some (some<|.ref a)->σ[j]? =some (some<|.ref a)->i=j
 bo: ∀(i:Nat) (l:List D),ρ[i]? =some (some<|.bo l)-> ∃a vs,σ[i]? =some (some<|.ref a)/\C.A0 a/\C.H0 a=some (.lst vs)/\cD K (Av C ρ σ) H l vs
 ext:iV C.H0 H
 a0: ∀a,C.A0 a->C.H0 a≠none
section
variable {K:PySem.W.Frag}{C:C0}{ρ ρ':Ev}{σ σ':L2.St}{H H':Hp}
theorem EOk.avSome (I:EOk K C ρ σ H)(h:Av C ρ σ a):H a≠none:=by
 rcases h with h| ⟨i,l,h1,h2⟩
 .intro z;cases e:C.H0 a with
  | none=>exact I.a0 a h e
  | some o=>rw[I.ext a o e]at z;cases z
 .obtain⟨b,vs,h3,h4,_⟩:=I.ow i l h1;rw[h2]at h3;cases h3;rw[h4];simp
theorem EOk.same (I:EOk K C ρ σ H)(s:iV H H'):EOk K C ρ σ H' where
 len:=I.len
 pu:=λi d h=>let ⟨v,h1,h2⟩:=I.pu i d h;⟨v,h1,h2.mono<|.same s⟩
 ow:=λi l h=>let ⟨a,vs,h1,h2,h3,h4⟩:=I.ow i l h;⟨a,vs,h1,s _ _ h2,h3,h4.mono<|.same s⟩
 inj:=I.inj
 bo:=λi l h=>let ⟨a,vs,h1,h2,h3,h4⟩:=I.bo i l h;⟨a,vs,h1,h2,h3,h4.mono<|.same s⟩
 ext:=I.ext.trans s
 a0:=I.a0
theorem get_set_ne {l:List α}{x:α}(h:i≠j):(l.set i x)[j]? =l[j]? :=by
 rw[aL8];simp[h]
theorem jS {l:List α}{x:α}(h:i<l.length):(l.set i x)[i]? =some x:=by
 rw[aL8];simp[h]
theorem b6 {l:List α}{x y:α}(h:(l.set i x)[j]? =some y):(i=j/\y=x/\i<l.length)\/(i≠j/\l[j]? =some y):=by
 by_cases e:i=j
 .subst e;rw[aL8]at h
  by_cases hl:i<l.length
  .simp[hl]at h;exact .inl ⟨rfl,h.symm,hl⟩
  .simp[hl]at h
 .exact .inr ⟨e,by rw[get_set_ne e]at h;exact h⟩
def rK (K:PySem.W.Frag)(A:AS)(H H':Hp):B->V->Prop
 | .pu d,v=>Rep K A H' d v
 | .ow l,v=> ∃a vs,v= .ref a/\H a=none/\H' a=some (.lst vs)/\cD K (λb=>A b\/b=a) H' l vs
 | .bo _,_=>False
theorem rK.rep {A:AS}(hA: ∀a,A a->H a≠none): ∀{b:B} {v:V},rK K A H H' b v->Rep K A H' b.d v
 | .pu d,v,h=>h
 | .ow l,v,h=>by
  obtain⟨a,vs,e,n,h1,r⟩:=h;show Rep K A H' (.lst l) v;simp only[Rep];exact⟨a,vs,e,λz=>hA a z n,h1,r.mono λb o nb q=>⟨λz=>nb (.inl z),q⟩⟩
 | .bo l,v,h=>h.elim
theorem EOk.store (I:EOk K C ρ σ H){b:B}{v:V}{H1:Hp}(s:iV H H1)(r:rK K (Av C ρ σ) H H1 b v)(hi:i<σ.length):EOk K C (ρ.set i<|some b) (σ.set i<|some v) H1:=by
 have I1:=I.same s;have hir:i<ρ.length:=by rw[I.len];exact hi
 cases b with
 | pu d=>
  have sub: ∀a,Av C (ρ.set i<|some<|.pu d) (σ.set i<|some v) a->Av C ρ σ a:=by
   rintro a (z| ⟨j,l,h1,h2⟩)
   .exact .inl z
   .rcases b6 h1 with⟨rfl,h3,_⟩| ⟨ne,h3⟩
    .cases h3
    .rw[get_set_ne ne]at h2;exact .inr ⟨j,l,h3,h2⟩
  refine⟨by rw[fY,fY];exact I.len,?_,?_,?_,?_,I1.ext,I.a0⟩
  rotate_right
  .intro j l h;rcases b6 h with⟨rfl,h3,_⟩| ⟨ne,h3⟩
   .cases h3
   .obtain⟨a,vs,h4,h5,h6,h7⟩:=I1.bo j l h3;exact⟨a,vs,by rw[get_set_ne ne];exact h4,h5,h6,h7.mono<|.sub (.refl _) sub⟩
  .intro j d' h;rcases b6 h with⟨rfl,h3,_⟩| ⟨ne,h3⟩
   .cases h3;exact⟨v,jS hi,Rep.mono (.sub (.refl _) sub) r⟩
   .obtain⟨v',h4,h5⟩:=I1.pu j d' h3;exact⟨v',by rw[get_set_ne ne];exact h4,h5.mono<|.sub (.refl _) sub⟩
  .intro j l h;rcases b6 h with⟨rfl,h3,_⟩| ⟨ne,h3⟩
   .cases h3
   .obtain⟨a,vs,h4,h5,h6,h7⟩:=I1.ow j l h3;exact⟨a,vs,by rw[get_set_ne ne];exact h4,h5,h6,h7.mono<|.sub (.refl _) sub⟩
  .intro j k l l' a h1 h2 h3 h4;rcases b6 h1 with⟨rfl,z,_⟩| ⟨ne,z⟩
   .cases z
   .rcases b6 h2 with⟨rfl,z',_⟩| ⟨ne',z'⟩
    .cases z'
    .rw[get_set_ne ne]at h3;rw[get_set_ne ne']at h4;exact I.inj j k l l' a z z' h3 h4
 | ow l0=>
  obtain⟨a0,vs0,rfl,n0,e0,r0⟩:=r;have sub: ∀a,Av C (ρ.set i<|some<|.ow l0) (σ.set i<|some<|.ref a0) a->Av C ρ σ a\/a=a0:=by
   rintro a (z| ⟨j,l,h1,h2⟩)
   .exact .inl (.inl z)
   .rcases b6 h1 with⟨rfl,h3,_⟩| ⟨ne,h3⟩
    .rw[jS hi]at h2;cases h2;exact .inr rfl
    .rw[get_set_ne ne]at h2;exact .inl (.inr ⟨j,l,h3,h2⟩)
  have P:nE (Av C ρ σ) H (Av C (ρ.set i<|some<|.ow l0)<|σ.set i<|some<|.ref a0) H1:=λb o nb e=>
   ⟨λq=>(sub b q).elim nb λz=>(by subst z;rw[n0]at e;cases e),s b o e⟩
  refine⟨by rw[fY,fY];exact I.len,?_,?_,?_,?_,I1.ext,I.a0⟩
  rotate_right
  .intro j l h;rcases b6 h with⟨rfl,h3,_⟩| ⟨ne,h3⟩
   .cases h3
   .obtain⟨a,vs,h4,h5,h6,h7⟩:=I.bo j l h3;exact⟨a,vs,by rw[get_set_ne ne];exact h4,h5,h6,h7.mono P⟩
  .intro j d' h;rcases b6 h with⟨rfl,h3,_⟩| ⟨ne,h3⟩
   .cases h3
   .obtain⟨v',h4,h5⟩:=I.pu j d' h3;exact⟨v',by rw[get_set_ne ne];exact h4,h5.mono P⟩
  .intro j l h;rcases b6 h with⟨rfl,h3,_⟩| ⟨ne,h3⟩
   .cases h3;refine⟨a0,vs0,jS hi,e0,?_,r0.mono λb o nb q=>⟨λz=>nb (sub b z),q⟩⟩
    cases e:C.H0 a0 with
    | none=>rfl
    | some o=>rw[I.ext _ _ e]at n0;cases n0
   .obtain⟨a,vs,h4,h5,h6,h7⟩:=I.ow j l h3;exact⟨a,vs,by rw[get_set_ne ne];exact h4,s _ _ h5,h6,h7.mono P⟩
  .intro j k l l' a h1 h2 h3 h4;have old: ∀{j:Nat} {l:List D},ρ[j]? =some (some<|.ow l)->σ[j]? ≠some (some<|.ref a0):=λ{j l} h z=>by
    obtain⟨b,vs,h4,h5,_⟩:=I.ow j l h;rw[z]at h4;cases h4;rw[n0]at h5;cases h5
   rcases b6 h1 with⟨rfl,z,_⟩| ⟨ne,z⟩
   .rw[jS hi]at h3;cases h3;rcases b6 h2 with⟨rfl,z',_⟩| ⟨ne',z'⟩
    .rfl
    .rw[get_set_ne ne']at h4;exact absurd h4 (old z')
   .rw[get_set_ne ne]at h3;rcases b6 h2 with⟨rfl,z',_⟩| ⟨ne',z'⟩
    .rw[jS hi]at h4;cases h4;exact absurd h3 (old z)
    .rw[get_set_ne ne']at h4;exact I.inj j k l l' a z z' h3 h4
 | bo l0=>exact r.elim
theorem EOk.freeze (I:EOk K C ρ σ H){l:List D}(h:ρ[i]? =some (some<|.ow l)) :
  EOk K C (ρ.set i<|some<|.pu<|.lst l) σ H/\(∀a,Own (ρ.set i<|some<|.pu<|.lst l) σ a->Own ρ σ a)/\ ∃v,σ[i]? =some (some v)/\Rep K (Av C (ρ.set i<|some<|.pu<|.lst l) σ) H (.lst l) v:=by
 have sub: ∀a,Own (ρ.set i<|some<|.pu<|.lst l) σ a->Own ρ σ a:=by
  rintro a ⟨j,l',h1,h2⟩;rcases b6 h1 with⟨rfl,h3,_⟩| ⟨ne,h3⟩
  .cases h3
  .exact⟨j,l',h3,h2⟩
 have subA: ∀a,Av C (ρ.set i<|some<|.pu<|.lst l) σ a->Av C ρ σ a:=λa z=>z.imp id (sub a)
 obtain⟨a,vs,h1,h2,h3,h4⟩:=I.ow i l h;have na: ¬Av C (ρ.set i<|some<|.pu<|.lst l) σ a:=by
  rintro(z| ⟨j,l',g1,g2⟩)
  .exact I.a0 a z h3
  .rcases b6 g1 with⟨rfl,g3,_⟩| ⟨ne,g3⟩
   .cases g3
   .exact ne (I.inj i j l l' a h g3 h1 g2)
 have R:Rep K (Av C (ρ.set i<|some<|.pu<|.lst l) σ) H (.lst l) (.ref a):=by
  simp only[Rep];exact⟨a,vs,rfl,na,h2,h4.mono<|.sub (.refl _) subA⟩
 refine⟨⟨by rw[fY];exact I.len,?_,?_,?_,?_,I.ext,I.a0⟩,sub,.ref a,h1,R⟩
 rotate_right
 .intro j l' g;rcases b6 g with⟨rfl,g3,_⟩| ⟨ne,g3⟩
  .cases g3
  .obtain⟨a',vs',g4,g5,g6,g7⟩:=I.bo j l' g3;exact⟨a',vs',g4,g5,g6,g7.mono<|.sub (.refl _) subA⟩
 .intro j d' g;rcases b6 g with⟨rfl,g3,_⟩| ⟨ne,g3⟩
  .cases g3;exact⟨_,h1,R⟩
  .obtain⟨v',g4,g5⟩:=I.pu j d' g3;exact⟨v',g4,g5.mono<|.sub (.refl _) subA⟩
 .intro j l' g;rcases b6 g with⟨rfl,g3,_⟩| ⟨ne,g3⟩
  .cases g3
  .obtain⟨a',vs',g4,g5,g6,g7⟩:=I.ow j l' g3;exact⟨a',vs',g4,g5,g6,g7.mono<|.sub (.refl _) subA⟩
 .intro j k l1 l2 a' g1 g2 g3 g4;rcases b6 g1 with⟨rfl,z,_⟩| ⟨ne,z⟩
  .cases z
  .rcases b6 g2 with⟨rfl,z',_⟩| ⟨ne',z'⟩
   .cases z'
   .exact I.inj j k l1 l2 a' z z' g3 g4
theorem EOk.write (I:EOk K C ρ σ H){l l':List D}{vs':List V}(h:ρ[i]? =some (some<|.ow l))(hs:σ[i]? =some (some<|.ref a))(r:cD K (Av C ρ σ) H l' vs') :
  EOk K C (ρ.set i<|some<|.ow l') σ (upd H a<|.lst vs'):=by
 have hi:i<ρ.length:=(kG.mp h).1;have sub: ∀b,Av C (ρ.set i<|some<|.ow l') σ b->Av C ρ σ b:=by
  rintro b (z| ⟨j,l2,h1,h2⟩)
  .exact .inl z
  .rcases b6 h1 with⟨rfl,h3,_⟩| ⟨ne,h3⟩
   .exact .inr ⟨i,l,h,h2⟩
   .exact .inr ⟨j,l2,h3,h2⟩
 have own:Av C ρ σ a:= .inr ⟨i,l,h,hs⟩;have P:nE (Av C ρ σ) H (Av C (ρ.set i<|some<|.ow l') σ) (upd H a<|.lst vs'):=λb o nb e=>⟨λz=>nb (sub b z),(nE.upd own b o nb e).2⟩
 obtain⟨a1,vs,h1,h2,h3,h4⟩:=I.ow i l h;rw[hs]at h1;cases h1;refine⟨by rw[fY];exact I.len,?_,?_,?_,?_,?_,I.a0⟩
 rotate_left 3
 .intro j l2 g;rcases b6 g with⟨rfl,g3,_⟩| ⟨ne,g3⟩
  .cases g3
  .obtain⟨a',vs',g4,g5,g6,g7⟩:=I.bo j l2 g3;exact⟨a',vs',g4,g5,g6,g7.mono P⟩
 rotate_left 1
 .intro j d' g;rcases b6 g with⟨rfl,g3,_⟩| ⟨ne,g3⟩
  .cases g3
  .obtain⟨v',g4,g5⟩:=I.pu j d' g3;exact⟨v',g4,g5.mono P⟩
 .intro j l2 g;rcases b6 g with⟨rfl,g3,_⟩| ⟨ne,g3⟩
  .cases g3;exact⟨a,vs',hs,jH,h3,r.mono P⟩
  .obtain⟨a',vs2,g4,g5,g6,g7⟩:=I.ow j l2 g3;refine⟨a',vs2,g4,?_,g6,g7.mono P⟩;rw[cW λz=> ?_]
   .exact g5
   .subst z;exact ne (I.inj i j l l2 a' h g3 hs g4)
 .intro j k l1 l2 a' g1 g2 g3 g4;have old: ∀{j:Nat} {l1:List D},(ρ.set i<|some<|.ow l')[j]? =some (some<|.ow l1)-> ∃l3,ρ[j]? =some (some<|.ow l3):=λ{j l1} g=>by
   rcases b6 g with⟨rfl,z,_⟩| ⟨ne,z⟩
   .exact⟨l,h⟩
   .exact⟨l1,z⟩
  obtain⟨_,q1⟩:=old g1;obtain⟨_,q2⟩:=old g2;exact I.inj j k _ _ a' q1 q2 g3 g4
 .intro b o e;rw[cW λz=> ?_]
  .exact I.ext b o e
  .subst z;rw[h3]at e;cases e
noncomputable def C0.raise (C:C0)(ρ:Ev)(σ:L2.St)(H:Hp)(D:(a:Addr)->Decidable (Own ρ σ a)):C0:=⟨λb=> @ite _ (Own ρ σ b) (D b) none (H b),C.A0⟩
open Classical in
theorem EOk.raise (I:EOk K C ρ σ H):EOk K (C.raise ρ σ H λ_=>inferInstance) ρ σ H/\iV C.H0 (C.raise ρ σ H λ_=>inferInstance).H0:=by
 have e1: ∀b,Own ρ σ b->(C.raise ρ σ H λ_=>inferInstance).H0 b=none:=λb h=>a7 h
 have e2: ∀b,¬Own ρ σ b->(C.raise ρ σ H λ_=>inferInstance).H0 b=H b:=λb h=>a6 h
 have no: ∀b o,C.H0 b=some o-> ¬Own ρ σ b:=λb o e ⟨i,l,h1,h2⟩=>by
  obtain⟨a,vs,h3,h4,h5,_⟩:=I.ow i l h1;rw[h2]at h3;cases h3;rw[h5]at e;cases e
 have s1:iV C.H0 (C.raise ρ σ H λ_=>inferInstance).H0:=λb o e=>by rw[e2 b<|no b o e];exact I.ext b o e
 refine⟨⟨I.len,I.pu,λi l h=> ?_,I.inj,λi l h=> ?_,λb o e=> ?_,λa h z=> ?_⟩,s1⟩
 .obtain⟨a,vs,h3,h4,h5,h6⟩:=I.ow i l h;exact⟨a,vs,h3,h4,e1 a ⟨i,l,h,h3⟩,h6⟩
 .obtain⟨a,vs,h3,h4,h5,h6⟩:=I.bo i l h;exact⟨a,vs,h3,h4,s1 _ _ h5,h6⟩
 .by_cases q:Own ρ σ b
  .rw[e1 b q]at e;cases e
  .rw[e2 b q]at e;exact e
 .cases e:C.H0 a with
  | none=>exact I.a0 a h e
  | some o=>rw[s1 a o e]at z;cases z
theorem EOk.lower {C C':C0}(I:EOk K C' ρ σ H)(s:iV C.H0 C'.H0)(e:C'.A0=C.A0)(ha: ∀a,C.A0 a->C.H0 a≠none):EOk K C ρ σ H:=by
 obtain⟨H0',A0'⟩:=C';obtain⟨H0,A0⟩:=C;have e':A0'=A0:=e;subst e';refine⟨I.len,I.pu,λi l h=> ?_,I.inj,λi l h=> ?_,s.trans I.ext,ha⟩
 .obtain⟨a,vs,h3,h4,h5,h6⟩:=I.ow i l h;exact⟨a,vs,h3,h4,s.free h5,h6⟩
 .obtain⟨a,vs,h3,h4,h5,h6⟩:=I.bo i l h;refine⟨a,vs,h3,h4,?_,h6⟩;cases e:H0 a with
  | none=>exact absurd e (ha a h4)
  | some o=>
   have:=s a o e;have h5':H0' a=some (.lst vs):=h5;have this':H0' a=some o:=this;rw[h5']at this';cases this';exact e
end
def Frz (ρ ρ':Ev):Prop:=ρ'.length=ρ.length/\ ∀i:Nat,ρ'[i]? =ρ[i]? \/ ∃l:List D,ρ[i]? =some (some<|.ow l)/\ρ'[i]? =some (some<|.pu<|.lst l)
theorem Frz.refl (ρ:Ev):Frz ρ ρ:=⟨rfl,λ_=> .inl rfl⟩
theorem Frz.trans {a b c:Ev}(h:Frz a b)(g:Frz b c):Frz a c:=by
 refine⟨g.1.trans h.1,λi=> ?_⟩
 rcases g.2 i with e| ⟨l,e1,e2⟩
 .rcases h.2 i with e'| ⟨l,e1,e2⟩
  .exact .inl (e.trans e')
  .exact .inr ⟨l,e1,e.trans e2⟩
 .rcases h.2 i with e'| ⟨l',e3,e4⟩
  .exact .inr ⟨l,e'▸e1,e2⟩
  .rw[e4]at e1;cases e1
theorem Frz.own {ρ ρ':Ev}{σ:L2.St}(f:Frz ρ ρ')(h:Own ρ' σ a):Own ρ σ a:=by
 obtain⟨i,l,h1,h2⟩:=h;rcases f.2 i with e| ⟨l',_,e2⟩
 .exact⟨i,l,e▸h1,h2⟩
 .rw[e2]at h1;cases h1
theorem Frz.set {ρ:Ev}{l:List D}(h:ρ[i]? =some (some<|.ow l)):Frz ρ (ρ.set i<|some<|.pu<|.lst l):=by
 refine⟨fY,λj=> ?_⟩
 by_cases e:i=j
 .subst e;exact .inr ⟨l,h,jS (kG.mp h).1⟩
 .exact .inl (get_set_ne e)
section
variable {K:PySem.W.Frag}{C:C0}{ρ ρ':Ev}{σ:L2.St}{H H':Hp}
theorem Frz.av (f:Frz ρ ρ')(h:Av C ρ' σ a):Av C ρ σ a:=h.imp id f.own
theorem EOk.frz (I:EOk K C ρ σ H)(f:Frz ρ ρ'):EOk K C ρ' σ H:=by
 have ow': ∀{j:Nat} {l:List D},ρ'[j]? =some (some<|.ow l)->ρ[j]? =some (some<|.ow l):=λ{j l} h=>by
  rcases f.2 j with e| ⟨l',_,e2⟩
  .exact e▸h
  .rw[e2]at h;cases h
 refine⟨by rw[f.1];exact I.len,λi d h=> ?_,λi l h=> ?_,λi j l l' a h1 h2=>I.inj i j l l' a (ow' h1) (ow' h2),λi l h=> ?_,I.ext,I.a0⟩
 .rcases f.2 i with e| ⟨l,e1,e2⟩
  .obtain⟨v,h1,h2⟩:=I.pu i d (e▸h);exact⟨v,h1,h2.mono<|.sub (.refl _) λa=>f.av⟩
  .rw[e2]at h;cases h;obtain⟨a,vs,h1,h2,h3,h4⟩:=I.ow i l e1;refine⟨.ref a,h1,?_⟩;simp only[Rep];refine⟨a,vs,rfl,?_,h2,h4.mono<|.sub (.refl _) λa=>f.av⟩
   rintro(z| ⟨j,l',g1,g2⟩)
   .exact I.a0 a z h3
   .have:=I.inj i j l l' a e1 (ow' g1) h1 g2;subst this;rw[e2]at g1;cases g1
 .obtain⟨a,vs,h1,h2,h3,h4⟩:=I.ow i l (ow' h);exact⟨a,vs,h1,h2,h3,h4.mono<|.sub (.refl _) λa=>f.av⟩
 .have h':ρ[i]? =some (some<|.bo l):=by
   rcases f.2 i with e| ⟨l',_,e2⟩
   .exact e▸h
   .rw[e2]at h;cases h
  obtain⟨a,vs,h1,h2,h3,h4⟩:=I.bo i l h';exact⟨a,vs,h1,h2,h3,h4.mono<|.sub (.refl _) λa=>f.av⟩
end
abbrev UE:=Ev->(B->Ev->Prop)->Prop
abbrev UV:=Ev->(D->Ev->Prop)->Prop
abbrev UA:=Ev->(List D->Ev->Prop)->Prop
abbrev UT:=Ev->(Bool->Ev->Prop)->Prop
def lE (K:PySem.W.Frag)(t:UE):TE:=λσ H Q=> ∃C ρ Q0,EOk K C ρ σ H/\t ρ Q0/\
 ∀b ρ' v H',Q0 b ρ'->Frz ρ ρ'->iV H H'->rK K (Av C ρ' σ) H H' b v->Q v H'
def lA (K:PySem.W.Frag)(t:UA):TA:=λσ H Q=> ∃C ρ Q0,EOk K C ρ σ H/\t ρ Q0/\
 ∀ds ρ' vs H',Q0 ds ρ'->Frz ρ ρ'->iV H H'->cD K (Av C ρ' σ) H' ds vs->Q vs H'
def lT (K:PySem.W.Frag)(t:UT):TT:=λσ H Q=> ∃C ρ Q0,EOk K C ρ σ H/\t ρ Q0/\
 ∀b ρ' H',Q0 b ρ'->Frz ρ ρ'->iV H H'->Q b H'
def cE6 (K:PySem.W.Frag)(A:AS)(H:Hp):D->V->Prop
 | .tup l,v=> ∃a vs,v= .ref a/\SqT K H a vs/\cD K A H l vs
 | .lst l,v=> ∃a vs,v= .ref a/\H a=some (.lst vs)/\cD K A H l vs
 | .rol l,v=> ∃a vs,v= .ref a/\SqL K H a vs/\cD K A H l vs
 | d,v=>Rep K A H d v
def lV (K:PySem.W.Frag)(t:UV):TE:=λσ H Q=> ∃C ρ Q0,EOk K C ρ σ H/\t ρ Q0/\
 ∀d ρ' v H',Q0 d ρ'->Frz ρ ρ'->iV H H'->cE6 K (Av C ρ' σ) H' d v->Q v H'
def PU (X:Cx)(e:Expr)(t:UE):Prop:=PE X e (lE X.K t)
def PUV (X:Cx)(e:Expr)(t:UV):Prop:=PE X e (lV X.K t)
def PUA (X:Cx)(es:List Expr)(t:UA):Prop:=PA X es (lA X.K t)
def PUT (X:Cx)(e:Expr)(t:UT):Prop:=PT X e (lT X.K t)
def PUW (X:Cx)(e:Expr)(t:UT):Prop:=PW X e (lT X.K t)
section
variable {K:PySem.W.Frag}{A:AS}{H:Hp}
theorem Rep.one: ∀{d:D} {v:V},Rep K A H d v->cE6 K A H d v
 | .non,_,h=>h
 | .bl _,_,h=>h
 | .int _,_,h=>h
 | .str _,_,h=>h
 | .ty _,_,h=>h
 | .tup l,v,h=>by
  simp only[Rep]at h;obtain⟨a,vs,e,c,r⟩:=h;exact⟨a,vs,e,c.imp d7 id,r⟩
 | .lst l,v,h=>by
  simp only[Rep]at h;obtain⟨a,vs,e,n,c,r⟩:=h;exact⟨a,vs,e,c,r⟩
 | .rol l,v,h=>by
  simp only[Rep]at h;obtain⟨a,vs,e,c,r⟩:=h;exact⟨a,vs,e,c.imp d7 id,r⟩
 | .obj _ _ _,_,h=>h
 | .adr _,_,h=>h
 | .xob _ _ _ _,_,h=>h
end
theorem k6 {X:Cx}{t t':TE}(h:PE X e t)(i: ∀σ H Q,t' σ H Q->t σ H Q):PE X e t':=λpins s σ H Q I q=>h pins s σ H Q I (i σ H Q q)
theorem dT0 {X:Cx}{t t':TA}(h:PA X es t)(i: ∀σ H Q,t' σ H Q->t σ H Q):PA X es t':=λpos pins s σ H Q I q=>h pos pins s σ H Q I (i σ H Q q)
theorem c37 {X:Cx}{t t':TT}(h:PT X e t)(i: ∀σ H Q,t' σ H Q->t σ H Q):PT X e t':=λpins s σ H Q I q=>h pins s σ H Q I (i σ H Q q)
theorem dT1 {X:Cx}{t t':TT}(h:PW X e t)(i: ∀σ H Q,t' σ H Q->t σ H Q):PW X e t':=λw pins s σ H Q I q=>h w pins s σ H Q I (i σ H Q q)
section
variable {X:Cx}{a b c e o:Expr}{es tY:List Expr}{pos:Pos}{ta tb tc:UE}
def uC (d:D):UE:=λρ Q=>Q (.pu d) ρ
theorem aC {i j pos}:PU X (.Constant (.int i) j pos) (uC<|.int i):=k6 pe_int λσ H Q ⟨C,ρ,Q0,I,h,k⟩=>k _ ρ _ H h (.refl _) (.refl _) (show Rep _ _ _ _ _ by simp only[Rep])
theorem lW {b j pos}:PU X (.Constant (.bool b) j pos) (uC<|.bl b):=k6 pe_bl λσ H Q ⟨C,ρ,Q0,I,h,k⟩=>k _ ρ _ H h (.refl _) (.refl _) (show Rep _ _ _ _ _ by simp only[Rep])
theorem bU8 {j pos}:PU X (.Constant .none j pos) (uC .non):=k6 pe_non λσ H Q ⟨C,ρ,Q0,I,h,k⟩=>k _ ρ _ H h (.refl _) (.refl _) (show Rep _ _ _ _ _ by simp only[Rep])
theorem pu_str {x j pos}:PU X (.Constant (.str x) j pos) (uC<|.str x):=k6 pe_str λσ H Q ⟨C,ρ,Q0,I,h,k⟩=>k _ ρ _ H h (.refl _) (.refl _) (show Rep _ _ _ _ _ by simp only[Rep])
def aQ0 (ρ:Ev)(i:Nat)(Q:B->Ev->Prop):Prop:=match ρ[i]? with
 | some (some<|.pu d)=>Q (.pu d) ρ
 | some (some<|.ow l)=>Q (.pu<|.lst l) (ρ.set i<|some<|.pu<|.lst l)
 | _=>False
def aB (i:Nat):UE:=λρ Q=>aQ0 ρ i Q
theorem fT (i:Nat){pos:Pos}(h:PE X (.Name x pos) (aG0 i)):PU X (.Name x pos) (aB i):=k6 h λσ H Q ⟨C,ρ,Q0,I,h,k⟩=>by
 unfold aB aQ0 at h;split at h
 .rename_i d e
  obtain⟨v,h1,h2⟩:=I.pu i d e;exact⟨v,h1,k _ ρ v H h (.refl _) (.refl _) h2⟩
 .rename_i l e
  obtain⟨_,_,v,h1,h2⟩:=I.freeze e;exact⟨v,h1,k _ _ v H h (.set e) (.refl _) h2⟩
 .exact h.elim
def bO5 (ρ:Ev)(i:Nat)(Q:D->Ev->Prop):Prop:=match ρ[i]? with
 | some (some<|.pu d)=>Q d ρ
 | some (some<|.ow l)=>Q (.lst l) ρ
 | some (some<|.bo l)=>Q (.lst l) ρ
 | _=>False
def aS (i:Nat):UV:=λρ Q=>bO5 ρ i Q
theorem nF (i:Nat){pos:Pos}(h:PE X (.Name x pos) (aG0 i)):PUV X (.Name x pos) (aS i):=k6 h λσ H Q ⟨C,ρ,Q0,I,h,k⟩=>by
 unfold aS bO5 at h;split at h
 .rename_i d e
  obtain⟨v,h1,h2⟩:=I.pu i d e;exact⟨v,h1,k _ ρ v H h (.refl _) (.refl _) h2.one⟩
 .rename_i l e
  obtain⟨a,vs,h1,h2,h3,h4⟩:=I.ow i l e;exact⟨_,h1,k _ ρ _ H h (.refl _) (.refl _) ⟨a,vs,rfl,h2,h4⟩⟩
 .rename_i l e
  obtain⟨a,vs,h1,h2,h3,h4⟩:=I.bo i l e;exact⟨_,h1,k _ ρ _ H h (.refl _) (.refl _) ⟨a,vs,rfl,I.ext _ _ h3,h4⟩⟩
 .exact h.elim
def uV (t:UE):UV:=λρ Q=>t ρ λb ρ1=>Q b.d ρ1
theorem EOk.avF {C:C0}{ρ ρ':Ev}{σ:L2.St}{H:Hp}(I:EOk K C ρ σ H)(f:Frz ρ ρ'){a:Addr}(h:Av C ρ' σ a):H a≠none:=I.avSome (f.av h)
theorem aQ1 (h:PU X e ta):PUV X e (uV ta):=k6 h λσ H Q ⟨C,ρ,Q0,I,h,k⟩=>
 ⟨C,ρ,_,I,h,λb ρ' v H' q f s r=>k b.d ρ' v H' q f s (r.rep λa z=>I.avF f z).one⟩
theorem bU9 {v:V}{d:D}{pos:Pos}(h:PE X (.Name x pos) (tC v))(r: ∀A H,Rep X.K A H d v):PU X (.Name x pos) (uC d):=k6 h λσ H Q ⟨C,ρ,Q0,I,h,k⟩=>k _ ρ _ H h (.refl _) (.refl _) (r _ _)
def OpU (X:Cx)(f:Value->Value->Sem Value)(g:D->D->(B->Prop)->Prop):Prop:=
 ∀(A:AS) (H:Hp) (d e:D) (v w:V) (Q0:B->Prop) (Q:VK),(∀a,A a->H a≠none)->Rep X.K A H d v->Rep X.K A H e w->g d e Q0->
  (∀b v' H',Q0 b->iV H H'->rK X.K A H H' b v'->Q v' H')-> ∃r,OpR X f r/\r v w H Q
def uOp (g:D->D->(B->Prop)->Prop)(ta tb:UE):UE:=λρ Q=>ta ρ λx ρ1=>tb ρ1 λy ρ2=>g x.d y.d λb=>Q b ρ2
theorem c38 {f:Value->Value->Sem Value}:OpR X f (λx y H Q=> ∃r,OpR X f r/\r x y H Q):=λpins s σ H x y v u Q I rx ry ⟨r,hr,q⟩=>hr pins s σ H x y v u Q I rx ry q
theorem rK.from {K:PySem.W.Frag}{A:AS}{H0 H H':Hp}(s:iV H0 H): ∀{b:B} {v:V},rK K A H H' b v->rK K A H0 H' b v
 | .pu _,_,h=>h
 | .ow _,_,⟨a,vs,e,n,h1,r⟩=>⟨a,vs,e,s.free n,h1,r⟩
 | .bo _,_,h=>h.elim
theorem lOp {f:Value->Value->Sem Value}{g:D->D->(B->Prop)->Prop}(ho:OpU X f g)(σ:L2.St)(H:Hp)(Q:VK)(h:lE X.K (uOp g ta tb) σ H Q) :
  tOp (λx y H Q=> ∃r,OpR X f r/\r x y H Q) (lE X.K ta) (lE X.K tb) σ H Q:=by
 obtain⟨C,ρ,Q0,I,h,k⟩:=h;refine⟨C,ρ,_,I,h,λx ρ1 v H1 q1 f1 s1 r1=> ?_⟩
 have I1:=(I.frz f1).same s1;refine⟨C,ρ1,_,I1,q1,λy ρ2 w H2 q2 f2 s2 r2=> ?_⟩
 have I2:=(I1.frz f2).same s2;have hA: ∀a,Av C ρ2 σ a->H2 a≠none:=λa z=>I2.avSome z
 refine ho (Av C ρ2 σ) H2 x.d y.d v w _ Q hA ((r1.rep λa z=>I.avF f1 z).mono<|.sub s2 λa=>f2.av) (r2.rep λa z=>I1.avF f2 z) q2 λb v' H' q s r=> ?_
 exact k b ρ2 v' H' q (f1.trans f2) (s1.trans<|s2.trans s) (r.from<|s1.trans s2)
theorem aE {op:Operator}{g:D->D->(B->Prop)->Prop}(ho:OpU X (binaryOp op) g)(ha:PU X a ta)(hb:PU X b tb):PU X (.BinOp a op b pos) (uOp g ta tb):=
 k6 (pe_op c38 ha hb) (lOp ho)
theorem pu_cmp {g:D->D->(B->Prop)->Prop}(ho:OpU X (compareOp op) g)(ha:PU X a ta)(hb:PU X b tb)(hm:behindInMarks op b=false):PU X (.Compare a [op] [b] pos) (uOp g ta tb):=
 k6 (dI3 c38 ha hb hm) (lOp ho)
def isB (Q:Bool->Ev->Prop):B->Ev->Prop:=λb ρ=>match b with
 | .pu (.bl k)=>Q k ρ
 | _=>False
def cO (t:UE):UT:=λρ Q=>t ρ (isB Q)
theorem dJ3 {t:UE}(σ:L2.St)(H:Hp)(Q:Bool->Hp->Prop)(h:lT X.K (cO t) σ H Q):lE X.K t σ H λx H'=> ∃k,x= .bl k/\Q k H':=by
 obtain⟨C,ρ,Q0,I,h,k⟩:=h;refine⟨C,ρ,_,I,h,λb ρ' v H' q f s r=> ?_⟩
 unfold isB at q;split at q
 .rename_i k'
  refine⟨k',?_,k k' ρ' H' q f s⟩
  have r':Rep X.K (Av C ρ' σ) H' (.bl k') v:=r
  simpa only[Rep]using r'
 .exact q.elim
theorem vC (h:PU X e ta)(he: ∀whole,isTrue e X.env whole=(do let v<-whole;standAt e.pos;holding [v] (truthy v)):=by intro _;rfl):PUT X e (cO ta):=
 c37 (pt_val h he) dJ3
theorem aQ2 {g:D->D->(B->Prop)->Prop}(ho:OpU X (compareOp op) g)(ha:PU X a ta)(hb:PU X b tb)(hm:behindInMarks op b=false):PUT X (.Compare a [op] [b] pos) (cO<|uOp g ta tb):=
 c37 (dI4 c38 ha hb hm) λσ H Q h=>lOp ho σ H _ (dJ3 σ H Q h)
def aQ3 (t u:UT):UT:=λρ Q=>t ρ λc ρ1=>if c=true then u ρ1 Q else Q false ρ1
def uOr (t u:UT):UT:=λρ Q=>t ρ λc ρ1=>if c=true then Q true ρ1 else u ρ1 Q
def aY3 (t:UT):UT:=λρ Q=>t ρ λc ρ1=>Q (!c) ρ1
variable {tA tB:UT}
theorem kT (ha:PUT X a tA):PUW X (.BoolOp .And [a] pos) tA:=dH6 ha
theorem tZ (ha:PUT X a tA):PUW X (.BoolOp .Or [a] pos) tA:=pw_or1 ha
theorem nQ (ha:PUT X a tA)(hb:PUW X (.BoolOp .And (b::tY) pos) tB):PUW X (.BoolOp .And (a::b::tY) pos) (aQ3 tA tB):=
 dT1 (pw_and ha hb) λσ H Q ⟨C,ρ,Q0,I,h,k⟩=>⟨C,ρ,_,I,h,λc ρ1 H1 q f s=>by
  cases c with
  | true=>
   rw[a7 rfl]at q⊢;exact⟨C,ρ1,Q0,(I.frz f).same s,q,λb ρ2 H2 q2 f2 s2=>k b ρ2 H2 q2 (f.trans f2) (s.trans s2)⟩
  | false=>
   rw[a6 bE]at q⊢;exact k _ _ _ q f s⟩
theorem pF (ha:PUT X a tA)(hb:PUW X (.BoolOp .Or (b::tY) pos) tB):PUW X (.BoolOp .Or (a::b::tY) pos) (uOr tA tB):=
 dT1 (pw_or ha hb) λσ H Q ⟨C,ρ,Q0,I,h,k⟩=>⟨C,ρ,_,I,h,λc ρ1 H1 q f s=>by
  cases c with
  | true=>
   rw[a7 rfl]at q⊢;exact k _ _ _ q f s
  | false=>
   rw[a6 bE]at q⊢;exact⟨C,ρ1,Q0,(I.frz f).same s,q,λb ρ2 H2 q2 f2 s2=>k b ρ2 H2 q2 (f.trans f2) (s.trans s2)⟩⟩
theorem PUW.pt (h:PUW X e tA):PUT X e tA:=PW.pt h
theorem u3 (ha:PUT X a tA):PUT X (.UnaryOp .Not a pos) (aY3 tA):=
 c37 (pt_not ha) λσ H Q ⟨C,ρ,Q0,I,h,k⟩=>⟨C,ρ,_,I,h,λc ρ1 H1 q f s=>k _ ρ1 H1 q f s⟩
def c39 (t u:UE):UE:=λρ Q=>t ρ λx ρ1=>isB (λc ρ1=>if c=true then u ρ1 Q else Q (.pu<|.bl false) ρ1) x ρ1
def d18 (t:UE):UE:=λρ Q=>t ρ λx ρ1=>isB (λc ρ1=>Q (.pu<|.bl<|!c) ρ1) x ρ1
theorem bV0 {Q:Bool->Ev->Prop}{b:B}{ρ:Ev}{A:AS}{H H':Hp}{v:V}(h:isB Q b ρ)(r:rK K A H H' b v): ∃k,v= .bl k/\Q k ρ:=by
 unfold isB at h;split at h
 .rename_i k'
  have r':Rep K A H' (.bl k') v:=r;exact⟨k',by simpa only[Rep]using r',h⟩
 .exact h.elim
theorem lX {A:AS}{H H':Hp}{k:Bool}:rK K A H H' (.pu<|.bl k) (.bl k):=by
 show Rep K A H' (.bl k) (.bl k)
 simp only[Rep]
theorem cE7 {op}(h:PU X a ta):PU X (.BoolOp op [a] pos) ta:=pe_one h
theorem cE8 (ha:PU X a ta)(hb:PU X (.BoolOp .And (b::tY) pos) tb):PU X (.BoolOp .And (a::b::tY) pos) (c39 ta tb):=
 k6 (pe_and ha hb) λσ H Q ⟨C,ρ,Q0,I,h,k⟩=>⟨C,ρ,_,I,h,λx ρ1 v H1 q f s r=>by
  obtain⟨c,rfl,q⟩:=bV0 q r;refine⟨c,rfl,?_⟩;cases c with
  | true=>
   rw[a7 rfl]at q⊢;exact⟨C,ρ1,Q0,(I.frz f).same s,q,λb ρ2 v H2 q2 f2 s2 r2=>k b ρ2 v H2 q2 (f.trans f2) (s.trans s2) (r2.from s)⟩
  | false=>
   rw[a6 bE]at q⊢;exact k _ _ _ _ q f s lX⟩
theorem pu_not (ha:PU X a ta):PU X (.UnaryOp .Not a pos) (d18 ta):=
 k6 (pe_not ha) λσ H Q ⟨C,ρ,Q0,I,h,k⟩=>⟨C,ρ,_,I,h,λx ρ1 v H1 q f s r=>by
  obtain⟨c,rfl,q⟩:=bV0 q r;exact⟨c,rfl,k _ _ _ _ q f s lX⟩⟩
def uIf (t:UT)(ta tb:UE):UE:=λρ Q=>t ρ λc ρ1=>if c=true then ta ρ1 Q else tb ρ1 Q
theorem d19 (hc:PUT X c tA)(ha:PU X a ta)(hb:PU X b tb):PU X (.IfExp c a b pos) (uIf tA ta tb):=
 k6 (cZ3 hc ha hb) λσ H Q ⟨C,ρ,Q0,I,h,k⟩=>⟨C,ρ,_,I,h,λc ρ1 H1 q f s=>by
  have I1:=(I.frz f).same s;cases c with
  | true=>
   dsimp only at q⊢;rw[a7 rfl]at q⊢;exact⟨C,ρ1,Q0,I1,q,λb ρ2 v H2 q2 f2 s2 r2=>k b ρ2 v H2 q2 (f.trans f2) (s.trans s2) (r2.from s)⟩
  | false=>
   dsimp only at q⊢;rw[a6 bE]at q⊢;exact⟨C,ρ1,Q0,I1,q,λb ρ2 v H2 q2 f2 s2 r2=>k b ρ2 v H2 q2 (f.trans f2) (s.trans s2) (r2.from s)⟩⟩
def aP:UA:=λρ Q=>Q [] ρ
def a8 (t:UE)(u:UA):UA:=λρ Q=>t ρ λx ρ1=>u ρ1 λxs ρ2=>Q (x.d::xs) ρ2
theorem aA:PUA X [] aP:=dT0 cE1 λσ H Q ⟨C,ρ,Q0,I,h,k⟩=>k [] ρ [] H h (.refl _) (.refl _) .nil
theorem aH {t:UA}(ha:PU X e ta)(hr:PUA X es t)(hs:↥(starEach (e::es) X.env=(false,eval e X.env)::starEach es X.env)):PUA X (e::es) (a8 ta t):=
 dT0 (bU0 ha hr hs) λσ H Q ⟨C,ρ,Q0,I,h,k⟩=>⟨C,ρ,_,I,h,λx ρ1 v H1 q1 f1 s1 r1=>by
  have I1:=(I.frz f1).same s1;refine⟨C,ρ1,_,I1,q1,λxs ρ2 vs H2 q2 f2 s2 r2=> ?_⟩
  exact k _ ρ2 _ H2 q2 (f1.trans f2) (s1.trans s2) (.cons ((r1.rep λa z=>I.avF f1 z).mono<|.sub s2 λa=>f2.av) r2)⟩
def jD (t:UA):UE:=λρ Q=>t ρ λl ρ1=>l.length<=sizeLine/\Q (.pu<|.tup l) ρ1
def lY (t:UA):UE:=λρ Q=>t ρ λl ρ1=>l.length<=sizeLine/\Q (.ow l) ρ1
theorem gF {H:Hp}{p:Addr}(h:H p=none)(o:HO):iV H (upd H p o):=λb u q=>by rw[cW<|dN q h];exact q
theorem kF {A:AS}{H:Hp}{p:Addr}{l:List D}{vs:List V}(hA: ∀a,A a->H a≠none)(n:H p=none)(r:cD K A H l vs):Rep K A (upd H p<|.tup vs) (.tup l) (.ref p):=by
 simp only[Rep];exact⟨p,vs,rfl,.inl ⟨λz=>hA p z n,.inl jH⟩,r.mono<|.same<|gF n _⟩
theorem iT {A:AS}{H H0:Hp}{p:Addr}{l:List D}{vs:List V}(s:iV H0 H)(n:H p=none)(r:cD K A H l vs):rK K A H0 (upd H p<|.lst vs) (.ow l) (.ref p):=
 ⟨p,vs,rfl,s.free n,jH,r.mono<|.fresh (gF n _) n⟩
theorem eN {t:UA}{x1}(h:PUA X es t):PU X (.Tuple es x1 pos) (jD t):=
 k6 (pe_tup h) λσ H Q ⟨C,ρ,Q0,I,h,k⟩=>⟨C,ρ,_,I,h,λl ρ1 vs H1 q f s r=>by
  obtain⟨hz,q⟩:=q;refine⟨by rw[<-r.length];exact hz,λp n=> ?_⟩
  have I1:=(I.frz f).same s;exact k _ ρ1 _ _ q f (s.trans<|gF n _) (kF (λa z=>I1.avSome z) n r)⟩
theorem gB {t:UA}(h:PUA X es t):PU X (.List es pos) (lY t):=
 k6 (pe_lst h) λσ H Q ⟨C,ρ,Q0,I,h,k⟩=>⟨C,ρ,_,I,h,λl ρ1 vs H1 q f s r=>by
  obtain⟨hz,q⟩:=q;refine⟨by rw[<-r.length];exact hz,λp n=> ?_⟩
  exact k _ ρ1 _ _ q f (s.trans<|gF n _) (iT s n r)⟩
abbrev Φ:=List D->(B->Prop)->Prop
def spP (K:PySem.W.Frag)(φ:Φ):Sp:=λvs H Q _=> ∃A ds Q0,(∀a,A a->H a≠none)/\cD K A H ds vs/\φ ds Q0/\ ∀b v H',Q0 b->iV H H'->rK K A H H' b v->Q v H'
def aV (φ:Φ)(t:UA):UE:=λρ Q=>t ρ λds ρ1=>φ ds λb=>Q b ρ1
theorem lCall {t:UA}{E:XK}(σ:L2.St)(H:Hp)(Q:VK)(h:lE X.K (aV φ t) σ H Q):d08 (spP X.K φ) [] E (lA X.K t) σ H Q:=by
 obtain⟨C,ρ,Q0,I,h,k⟩:=h;refine⟨C,ρ,_,I,h,λds ρ1 vs H1 q f s r=> ?_⟩
 have I1:=(I.frz f).same s;show spP X.K φ (vs++[]) H1 Q E;rw[kO];exact⟨Av C ρ1 σ,ds,_,λa z=>I1.avSome z,r,q,λb v H' q' s' r'=>k b ρ1 v H' q' f (s.trans s') (r'.from s)⟩
theorem dJ4 {CX:CXT}{ps:List Str}{E:XK}{t:UA}(F:wS X.prog X.w X.K X.mg X.base CX k f fd ps (spP X.K φ))(hr:jB k X.A)(hg:Gl X x)(hm:X.mg x=some (.ref f))
  (hk:keepIn X.K (.ref f)=true) (hb:Binds X.K fd ps []) (hx:aM8 CX X E) (ha:PUA X (e::es) t) (hdb:⇑((x==("__debug__":Str))=false)) (he:↥(starEach (e::es) X.env=(false,eval e X.env)::starEach es X.env))
  (hpl:↥((backTo pos<|starEach es X.env).any (·.1)=false)):PU X (.Call (.Name x p) (e::es) [] pos) (aV φ t):=
 k6 (cM0 F hr hg hm hk hb .nil hx ha hdb he hpl) lCall
theorem d20 {CX:CXT}{ps:List Str}{E:XK}(F:wS X.prog X.w X.K X.mg X.base CX k f fd ps (spP X.K φ))(hr:jB k X.A)(hg:Gl X x)(hm:X.mg x=some (.ref f))
  (hk:keepIn X.K (.ref f)=true) (hb:Binds X.K fd ps []) (hx:aM8 CX X E) (hdb:⇑((x==("__debug__":Str))=false)):PU X (.Call (.Name x p) [] [] pos) (aV φ aP):=
 k6 (d10 F hr hg hm hk hb .nil hx hdb) λσ H Q ⟨C,ρ,Q0,I,h,k⟩=>⟨Av C ρ σ,[],_,λa z=>I.avSome z,.nil,h,λb v H' q' s' r'=>k b ρ v H' q' (.refl _) s' r'⟩
def vD (X:Cx)(f:Value)(g:List D->(B->Prop)->Prop):Prop:=
 ∀(A:AS) (H:Hp) (ds:List D) (vs:List V) (Q0:B->Prop) (Q:VK),(∀a,A a->H a≠none)->cD X.K A H ds vs->g ds Q0->
  (∀b v' H',Q0 b->iV H H'->rK X.K A H H' b v'->Q v' H')-> ∃r,pE X f r/\r vs H Q
theorem callAny {f:Value}:pE X f (λxs H Q=> ∃r,pE X f r/\r xs H Q):=λpins s σ H xs us Q I rx ⟨r,hr,q⟩=>hr pins s σ H xs us Q I rx q
theorem lCB {f:Value}{g:List D->(B->Prop)->Prop}{t:UA}(hc:vD X f g)(σ:L2.St)(H:Hp)(Q:VK)(h:lE X.K (aV g t) σ H Q):tCB (λxs H Q=> ∃r,pE X f r/\r xs H Q) (lA X.K t) σ H Q:=by
 obtain⟨C,ρ,Q0,I,h,k⟩:=h;refine⟨C,ρ,_,I,h,λds ρ1 vs H1 q f s r=> ?_⟩
 have I1:=(I.frz f).same s;exact hc (Av C ρ1 σ) H1 ds vs _ Q (λa z=>I1.avSome z) r q λb v H' q' s' r'=>k b ρ1 v H' q' f (s.trans s') (r'.from s)
theorem fG {id:String}{g:List D->(B->Prop)->Prop}{t:UA}(hc:vD X (.builtin id) g)(hg:Gl X x)(hm:X.mg x=none)(hv:bootBuiltins x=some (.builtin id))(ha:PUA X (e::es) t)(hn:⇑(x≠"__name__"))(hdb:⇑((x==("__debug__":Str))=false))
  (he:↥(starEach (e::es) X.env=(false,eval e X.env)::starEach es X.env)) (hpl:↥((backTo pos<|starEach es X.env).any (·.1)=false)):PU X (.Call (.Name x p) (e::es) [] pos) (aV g t):=
 k6 (c33 callAny hg hm hv ha hn hdb he hpl) (lCB hc)
theorem eG {T:String}{g:List D->(B->Prop)->Prop}{t:UA}(hc:vD X (.type T) g)(hg:Gl X x)(hm:X.mg x=none)(hv:bootBuiltins x=some (.type T))(ha:PUA X (e::es) t)(hn:⇑(x≠"__name__"))(hdb:⇑((x==("__debug__":Str))=false))
  (he:↥(starEach (e::es) X.env=(false,eval e X.env)::starEach es X.env)) (hpl:↥((backTo pos<|starEach es X.env).any (·.1)=false)):PU X (.Call (.Name x p) (e::es) [] pos) (aV g t):=
 k6 (cS9 callAny hg hm hv ha hn hdb he hpl) (lCB hc)
end
structure UD where
 nx:Ev->Prop
 rt:B->Prop
 bk:Ev->Prop:=λ_=>False
 ct:Ev->Prop:=λ_=>False
abbrev US:=UD->Ev->Prop
structure DOk (K:PySem.W.Frag)(C:C0)(D0:UD)(D:aX8):Prop where
 nx: ∀ρ σ H,D0.nx ρ->EOk K C ρ σ H->D.nx σ H
 rt: ∀b v H,D0.rt b->iV C.H0 H->rK K C.A0 C.H0 H b v->D.rt v H
 bk: ∀ρ σ H,D0.bk ρ->EOk K C ρ σ H->D.bk σ H
 ct: ∀ρ σ H,D0.ct ρ->EOk K C ρ σ H->D.ct σ H
def lS (K:PySem.W.Frag)(t:US):TS:=λD σ H=> ∃C ρ D0,EOk K C ρ σ H/\t D0 ρ/\DOk K C D0 D
def PUS (X:Cx)(st:Stmt)(t:US):Prop:=PS X st (lS X.K t)
def pG (X:Cx)(sts:List Stmt)(t:US):Prop:=PSs X sts (lS X.K t)
theorem tO {X:Cx}{t t':TS}(h:PS X st t)(i: ∀D σ H,t' D σ H->t D σ H):PS X st t':=λpins s σ H D I q=>h pins s σ H D I (i D σ H q)
theorem b91 {X:Cx}{st:List Stmt}{t t':TS}(h:PSs X st t)(i: ∀D σ H,t' D σ H->t D σ H):PSs X st t':=λpins s σ H D I q=>h pins s σ H D I (i D σ H q)
section
variable {X:Cx}{st:Stmt}{sts:List Stmt}{e:Expr}{pos:Pos}{t u:US}{te:UE}{tc:UT}{K:PySem.W.Frag}
def cX:US:=λD ρ=>D.nx ρ
def aQ (t u:US):US:=λD ρ=>t {D with nx:=u D} ρ
theorem bV1:pG X [] cX:=b91 dH7 λD σ H ⟨C,ρ,D0,I,h,k⟩=>k.nx ρ σ H h I
theorem bD (h1:PUS X st t)(h2:pG X sts u):pG X (st::sts) (aQ t u):=
 b91 (yW h1 h2) λD σ H ⟨C,ρ,D0,I,h,k⟩=>⟨C,ρ,{D0 with nx:=u D0},I,h,⟨λρ' σ' H' q I'=>⟨C,ρ',D0,I',q,k⟩,k.rt,k.bk,k.ct⟩⟩
theorem b4 (h1:PUS X st t):pG X [st] t:=bT7 h1
def d6 (t:UE):US:=λD ρ=>t ρ λb _=>D.rt b
theorem rK.back {A A':AS}{H0 H H':Hp}(s:iV H0 H)(h: ∀a,A' a->A a): ∀{b:B} {v:V},rK K A H H' b v->rK K A' H0 H' b v
 | .pu _,_,r=>Rep.mono (.sub (.refl _) h) r
 | .ow _,_,⟨a,vs,e,n,h1,r⟩=>⟨a,vs,e,s.free n,h1,r.mono λb o nb q=>⟨λz=>nb (z.imp (h b) id),q⟩⟩
 | .bo _,_,r=>r.elim
theorem cE9 (he:PU X e te):PUS X (.Return (some e) pos) (d6 te):=
 tO (cZ4 he) λD σ H ⟨C,ρ,D0,I,h,k⟩=>⟨C,ρ,_,I,h,λb ρ' v H' q f s r=>k.rt b v H' q (I.ext.trans s) (r.back I.ext λa z=> .inl z)⟩
def tP (i:Nat):US:=λD ρ=>match ρ[i]? with
 | some (some<|.pu d)=>D.rt (.pu d)
 | some (some<|.ow l)=>D.rt (.ow l)
 | _=>False
theorem nR (i:Nat)(h:PE X (.Name x p) (aG0 i)):PUS X (.Return (some<|.Name x p) pos) (tP i):=
 tO (cZ4 h) λD σ H ⟨C,ρ,D0,I,h,k⟩=>by
  unfold tP at h;split at h
  .rename_i d e
   obtain⟨v,h1,h2⟩:=I.pu i d e;exact⟨v,h1,k.rt _ v H h I.ext<|Rep.mono (.sub (.refl _) λa z=> .inl z) h2⟩
  .rename_i l e
   obtain⟨a,vs,h1,h2,h3,h4⟩:=I.ow i l e;refine⟨_,h1,k.rt _ _ H h I.ext ⟨a,vs,rfl,h3,h2,h4.mono λb o nb q=>⟨λz=>nb (z.elim .inl λz=> .inr ?_),q⟩⟩⟩
   subst z;exact⟨i,l,e,h1⟩
  .exact h.elim
def fE (c:UT)(t u:US):US:=λD ρ=>c ρ λb ρ1=>if b=true then t D ρ1 else u D ρ1
theorem bO6 {a b:List Stmt}(hc:PUT X c tc)(ha:pG X a t)(hb:pG X b u):PUS X (.If c a b pos) (fE tc t u):=
 tO (dS8 hc ha hb) λD σ H ⟨C,ρ,D0,I,h,k⟩=>⟨C,ρ,_,I,h,λc ρ1 H1 q f s=>by
  have I1:=(I.frz f).same s;cases c with
  | true=>
   dsimp only at q⊢;rw[a7 rfl]at q⊢;exact⟨C,ρ1,D0,I1,q,k⟩
  | false=>
   dsimp only at q⊢;rw[a6 bE]at q⊢;exact⟨C,ρ1,D0,I1,q,k⟩⟩
theorem c40:PUS X st (λ_ _=>False):=tO cZ5 λD σ H ⟨C,ρ,D0,I,h,k⟩=>h
abbrev UG:=B->Ev->(Ev->Prop)->Prop
def lG (K:PySem.W.Frag)(T:List Nat)(g:UG):TG:=λv σ H Q=> ∃C ρ b H00 Q0,EOk K C ρ σ H00/\iV H00 H/\rK K (Av C ρ σ) H00 H b v/\g b ρ Q0/\ ∀ρ' σ' H',Q0 ρ'->EOk K C ρ' σ' H'->(∀j:Nat,j ∉ T->σ'[j]? =σ[j]?)->Q σ' H'
def PUG (X:Cx)(e:Expr)(T:List Nat)(g:UG):Prop:=PG X e (lG X.K T g)
theorem dT2 {t t':TG}(h:PG X e t)(i: ∀v σ H Q,t' v σ H Q->t v σ H Q):PG X e t':=λpins s σ H v u Q I r q=>h pins s σ H v u Q I r (i v σ H Q q)
def cE (i:Nat):UG:=λb ρ Q=>i<ρ.length/\Q (ρ.set i<|some b)
theorem a38 (i:Nat)(h:PG X e (b26 i)):PUG X e [i] (cE i):=dT2 h λv σ H Q z=>by
 obtain⟨C,ρ,b,H00,Q0,I,s,r,⟨hi,q⟩,k⟩:=z;exact k _ _ _ q (I.store s r (by rw[<-I.len];exact hi)) λj hj=>get_set_ne λz=>hj (by simp[z])
abbrev UGs:=List D->Ev->(Ev->Prop)->Prop
def lGs (K:PySem.W.Frag)(T:List Nat)(g:UGs):TGs:=λvs σ H Q=> ∃C ρ ds Q0,EOk K C ρ σ H/\cD K (Av C ρ σ) H ds vs/\g ds ρ Q0/\ ∀ρ' σ' H',Q0 ρ'->EOk K C ρ' σ' H'->(∀j:Nat,j ∉ T->σ'[j]? =σ[j]?)->Q σ' H'
def dJ5 (X:Cx)(es:List Expr)(T:List Nat)(g:UGs):Prop:=PGs X es (lGs X.K T g)
def sG:UGs:=λds ρ Q=>ds=[]/\Q ρ
theorem Av.store_pu {C:C0}{ρ:Ev}{σ:L2.St}{d:D}{v:V}(h:Av C (ρ.set i<|some<|.pu d) (σ.set i<|some v) a):Av C ρ σ a:=by
 rcases h with z| ⟨j,l,h1,h2⟩
 .exact .inl z
 .rcases b6 h1 with⟨rfl,h3,_⟩| ⟨ne,h3⟩
  .cases h3
  .rw[get_set_ne ne]at h2;exact .inr ⟨j,l,h3,h2⟩
theorem d21 {t t':TGs}(h:PGs X es t)(i: ∀v σ H Q,t' v σ H Q->t v σ H Q):PGs X es t':=λpins s σ H v u Q I r q=>h pins s σ H v u Q I r (i v σ H Q q)
theorem nS:dJ5 X [] [] sG:=d21 dH8 λvs σ H Q z=>by
 obtain⟨C,ρ,ds,Q0,I,r,⟨e,q⟩,k⟩:=z;subst e;exact⟨r.unnil,k ρ σ H q I λ_ _=>rfl⟩
def eO (i:Nat)(u:UGs):UGs:=λds ρ Q=>match ds with
 | d::r=>i<ρ.length/\u r (ρ.set i<|some<|.pu d) Q
 | []=>False
theorem d4 {u:UGs}{T:List Nat}(i:Nat)(h1:PG X e (b26 i))(h2:dJ5 X es T u)
  (hs:↥((assignEach (e::es) X.env).map (·.2)=assign e X.env::(assignEach es X.env).map (·.2))):dJ5 X (e::es) (i::T) (eO i u):=
 d21 (cZ7 h1 h2 hs) λvs σ H Q z=>by
  obtain⟨C,ρ,ds,Q0,I,r,g,k⟩:=z;cases ds with
  | nil=>exact(show False from g).elim
  | cons d dr=>
   obtain⟨hi,g⟩:i<ρ.length/\u dr (ρ.set i<|some<|.pu d) Q0:=g;obtain⟨v,vr,rfl,rv,rr⟩:=r.uncons;have I1:EOk X.K C (ρ.set i<|some<|.pu d) (σ.set i<|some v) H:=I.store (b:= .pu d) (.refl _) rv (by rw[<-I.len];exact hi)
   exact⟨v,vr,rfl,C,_,dr,Q0,I1,rr.mono<|.sub (.refl _) λa z=>Av.store_pu z,g,λρ' σ' H' q I' hT=>k ρ' σ' H' q I' λj hj=>(hT j λz=>hj (bH _ z)).trans (get_set_ne λz=>hj (by simp[z]))⟩
def sH (u:UGs):UG:=λb ρ Q=>match b.d with
 | .tup ds=>u ds ρ Q
 | _=>False
theorem sX {u:UGs}{T:List Nat}(hc:X.calm=true)(h:dJ5 X es T u)(hu: ∀ds ρ Q,u ds ρ Q->ds.length=n)
  (hn:↥((assignEach es X.env).length=n)) (hst:↥((assignEach es X.env).findIdx? (·.1)=none)):PUG X (.Tuple es k pos) T (sH u):=
 dT2 (pg_tup hc h hn hst) λv σ H Q z=>by
  obtain⟨C,ρ,b,H00,Q0,I,s,r,g,k⟩:=z;have R:=r.rep λa z=>I.avSome z
  unfold sH at g;split at g
  .rename_i ds e
   rw[e]at R;simp only[Rep]at R;obtain⟨a,vs,rfl,c,rs⟩:=R;exact⟨a,vs,rfl,c.imp d7 id,by rw[<-rs.length];exact hu _ _ _ g,C,ρ,ds,Q0,I.same s,rs,g,k⟩
  .exact g.elim
def bK7 (t:UE)(g:UG):US:=λD ρ=>t ρ λb ρ1=>g b ρ1 D.nx
theorem a95 {g:UG}{T:List Nat}(he:PU X e te)(hg:PUG X tg T g)(hs:↥(swapsWithSole [tg] e pos.line X.env=pure false))(hw:↥(swappedStores [tg] e X.env=pure none))
  (h1:↥((assignEach [tg] X.env).map (·.2)=[assign tg X.env])):PUS X (.Assign [tg] e pos) (bK7 te g):=
 tO (cZ8 he hg hs hw h1) λD σ H ⟨C,ρ,D0,I,h,k⟩=>⟨C,ρ,_,I,h,λb ρ1 v H1 q f s r=>⟨C,ρ1,b,H,D0.nx,I.frz f,s,r,q,λρ' σ' H' q I' _=>k.nx ρ' σ' H' q I'⟩⟩
def bN (i:Nat)(t:UE):US:=λD ρ=>t ρ λb ρ1=>D.nx (ρ1.set i<|some b)
theorem xU (i:Nat)(hN:X.N.Nodup)(hi:X.N[i]? =some x)(hx:Loc X.env.scope x)(he:PU X e te)(hs:↥(swapsWith e (some<|.Name x pos') pos.line X.env=pure false))(hf:X.fn x=true\/X.env.scope.names.lookup x=some .local:=by walk_at "z")
  (hl: ∀pins σ H s,Inv X pins σ H s->i<σ.length:=by intro pins σ H s I;rw[I.len];decide):PUS X (.Assign [.Name x pos'] e pos) (bN i te):=by
 intro pins s σ H D I q;refine ps_set hN hi hx he hs hf pins s σ H D I ?_;obtain⟨C,ρ,D0,J,h,k⟩:=q;exact⟨C,ρ,_,J,h,λb ρ1 v H1 q f s1 r=>k.nx _ _ _ q ((J.frz f).store s1 r<|hl pins σ H s I)⟩
def IpU (X:Cx)(op:Operator)(g:D->D->(B->Prop)->Prop):Prop:=
 ∀(A:AS) (H:Hp) (d e:D) (v w:V) (Q0:B->Prop) (Q:VK),(∀a,A a->H a≠none)->Rep X.K A H d v->Rep X.K A H e w->g d e Q0->
  (∀b v' H',Q0 b->iV H H'->rK X.K A H H' b v'->Q v' H')-> ∃r,PIp X op r/\r v w H Q
theorem ipAny {op:Operator}:PIp X op (λx y H Q=> ∃r,PIp X op r/\r x y H Q):=λpins s σ H x y v u Q I rx ry ⟨r,hr,q⟩=>hr pins s σ H x y v u Q I rx ry q
def c41 (i:Nat)(g:D->D->(B->Prop)->Prop)(te:UE):US:=λD ρ=>aQ0 ρ i λx ρ0=>te ρ0 λy ρ1=>g x.d y.d λb=>D.nx (ρ1.set i<|some b)
theorem d22 {op:Operator}{g:D->D->(B->Prop)->Prop}(i:Nat)(hN:X.N.Nodup)(hi:X.N[i]? =some x)(hx:Loc X.env.scope x)(he:PU X e te)(ho:IpU X op g)(hf:X.fn x=true\/X.env.scope.names.lookup x=some .local:=by walk_at "z")
  (hl: ∀pins σ H s,Inv X pins σ H s->i<σ.length:=by intro pins σ H s I;rw[I.len];decide):PUS X (.AugAssign (.Name x pos') op e pos) (c41 i g te):=by
 intro pins s σ H D I q;refine ps_aug hN hi hx he ipAny hf pins s σ H D I ?_;obtain⟨C,ρ,D0,J,h,k⟩:=q;have go: ∀(d:M.D) (ρ0:Ev) (v:V),Frz ρ ρ0->σ[i]? =some (some v)->Rep X.K (Av C ρ0 σ) H d v->(te ρ0 λy ρ1=>g d y.d λb=>D0.nx (ρ1.set i<|some b))->
   tAug i (lE X.K te) (λx y H Q=> ∃r,PIp X op r/\r x y H Q) D σ H:=λd ρ0 v f0 h1 r0 h=>by
  have J0:=J.frz f0;refine⟨v,h1,C,ρ0,_,J0,h,λy ρ1 w H1 q1 f1 s1 r1=> ?_⟩
  have J1:=(J0.frz f1).same s1;refine ho (Av C ρ1 σ) H1 d y.d v w _ _ (λa z=>J1.avSome z) (r0.mono<|.sub s1 λa=>f1.av) (r1.rep λa z=>J0.avF f1 z) q1 λb v' H' q s r=> ?_
  exact k.nx _ _ _ q (J1.store s r<|hl pins σ _ _ I)
 unfold c41 aQ0 at h;split at h
 .rename_i d e
  obtain⟨v,h1,h2⟩:=J.pu i d e;exact go d ρ v (.refl _) h1 h2 h
 .rename_i l e
  obtain⟨_,_,v,h1,h2⟩:=J.freeze e;exact go (.lst l) _ v (.set e) h1 h2 h
 .exact h.elim
def bV2 (c:UT)(tb:US):US:=λD ρ=> ∃W:Nat->Ev->Prop,(∃m,W m ρ)/\ ∀m ρ,W m ρ->
 c ρ λb ρ1=>if b=true then tb {D with nx:=λρ'=> ∃m',m'<m/\W m' ρ',ct:=λρ'=> ∃m',m'<m/\W m' ρ',bk:=D.nx} ρ1 else D.nx ρ1
theorem b92 {tb:US}(hp:PassesOwn (model X.prog X.w) X.A X.env X.xe)(hc:PUT X c tc)(hb:pG X body tb):PUS X (.While c body [] pos) (bV2 tc tb):=
 tO (d00 hp hc hb) λD σ H ⟨C,ρ,D0,I,⟨W,⟨m0,w0⟩,turn⟩,k⟩=>by
  refine⟨λm σ H=> ∃ρ,EOk X.K C ρ σ H/\W m ρ,⟨m0,ρ,I,w0⟩,?_⟩
  rintro m σ H ⟨ρ,I,w⟩;refine⟨C,ρ,_,I,turn m ρ w,λb ρ1 H1 q f s=> ?_⟩
  have I1:=(I.frz f).same s;cases b with
  | true=>
   dsimp only at q⊢;rw[a7 rfl]at q⊢;refine⟨λσ' H'=> ∃m',m'<m/\ ∃ρ',EOk X.K C ρ' σ' H'/\W m' ρ',λσ' H' z=>z,C,ρ1,_,I1,q,⟨?_,k.rt,k.nx,?_⟩⟩
   .rintro ρ' σ' H' ⟨m',hm,w'⟩ I';exact⟨m',hm,ρ',I',w'⟩
   .rintro ρ' σ' H' ⟨m',hm,w'⟩ I';exact⟨m',hm,ρ',I',w'⟩
  | false=>
   dsimp only at q⊢;rw[a6 bE]at q⊢;exact k.nx _ _ _ q I1
end
abbrev UI:=Ev->(Nat->(Nat->D)->Ev->Prop)->Prop
structure cF0 (K:PySem.W.Frag)(A:AS)(H:Hp)(J:It)(n:Nat)(it:Nat->D):Prop where
 go: ∀A' H' i,nE A H A' H'->i<n->J.go i H'
 yld: ∀A' H' i x H'',nE A H A' H'->(∀a,A' a->H' a≠none)->i<n->J.yld i H' x H''->iV H' H''/\Rep K A' H'' (it i) x
 stop: ∀A' H',nE A H A' H'->J.stop n H'
def lI (K:PySem.W.Frag)(t:UI):TI:=λσ H R=> ∃C ρ Q0,EOk K C ρ σ H/\t ρ Q0/\
 ∀n it ρ' J H',Q0 n it ρ'->Frz ρ ρ'->iV H H'->cF0 K (Av C ρ' σ) H' J n it->R J H'
def PUI (X:Cx)(tg iter:Expr)(t:UI):Prop:=PI X tg iter (lI X.K t)
def jI (ui:UI)(g:UG)(tb:US):US:=λD ρ=>ui ρ λn it ρ1=> ∃Pv:Nat->Ev->Prop,Pv 0 ρ1/\
 (∀i ρ,i<n->Pv i ρ->g (.pu<|it i) ρ λρ2=>tb {D with nx:=Pv (i+1),ct:=Pv (i+1),bk:=D.nx} ρ2)/\ ∀ρ,Pv n ρ->D.nx ρ
noncomputable def C0.rz (C:C0) (ρ:Ev) (σ:L2.St) (H:Hp):C0:=C.raise ρ σ H λ_=>Classical.propDecidable _
section
variable {X:Cx}{e:Expr}{pos:Pos}{te:UE}{K:PySem.W.Frag}{C:C0}{ρ ρ':Ev}{σ σ':L2.St}{H H':Hp}
theorem EOk.rz (I:EOk K C ρ σ H):EOk K (C.rz ρ σ H) ρ σ H/\iV C.H0 (C.rz ρ σ H).H0:=I.raise
theorem dJ6 (I':EOk K (C.rz ρ σ H) ρ' σ' H'):nE (Av C ρ σ) H (Av (C.rz ρ σ H) ρ' σ') H':=λb o nb e=>by
 have e0:(C.rz ρ σ H).H0 b=some o:=by
  show @ite _ (Own ρ σ b) (Classical.propDecidable _) none (H b)=some o
  rw[a6 λz=>nb (.inr z)]
  exact e
 refine⟨?_,I'.ext b o e0⟩
 rintro(z| ⟨i,l,h1,h2⟩)
 .exact nb (.inl z)
 .obtain⟨a,vs,h3,h4,h5,_⟩:=I'.ow i l h1;rw[h2]at h3;cases h3;rw[e0]at h5;cases h5
theorem aY4 {ui:UI}{g:UG}{T:List Nat}{tb:US}(hp:PassesOwn (model X.prog X.w) X.A X.env X.xe)(hc:X.calm=true)(hi:PUI X tg iter ui)(hg:PUG X tg T g)(hb:pG X body tb)
  (hs: ∀x,foldedSetIterable iter X.env x=pure x:=by intro _;rfl):PUS X (.For tg iter body [] pos) (jI ui g tb):=
 tO (ps_for hp hc hi hg hb hs) λD σ H ⟨C,ρ,D0,I,h,k⟩=>⟨C,ρ,_,I,h,λn it ρ1 J H1 q f s ok=>by
  obtain⟨Pv,p0,turn,fin⟩:=q;have I1:=(I.frz f).same s;obtain⟨Ir,sub⟩:=I1.rz;refine⟨λi m σ' H'=>m=n-i/\i<=n/\ ∃ρ',EOk X.K (C.rz ρ1 σ H1) ρ' σ' H'/\Pv i ρ',⟨n,rfl,gA _,ρ1,Ir,p0⟩,?_⟩
  rintro i m σ' H' ⟨rfl,hi,ρ',I',p'⟩;have P:=dJ6 I';have lo: ∀ρ2 σ2 H2,EOk X.K (C.rz ρ1 σ H1) ρ2 σ2 H2->EOk X.K C ρ2 σ2 H2:=λρ2 σ2 H2 J2=>J2.lower sub rfl I.a0
  by_cases hlt:i<n
  .refine .inr ⟨ok.go _ _ i P hlt,λσ2 H2=> ∃ρ2,EOk X.K (C.rz ρ1 σ H1) ρ2 σ2 H2/\Pv (i+1) ρ2,λσ2 H2 z=>⟨n-(i+1),aa,rfl,hlt,z⟩,λx H2 y=> ?_⟩
   obtain⟨s2,r2⟩:=ok.yld _ _ i x H2 P (λa z=>I'.avSome z) hlt y
   refine⟨C.rz ρ1 σ H1,ρ',.pu<|it i,H',_,I',s2,r2,turn i ρ' hlt p',λρ2 σ2 H3 q I3 _=>⟨C.rz ρ1 σ H1,ρ2,_,I3,q,⟨?_,?_,?_,?_⟩⟩⟩
   .exact λρ3 σ3 H4 q I4=>⟨ρ3,I4,q⟩
   .exact λb v H4 q s4 r4=>k.rt b v H4 q (sub.trans s4) (r4.from sub)
   .exact λρ3 σ3 H4 q I4=>k.nx ρ3 σ3 H4 q (lo _ _ _ I4)
   .exact λρ3 σ3 H4 q I4=>⟨ρ3,I4,q⟩
  .have e:i=n:=aa
   subst e;exact .inl ⟨ok.stop _ _ P,k.nx _ _ _ (fin ρ' p')<|lo _ _ _ I'⟩⟩
noncomputable def sI:D->Option (List D)
 | .tup l=>some l
 | .lst l=>some l
 | .rol l=>some l
 | _=>none
def i7 (t:UE):UI:=λρ Q=>t ρ λb ρ1=>match sI b.d with
 | some l=>Q l.length (λi=>l.getD i .non) ρ1
 | none=>False
theorem pi_any {l:Expr}{tl:TE}(hl:PE X l tl):PI X tg l (λσ H R=>tl σ H λx H1=> ∃a,x= .ref a/\((∃xs,SqL X.K H1 a xs/\R (Itl X.K a) H1)\/ ∃xs,SqT X.K H1 a xs/\R (Itt X.K a) H1)):=by
 intro pins s σ H R I h;refine thn (hl pins s σ H _ I h) λv s1 ⟨x,H1,I1,r1,q1⟩=> ?_
 obtain⟨a,e,q⟩:=q1;subst e;cases r1;rcases q with⟨xs,hq,q⟩| ⟨xs,hq,q⟩
 .obtain⟨its,rv,p,hz⟩:=I1.list hq;refine a11 p.isList ?_;refine⟨s1.heap.objs.size,[s1.heap.objs.size],_,_,H1,rfl,I1.kept (t':=s1.toks) λb o e=>bC _ e,cS2 a _,⟨_,cZ _ rfl,rfl,rfl⟩,λb hb=> ?_,q⟩
  have e:b=s1.heap.objs.size:=by exists hb
  subst e;exact I1.fpOk (aD _) (I1.hok.fresh<|aD _)
 .obtain⟨its,rv,p,hz⟩:=I1.tuple hq;refine wpAny_pyIter_tuple (show s1.heap.IsTuple a its.toArray from p) ?_
  refine⟨s1.heap.objs.size,[s1.heap.objs.size],_,_,H1,rfl,I1.kept (t':=s1.toks) λb o e=>bC _ e,cD4 a _,⟨_,cZ _ rfl,rfl,rfl⟩,λb hb=> ?_,q⟩
  have e:b=s1.heap.objs.size:=by exists hb
  subst e;exact I1.fpOk (aD _) (I1.hok.fresh<|aD _)
theorem b93 {t t':TI}(h:PI X tg iter t)(i: ∀σ H R,t' σ H R->t σ H R):PI X tg iter t':=λpins s σ H R I q=>h pins s σ H R I (i σ H R q)
theorem bO7 {A:AS}{vs:List V}{l:List D}(c:(¬A a/\Rd H a (.lst vs))\/KL K a vs)(r:cD K A H l vs):cF0 K A H (Itl K a) l.length (λi=>l.getD i .non):=by
 have sq: ∀A' H',nE A H A' H'->SqL K H' a vs:=λA' H' P=>by
  rcases c with⟨n,c⟩|c
  .exact .inl (Rd.pres P n c).2
  .exact .inr c
 have get: ∀i,i<l.length-> ∃x,vs[i]? =some x/\Rep K A H (l.getD i .non) x:=λi hi=>r.get (by rw[aJ,aM hi];rfl)
 refine⟨λA' H' i P hi=> ?_,λA' H' i x H'' P hA hi y=> ?_,λA' H' P=>⟨vs,sq _ _ P,by rw[r.length];exact aD _⟩⟩
 .obtain⟨x,e,_⟩:=get i hi;exact⟨vs,x,sq _ _ P,e⟩
 .obtain⟨x',e,r'⟩:=get i hi;obtain⟨rfl,y⟩:=y;have:=y vs (sq _ _ P);rw[e]at this;cases this;exact⟨.refl _,r'.mono P⟩
theorem d24 {A:AS}{vs:List V}{l:List D}(c:(¬A a/\Rd H a (.tup vs))\/KT K a vs)(r:cD K A H l vs):cF0 K A H (Itt K a) l.length (λi=>l.getD i .non):=by
 have sq: ∀A' H',nE A H A' H'->SqT K H' a vs:=λA' H' P=>by
  rcases c with⟨n,c⟩|c
  .exact .inl (Rd.pres P n c).2
  .exact .inr c
 have get: ∀i,i<l.length-> ∃x,vs[i]? =some x/\Rep K A H (l.getD i .non) x:=λi hi=>r.get (by rw[aJ,aM hi];rfl)
 refine⟨λA' H' i P hi=> ?_,λA' H' i x H'' P hA hi y=> ?_,λA' H' P=>⟨vs,sq _ _ P,by rw[r.length];exact aD _⟩⟩
 .obtain⟨x,e,_⟩:=get i hi;exact⟨vs,x,sq _ _ P,e⟩
 .obtain⟨x',e,r'⟩:=get i hi;obtain⟨rfl,y⟩:=y;have:=y vs (sq _ _ P);rw[e]at this;cases this;exact⟨.refl _,r'.mono P⟩
theorem i8 (h:PU X e te):PUI X tg e (i7 te):=b93 (pi_any h) λσ H R ⟨C,ρ,Q0,I,h,k⟩=>⟨C,ρ,_,I,h,λb ρ1 v H1 q f s r=>by
 have rr:=r.rep λa z=>I.avF f z
 generalize b.d=d at q rr;cases d with
 | tup l=>
  simp only[Rep]at rr;obtain⟨a,vs,rfl,c,rs⟩:=rr;exact⟨a,rfl,.inr ⟨vs,c.imp d7 id,k _ _ ρ1 _ H1 q f s<|d24 c rs⟩⟩
 | lst l=>
  simp only[Rep]at rr;obtain⟨a,vs,rfl,n,c,rs⟩:=rr;exact⟨a,rfl,.inl ⟨vs,.inl<|.inl c,k _ _ ρ1 _ H1 q f s<|bO7 (.inl ⟨n,.inl c⟩) rs⟩⟩
 | rol l=>
  simp only[Rep]at rr;obtain⟨a,vs,rfl,c,rs⟩:=rr;exact⟨a,rfl,.inl ⟨vs,c.imp d7 id,k _ _ ρ1 _ H1 q f s<|bO7 c rs⟩⟩
 | _=>exact(show False from q).elim⟩
theorem b94 {A:AS}:cF0 K A H (Itr lo n) n (λi=> .int (lo+i)):=
 ⟨λ_ _ _ _ h=>h,λ_ _ i x H'' _ _ _ ⟨e,y⟩=>by subst e;subst y;exact⟨.refl _,by simp only[Rep]⟩,λ_ _ _=>aD n⟩
def jJ (ta:UA):UI:=λρ Q=>ta ρ λds ρ1=>match ds with
 | [.int j]=>(-(2^62)<=j/\j<2^62)/\Q j.toNat (λi=> .int (0+i)) ρ1
 | _=>False
def vE (ta:UA):UI:=λρ Q=>ta ρ λds ρ1=>match ds with
 | [.int i,.int j]=>(-(2^62)<=i/\i<2^62/\ -(2^62)<=j/\j<2^62)/\Q (j-i).toNat (λk=> .int (i+k)) ρ1
 | _=>False
theorem bQ {A:AS}{i:Int}{v:V}(h:Rep K A H (.int i) v):v= .int i:=by simpa only[Rep]using h
theorem fQ {a:Expr}{ta:UA}(hg:Gl X "range")(hm:X.mg "range"=none)(ha:PUA X [a] ta)(hs:↥(starEach [a] X.env=[(false,eval a X.env)])):PUI X tg (.Call (.Name "range" p) [a] [] pos) (jJ ta):=
 b93 (cS3 hg hm ha hs) λσ H R ⟨C,ρ,Q0,I,h,k⟩=>⟨C,ρ,_,I,h,λds ρ1 vs H1 q f s r=>by
  split at q
  .rename_i j
   obtain⟨v,vr,rfl,rv,rr⟩:=r.uncons;have:=rr.unnil;subst this;have:=bQ rv;subst this;obtain⟨⟨h1,h2⟩,q⟩:=q;exact⟨j,rfl,h1,h2,k _ _ ρ1 _ H1 q f s b94⟩
  .exact q.elim⟩
theorem k7 {a b:Expr}{ta:UA}(hg:Gl X "range")(hm:X.mg "range"=none)(ha:PUA X [a,b] ta)(hs:↥(starEach [a,b] X.env=[(false,eval a X.env),(false,eval b X.env)]))(hs2:↥(starEach [b] X.env=[(false,eval b X.env)])) :
  PUI X tg (.Call (.Name "range" p) [a,b] [] pos) (vE ta):=
 b93 (cS4 hg hm ha hs hs2) λσ H R ⟨C,ρ,Q0,I,h,k⟩=>⟨C,ρ,_,I,h,λds ρ1 vs H1 q f s r=>by
  split at q
  .rename_i i j
   obtain⟨v,vr,rfl,rv,rr⟩:=r.uncons;obtain⟨w,wr,rfl,rw',rr'⟩:=rr.uncons;have:=rr'.unnil;subst this;have:=bQ rv;subst this;have:=bQ rw';subst this;obtain⟨hb,q⟩:=q;exact⟨i,j,rfl,hb,k _ _ ρ1 _ H1 q f s b94⟩
  .exact q.elim⟩
end
section
variable {X:Cx}{a b e o:Expr}{es:List Expr}{pos:Pos}{ta tb te ti:UE}{K:PySem.W.Frag}{C:C0}{ρ ρ':Ev}{σ σ':L2.St}{H H':Hp}{A:AS}
theorem Frz.ow {l:List D}(f:Frz ρ ρ')(h:ρ'[i]? =some (some<|.ow l)):ρ[i]? =some (some<|.ow l):=by
 rcases f.2 i with q| ⟨l',_,q⟩
 .exact q▸h
 .rw[q]at h;cases h
def oU (ρ:Ev)(i:Nat)(Q:List D->Prop):Prop:=match ρ[i]? with
 | some (some<|.ow l)=>Q l
 | _=>False
theorem mS {Q:List D->Prop}(h:oU ρ i Q): ∃l,ρ[i]? =some (some<|.ow l)/\Q l:=by
 unfold oU at h;split at h
 .rename_i l e
  exact⟨l,e,h⟩
 .exact h.elim
def aQ4 (i:Nat)(t:UE):US:=λD ρ=>oU ρ i λ_=>t ρ λb ρ1=>oU ρ1 i λl=>l.length<sizeLine/\D.nx (ρ1.set i<|some<|.ow<|l++[b.d])
theorem oV {apos:Pos}(i:Nat)(hx:PE X (.Name x p) (aG0 i))(he:PU X e te)
  (hbase:↥(attributeBase (.Name x p) "append" X.env (eval (.Name x p) X.env)=eval (.Name x p) X.env))
  (hfew:↥(((backTo cpos<|starEach [e] X.env).all (λx=> !x.1)&&(backToKw cpos<|keywordEach [] X.env).all (λx=>x.1.isSome)
   &&decide ([e].length+([]:List Keyword).length+(if([]:List Keyword).isEmpty then 0 else 1)<30))=true))
  (hline:↥((apos.endLine==cpos.line)=true)) (hs:↥(starEach [e] X.env=(false,eval e X.env)::starEach [] X.env)) (hplain:↥((backTo cpos<|starEach [] X.env).any (·.1)=false))
  (hw:↥(swapsWith (.Call (.Attribute (.Name x p) "append" apos) [e] [] cpos) none pos.line X.env=pure false)) :
  PUS X (.Expr (.Call (.Attribute (.Name x p) "append" apos) [e] [] cpos) pos) (aQ4 i te):=
 tO (bT8 (pe_bm PySem.F.plainAttrs_list PySem.F.slot_list_append PySem.F.type_list_append bO3 hx (bU0 he cE1 hs) hbase hfew hline hs hplain) hw) λD σ H ⟨C,ρ,D0,I,h,k⟩=>by
  obtain⟨l,hl,h⟩:=mS h;obtain⟨a,vs,h1,h2,h3,h4⟩:=I.ow i l hl;refine⟨.ref a,h1,.inl ⟨rfl,vs,SqL.of h2⟩,C,ρ,_,I,h,λb ρ1 v H1 q f s r=> ?_⟩
  obtain⟨l',hl',hz,q⟩:=mS q;have e:=f.ow hl';rw[hl]at e;cases e;have I1:=(I.frz f).same s;obtain⟨a',vs',g1,g2,g3,g4⟩:=I1.ow i l hl';rw[h1]at g1;cases g1;refine⟨a,vs',v,rfl,rfl,g2,by rw[<-g4.length];exact hz,k.nx _ _ _ q ?_⟩
  exact I1.write hl' h1 (g4.append<|.cons (r.rep λa z=>I.avF f z) .nil)
def b95 (i:Nat)(t ti:UE):US:=λD ρ=>t ρ λb ρ1=>oU ρ1 i λ_=>ti ρ1 λj ρ2=>oU ρ2 i λl=>match j.d with
 | .int k=>(match ixN l.length k with
  | some n=>D.nx (ρ2.set i<|some<|.ow<|l.set n b.d)
  | none=>False)
 | _=>False
theorem vF {ix:Expr}(i:Nat)(hx:PE X (.Name x p) (aG0 i))(he:PU X e te)(hi:PU X ix ti)
  (ha: ∀v,assign (.Subscript (.Name x p) ix tpos) X.env v=(do
   let ov<-holding [v] (eval (.Name x p) X.env)
   let iv<-holding [v,ov] (eval ix X.env)
   standAt tpos
   holding [v,ov,iv] (setItem ov iv v)
   release [v,ov,iv] []):=by intro _;rfl)
  (hs:↥(swapsWithSole [.Subscript (.Name x p) ix tpos] e pos.line X.env=pure false)) (hw:↥(swappedStores [.Subscript (.Name x p) ix tpos] e X.env=pure none))
  (h1:↥((assignEach [.Subscript (.Name x p) ix tpos] X.env).map (·.2)=[assign (.Subscript (.Name x p) ix tpos) X.env])):PUS X (.Assign [.Subscript (.Name x p) ix tpos] e pos) (b95 i te ti):=
 tO (cZ8 he (pg_sub hx hi c36 ha) hs hw h1) λD σ H ⟨C,ρ,D0,I,h,k⟩=>⟨C,ρ,_,I,h,λb ρ1 v H1 q f s r=>by
  obtain⟨l,hl,q⟩:=mS q;have I1:=(I.frz f).same s;obtain⟨a,vs,h1,h2,h3,h4⟩:=I1.ow i l hl;refine⟨.ref a,h1,C,ρ1,_,I1,q,λj ρ2 w H2 q2 f2 s2 r2=> ?_⟩
  obtain⟨l',hl',q2⟩:=mS q2;have e:=f2.ow hl';rw[hl]at e;cases e;have I2:=(I1.frz f2).same s2;obtain⟨a',vs',g1,g2,g3,g4⟩:=I2.ow i l hl';rw[h1]at g1;cases g1;have rj:=r2.rep λa z=>I1.avF f2 z
  generalize j.d=dj at q2 rj;split at q2
  .rename_i kk
   have:=bQ rj;subst this;split at q2
   .rename_i n hn
    refine⟨a,vs',kk,n,rfl,rfl,g2,by rw[<-g4.length];exact hn,k.nx _ _ _ q2 ?_⟩
    exact I2.write hl' h1 (g4.set n<|(r.rep λa z=>I.avF f z).mono<|.sub s2 λa=>f2.av)
   .exact q2.elim
  .exact q2.elim⟩
def gIx (d i:D)(Q:D->Prop):Prop:=match sI d,i with
 | some l,.int k=>(match atI l k with
  | some x=>Q x
  | none=>False)
 | _,_=>False
def uIx (t:UV)(ti:UE):UE:=λρ Q=>t ρ λd ρ1=>ti ρ1 λi ρ2=>gIx d i.d λx=>Q (.pu x) ρ2
theorem cD.atI {l:List D}{vs:List V}{k:Int}{x:D}(r:cD K A H l vs)(h:atI l k=some x): ∃v,L2.atI vs k=some v/\Rep K A H x v:=by
 unfold L2.atI at h⊢;cases e:ixN l.length k with
 | none=>rw[e]at h;cases h
 | some j=>
  rw[e]at h;rw[<-r.length,e];exact r.get h
theorem cE6.mono {A':AS}(s:iV H H')(h: ∀a,A' a->A a): ∀{d:D} {v:V},cE6 K A H d v->cE6 K A' H' d v
 | .non,_,r=>Rep.mono (.sub s h) r
 | .bl _,_,r=>Rep.mono (.sub s h) r
 | .int _,_,r=>Rep.mono (.sub s h) r
 | .str _,_,r=>Rep.mono (.sub s h) r
 | .ty _,_,r=>Rep.mono (.sub s h) r
 | .tup _,_,⟨a,vs,e,c,r⟩=>⟨a,vs,e,c.imp (λc=>c.imp (s _ _) λ⟨o,z⟩=>⟨o,s _ _ z⟩) id,r.mono<|.sub s h⟩
 | .lst _,_,⟨a,vs,e,c,r⟩=>⟨a,vs,e,s _ _ c,r.mono<|.sub s h⟩
 | .rol _,_,⟨a,vs,e,c,r⟩=>⟨a,vs,e,s.seq c,r.mono<|.sub s h⟩
 | .obj _ _ _,_,r=>Rep.mono (.sub s h) r
 | .adr _,_,r=>Rep.mono (.sub s h) r
 | .xob _ _ _ _,_,r=>Rep.mono (.sub s h) r
theorem cE6.seq {d:D}{v:V}{l:List D}(r:cE6 K A H d v)(h:sI d=some l): ∃a vs,v= .ref a/\(SqL K H a vs\/SqT K H a vs)/\cD K A H l vs:=by
 cases d with
 | tup l'=>cases h;obtain⟨a,vs,e,c,r⟩:=r;exact⟨a,vs,e,.inr c,r⟩
 | lst l'=>cases h;obtain⟨a,vs,e,c,r⟩:=r;exact⟨a,vs,e,.inl<|SqL.of c,r⟩
 | rol l'=>cases h;obtain⟨a,vs,e,c,r⟩:=r;exact⟨a,vs,e,.inl c,r⟩
 | _=>cases h
theorem dJ7 {d i:D}{Q:D->Prop}(h:gIx d i Q): ∃l k x,sI d=some l/\i= .int k/\atI l k=some x/\Q x:=by
 unfold gIx at h;split at h
 .rename_i l k e
  split at h
  .rename_i x ex
   exact⟨l,k,x,e,rfl,ex,h⟩
  .exact h.elim
 .exact h.elim
theorem a96 {t:UV}(ha:PUV X a t)(hb:PU X b ti)(hs:bU1 b):PU X (.Subscript a b pos) (uIx t ti):=
 k6 (pe_ix ix_seq ha hb hs) λσ H Q ⟨C,ρ,Q0,I,h,k⟩=>⟨C,ρ,_,I,h,λd ρ1 v H1 q f s r=>by
  have I1:=(I.frz f).same s;refine⟨C,ρ1,_,I1,q,λi ρ2 w H2 q2 f2 s2 r2=> ?_⟩
  obtain⟨l,kk,x,e1,e2,e3,q2⟩:=dJ7 q2;have ri:=r2.rep λa z=>I1.avF f2 z
  rw[e2]at ri;have:=bQ ri;subst this;obtain⟨a,vs,rfl,c,rs⟩:=(r.mono (A':=Av C ρ2 σ) s2 λa=>f2.av).seq e1
  obtain⟨u,e4,r4⟩:=rs.atI e3;have fin:=k (.pu x) ρ2 u H2 q2 (f.trans f2) (s.trans s2) r4;rcases c with c|c
  .exact .inl ⟨a,vs,kk,u,rfl,rfl,c,e4,fin⟩
  .exact .inr (.inl ⟨a,vs,kk,u,rfl,rfl,c,e4,fin⟩)⟩
abbrev UO:=Ev->(Option Int->Ev->Prop)->Prop
def lO (K:PySem.W.Frag)(t:UO):TO:=λσ H Q=> ∃C ρ Q0,EOk K C ρ σ H/\t ρ Q0/\ ∀i ρ' H',Q0 i ρ'->Frz ρ ρ'->iV H H'->Q i H'
def PUO (X:Cx)(e:Option Expr)(t:UO):Prop:=PO X e (lO X.K t)
theorem dT3 {e:Option Expr}{t t':TO}(h:PO X e t)(i: ∀σ H Q,t' σ H Q->t σ H Q):PO X e t':=λpins s σ H Q I q=>h pins s σ H Q I (i σ H Q q)
def jA:UO:=λρ Q=>Q none ρ
def n8 (t:UE):UO:=λρ Q=>t ρ λb ρ1=>match b.d with
 | .int i=>Q (some i) ρ1
 | _=>False
theorem jK:PUO X none jA:=dT3 dI8 λσ H Q ⟨C,ρ,Q0,I,h,k⟩=>k _ _ _ h (.refl _) (.refl _)
theorem iO (h:PU X e te):PUO X (some e) (n8 te):=dT3 (dI9 h) λσ H Q ⟨C,ρ,Q0,I,h,k⟩=>⟨C,ρ,_,I,h,λb ρ1 v H1 q f s r=>by
 have r':=r.rep λa z=>I.avF f z
 generalize b.d=d at q r';split at q
 .exact⟨_,bQ r',k _ _ _ q f s⟩
 .exact q.elim⟩
noncomputable def cutD (l:List D)(lo hi:Option Int):List D:=(l.drop<|HT.sIx l.length 0 lo).take (HT.sIx l.length l.length hi-HT.sIx l.length 0 lo)
theorem cD.cut {l:List D}{vs:List V}(r:cD K A H l vs)(lo hi:Option Int):cD K A H (cutD l lo hi) (c35 vs lo hi):=by
 unfold cutD c35;rw[r.length];exact(r.drop _).take _
def gSl (d:D)(lo hi:Option Int)(Q:B->Prop):Prop:=match d with
 | .tup l=> ¬(HT.sIx l.length 0 lo=0/\HT.sIx l.length l.length hi=l.length)/\Q (.pu<|.tup<|cutD l lo hi)
 | .lst l=>Q (.ow<|cutD l lo hi)
 | .rol l=>Q (.ow<|cutD l lo hi)
 | _=>False
def uSl (t:UV)(tl th:UO):UE:=λρ Q=>t ρ λd ρ1=>tl ρ1 λlo ρ2=>th ρ2 λhi ρ3=>gSl d lo hi λb=>Q b ρ3
theorem jL {t:UV}{tl th:UO}{lo hi:Option Expr}(he:PUV X e t)(hl:PUO X lo tl)(hu:PUO X hi th):PU X (.Subscript e (.Slice lo hi none p2) pos) (uSl t tl th):=
 k6 (c34 (cM3.or d13) he hl hu) λσ H Q ⟨C,ρ,Q0,I,h,k⟩=>⟨C,ρ,_,I,h,λd ρ1 v H1 q f s r=>by
  have I1:=(I.frz f).same s;refine⟨C,ρ1,_,I1,q,λl2 ρ2 H2 q2 f2 s2=> ?_⟩
  have I2:=(I1.frz f2).same s2;refine⟨C,ρ2,_,I2,q2,λh3 ρ3 H3 q3 f3 s3=> ?_⟩
  have I3:=(I2.frz f3).same s3;have s13:=s2.trans s3;have sAll:=s.trans s13;have fAll:=f.trans (f2.trans f3);have r':=r.mono (A':=Av C ρ3 σ) s13 λa z=>f2.av (f3.av z)
  cases d with
  | tup l=>
   obtain⟨hw,q3⟩:=q3;obtain⟨a,vs,rfl,c,rs⟩:=r';exact .inr ⟨a,vs,rfl,c,by rw[<-rs.length];exact hw,λp n=>k _ ρ3 _ _ q3 fAll (sAll.trans<|gF n _) (kF (λa z=>I3.avSome z) n<|rs.cut l2 h3)⟩
  | lst l=>
   obtain⟨a,vs,rfl,c,rs⟩:=r';exact .inl ⟨a,vs,rfl,SqL.of c,λp n=>k _ ρ3 _ _ q3 fAll (sAll.trans<|gF n _) (iT sAll n<|rs.cut l2 h3)⟩
  | rol l=>
   obtain⟨a,vs,rfl,c,rs⟩:=r';exact .inl ⟨a,vs,rfl,c,λp n=>k _ ρ3 _ _ q3 fAll (sAll.trans<|gF n _) (iT sAll n<|rs.cut l2 h3)⟩
  | _=>exact(show False from q3).elim⟩
def Sm (i:Int):Prop:=i.natAbs<2^9000
theorem Sm.log {i:Int}(h:Sm i):i.natAbs.log2<9000:=by
 by_cases z:i.natAbs=0
 .rw[z];decide
 .exact(Nat.log2_lt z).mpr h
def gI (d e:D)(Q:B->Prop):Prop:=match d,e with
 | .int i,.int j=>Q (.pu<|.int<|i+j)
 | .lst l,.lst m=>l.length+m.length<=sizeLine/\Q (.ow<|l++m)
 | .tup l,.tup m=>l.length+m.length<=sizeLine/\Q (.pu<|.tup<|l++m)
 | _,_=>False
theorem d25:OpR X (binaryOp .Add) (λx y H Q=> ∃a b ys,x= .ref a/\y= .ref b/\SqT X.K H a []/\SqT X.K H b ys/\Q (.ref b) H):=by
 intro pins s σ H x y v u Q I rx ry h;obtain⟨a,b,ys,rfl,rfl,ha,hb,q⟩:=h;cases rx;cases ry;obtain⟨its,r1,p1,_⟩:=I.tuple ha;obtain⟨its2,r2,p2,_⟩:=I.tuple hb;have e:its=[]:=by
  have:=r1.length;exact uG.mp this.symm
 subst e;obtain⟨⟨cls,dd,data,sl⟩,ho,hc,n,hd⟩:=id p1;obtain⟨⟨cls2,dd2,data2,sl2⟩,ho2,hc2,n2,hd2⟩:=id p2;simp only at hc hd hc2 hd2;subst hc hd hc2 hd2;exact concat_meets ⟨_,ho,rfl⟩ ⟨_,ho2,rfl⟩ aM2 seq_tuple_add aK0 aJ4 (aI9 _ _) (tuple_addW0 a b _ its2.toArray n n2 dd dd2 sl sl2 rfl) ⟨ho,ho2,⟨.ref b,H,I,rfl,q⟩⟩
theorem a97 {i:Int}:rK K A H H' (.pu<|.int i) (.int i):=by
 show Rep K A H' (.int i) (.int i)
 simp only[Rep]
theorem cL:OpU X (binaryOp .Add) gI:=by
 intro A H d e v w Q0 Q hA r1 r2 g k;unfold gI at g;split at g
 .rename_i i j
  exact⟨_,op_add,i,j,bQ r1,bQ r2,k _ _ H g (.refl _) a97⟩
 .rename_i l m
  simp only[Rep]at r1 r2;obtain⟨a,vs,rfl,n1,c1,rs1⟩:=r1;obtain⟨b,ws,rfl,n2,c2,rs2⟩:=r2;exact⟨_,op_cat,a,b,vs,ws,rfl,rfl,c1,c2,by rw[<-rs1.length,<-rs2.length];exact g.1,λp n=>k _ _ _ g.2 (gF n _) (iT (.refl _) n<|rs1.append rs2)⟩
 .rename_i l m
  simp only[Rep]at r1 r2;obtain⟨a,vs,rfl,c1,rs1⟩:=r1;obtain⟨b,ws,rfl,c2,rs2⟩:=r2;obtain⟨hz,g⟩:=g
  by_cases hn:l=[]
  .subst hn;have e1:vs=[]:=rs1.unnil;subst e1;refine⟨_,d25,a,b,ws,rfl,rfl,c1.imp d7 id,c2.imp d7 id,k _ _ H g (.refl _) ?_⟩;show Rep X.K A H (.tup m) (.ref b);simp only[Rep];exact⟨b,ws,rfl,c2,rs2⟩
  refine⟨_,dJ0,a,b,vs,ws,rfl,rfl,c1.imp d7 id,c2.imp d7 id,λz=>hn ?_,by rw[<-rs1.length,<-rs2.length];exact hz,λz=> ?_,λz p n=> ?_⟩
  .have:=rs1.length;rw[z]at this;exact uG.mp this
  .have e2:=rs2.length;rw[z]at e2;have e3:m=[]:=uG.mp e2;subst e3;rw[kO]at g;refine k _ _ H g (.refl _) ?_;show Rep X.K A H (.tup l) (.ref a);simp only[Rep];exact⟨a,vs,rfl,c1,rs1⟩
  .exact k _ _ _ g (gF n _) (kF hA n<|rs1.append rs2)
 .exact g.elim
def gI2 (f:Int->Int->(B->Prop)->Prop)(d e:D)(Q:B->Prop):Prop:=match d,e with
 | .int i,.int j=>f i j Q
 | _,_=>False
theorem u4 {f:Int->Int->(B->Prop)->Prop}{d e:D}{Q:B->Prop}(h:gI2 f d e Q): ∃i j,d= .int i/\e= .int j/\f i j Q:=by
 unfold gI2 at h;split at h
 .exact⟨_,_,rfl,rfl,h⟩
 .exact h.elim
def gSub:D->D->(B->Prop)->Prop:=gI2 λi j Q=>Q (.pu<|.int<|i-j)
theorem b5:OpU X (binaryOp .Sub) gSub:=by
 intro A H d e v w Q0 Q hA r1 r2 g k;obtain⟨i,j,rfl,rfl,g⟩:=u4 g;exact⟨_,op_sub,i,j,bQ r1,bQ r2,k _ _ H g (.refl _) a97⟩
theorem cM4 {i:Int}(h:Sm i):Builtin.Int.intBits i<=2^20:=aI (PyProof.Rows.intBits_le h) ac
def bZ (d e:D)(Q:B->Prop):Prop:=match d,e with
 | .int i,.int j=>(c31 i j\/(Sm i/\Sm j))/\Q (.pu<|.int<|i*j)
 | .lst l,.int k=>(-(2^63)<=k/\k<2^63/\l.length*k.toNat<=sizeLine)/\Q (.ow (replicate k.toNat l).flatten)
 | _,_=>False
theorem dJ8:OpR X (binaryOp .Mult) (rI (λi j=>c31 i j\/(Sm i/\Sm j)) λi j=> .int (i*j)):=opI λ_ _ _ _ _ _ _ hc q=>mul_int q (hc.elim c31.ok λh=> .of_bits (cM4 h.1) (cM4 h.2))
theorem aU:OpU X (binaryOp .Mult) bZ:=by
 intro A H d e v w Q0 Q hA r1 r2 g k;unfold bZ at g;split at g
 .rename_i i j
  exact⟨_,dJ8,i,j,bQ r1,bQ r2,g.1,k _ _ H g.2 (.refl _) a97⟩
 .rename_i l kk
  have:=bQ r2;subst this;simp only[Rep]at r1;obtain⟨a,vs,rfl,n1,c1,rs1⟩:=r1;obtain⟨⟨h1,h2,h3⟩,g⟩:=g;exact⟨_,op_rep,a,kk,vs,rfl,rfl,c1,h1,h2,by rw[<-rs1.length];exact h3,λp n=>k _ _ _ g (gF n _) (iT (.refl _) n<|rs1.rep _)⟩
 .exact g.elim
def aQ5:D->D->(B->Prop)->Prop:=gI2 λi j Q=>(j≠0/\Sm j)/\Q (.pu<|.int<|i.fdiv j)
def jC:D->D->(B->Prop)->Prop:=gI2 λi j Q=>j≠0/\Q (.pu<|.int<|i.fmod j)
theorem dJ9:OpR X (binaryOp .FloorDiv) (rI (λ_ j=>j≠0/\Sm j) λi j=> .int (i.fdiv j)):=opI λ_ _ _ _ _ _ _ hc q=>floordiv_int hc.1 q (.inl<|PyProof.noPylong_of_log2 hc.2.log)
theorem vG:OpU X (binaryOp .FloorDiv) aQ5:=by
 intro A H d e v w Q0 Q hA r1 r2 g k;obtain⟨i,j,rfl,rfl,g⟩:=u4 g;exact⟨_,dJ9,i,j,bQ r1,bQ r2,g.1,k _ _ H g.2 (.refl _) a97⟩
theorem dP:OpU X (binaryOp .Mod) jC:=by
 intro A H d e v w Q0 Q hA r1 r2 g k;obtain⟨i,j,rfl,rfl,g⟩:=u4 g;exact⟨_,dI2,i,j,bQ r1,bQ r2,g.1,k _ _ H g.2 (.refl _) a97⟩
def dK0:D->D->(B->Prop)->Prop:=gI2 λi j Q=>dI1 i j/\Q (.pu<|.int<|i^j.toNat)
theorem d26:OpU X (binaryOp .Pow) dK0:=by
 intro A H d e v w Q0 Q hA r1 r2 g k;obtain⟨i,j,rfl,rfl,g⟩:=u4 g;exact⟨_,op_pow,i,j,bQ r1,bQ r2,g.1,k _ _ H g.2 (.refl _) a97⟩
def pH (p:Int->Int->Bool):D->D->(B->Prop)->Prop:=gI2 λi j Q=>Q (.pu<|.bl<|p i j)
theorem bV3 {p:Int->Int->Bool}(ho:OpR X (compareOp op) (rI0 λi j=> .bl (p i j))):OpU X (compareOp op) (pH p):=by
 intro A H d e v w Q0 Q hA r1 r2 g k;obtain⟨i,j,rfl,rfl,g⟩:=u4 g;exact⟨_,ho,i,j,bQ r1,bQ r2,k _ _ H g (.refl _) lX⟩
theorem b30:OpU X (compareOp .Lt) (pH λi j=>decide (i<j)):=bV3 op_lt
theorem d27:OpU X (compareOp .LtE) (pH λi j=>decide (i<=j)):=bV3 op_le
theorem aQ6:OpU X (compareOp .Gt) (pH λi j=>decide (j<i)):=bV3 op_gt
theorem dT4:OpU X (compareOp .GtE) (pH λi j=>decide (j<=i)):=bV3 op_ge
def fH (neg:Bool)(d e:D)(Q:B->Prop):Prop:=match d,e with
 | .int i,.int j=>Q (.pu<|.bl<|neg ^^ decide (i=j))
 | .bl i,.bl j=>Q (.pu<|.bl<|neg ^^ decide (i=j))
 | .str i,.str j=>Q (.pu<|.bl<|neg ^^ decide (i=j))
 | _,_=>False
theorem wU {b:Bool}{v:V}(h:Rep K A H (.bl b) v):v= .bl b:=by simpa only[Rep]using h
theorem aQ7 {b:Str}{v:V}(h:Rep K A H (.str b) v):v= .str b:=by simpa only[Rep]using h
theorem fP:OpU X (compareOp .Eq) (fH false):=by
 intro A H d e v w Q0 Q hA r1 r2 g k;unfold fH at g;split at g
 .rw[bQ r1,bQ r2];exact⟨_,d02,rfl,k _ _ H g (.refl _) (by rw[b68,lL,qJ];exact lX)⟩
 .rw[wU r1,wU r2];exact⟨_,d02,rfl,k _ _ H g (.refl _) (by rw[bT9,lL,qJ];exact lX)⟩
 .rw[aQ7 r1,aQ7 r2];exact⟨_,d02,rfl,k _ _ H g (.refl _) (by rw[b69,lL,qJ];exact lX)⟩
 .exact g.elim
theorem yY:OpU X (compareOp .NotEq) (fH true):=by
 intro A H d e v w Q0 Q hA r1 r2 g k;unfold fH at g;split at g
 .rw[bQ r1,bQ r2];exact⟨_,d03,rfl,k _ _ H g (.refl _) (by rw[b68,lM,qJ];exact lX)⟩
 .rw[wU r1,wU r2];exact⟨_,d03,rfl,k _ _ H g (.refl _) (by rw[bT9,lM,qJ];exact lX)⟩
 .rw[aQ7 r1,aQ7 r2];exact⟨_,d03,rfl,k _ _ H g (.refl _) (by rw[b69,lM,qJ];exact lX)⟩
 .exact g.elim
end
section
variable {X:Cx}{a b e o:Expr}{es:List Expr}{pos:Pos}{ta tb te ti:UE}{K:PySem.W.Frag}{C:C0}{ρ ρ':Ev}{σ σ':L2.St}{H H':Hp}{A:AS}
def sJ (t:UE):UE:=λρ Q=>t ρ λb ρ1=>match b.d with
 | .int i=>Q (.pu<|.int<|-i) ρ1
 | _=>False
theorem oH (h:PU X a ta):PU X (.UnaryOp .USub a pos) (sJ ta):=
 k6 (pe_un un_neg h) λσ H Q ⟨C,ρ,Q0,I,h,k⟩=>⟨C,ρ,_,I,h,λb ρ1 v H1 q f s r=>by
  have r':=r.rep λa z=>I.avF f z
  generalize b.d=d at q r';split at q
  .exact⟨_,bQ r',k _ _ _ _ q f s a97⟩
  .exact q.elim⟩
theorem cF1:IpU X .Add (gI2 λi j Q=>Q (.pu<|.int<|i+j)):=by
 intro A H d e v w Q0 Q hA r1 r2 g k;obtain⟨i,j,rfl,rfl,g⟩:=u4 g;exact⟨_,ip_add,i,j,bQ r1,bQ r2,k _ _ H g (.refl _) a97⟩
theorem iu_sub:IpU X .Sub (gI2 λi j Q=>Q (.pu<|.int<|i-j)):=by
 intro A H d e v w Q0 Q hA r1 r2 g k;obtain⟨i,j,rfl,rfl,g⟩:=u4 g;exact⟨_,cZ9,i,j,bQ r1,bQ r2,k _ _ H g (.refl _) a97⟩
def g1 (f:D->(B->Prop)->Prop)(ds:List D)(Q:B->Prop):Prop:=match ds with
 | [d]=>f d Q
 | _=>False
def g2 (f:D->D->(B->Prop)->Prop)(ds:List D)(Q:B->Prop):Prop:=match ds with
 | [d,e]=>f d e Q
 | _=>False
theorem a39 {f:D->(B->Prop)->Prop}{ds:List D}{Q:B->Prop}{vs:List V}(h:g1 f ds Q)(r:cD K A H ds vs): ∃d v,ds=[d]/\vs=[v]/\Rep K A H d v/\f d Q:=by
 unfold g1 at h;split at h
 .obtain⟨v,vr,rfl,rv,rr⟩:=r.uncons;have:=rr.unnil;subst this;exact⟨_,v,rfl,rfl,rv,h⟩
 .exact h.elim
theorem cF2 {f:D->D->(B->Prop)->Prop}{ds:List D}{Q:B->Prop}{vs:List V}(h:g2 f ds Q)(r:cD K A H ds vs): ∃d e v w,ds=[d,e]/\vs=[v,w]/\Rep K A H d v/\Rep K A H e w/\f d e Q:=by
 unfold g2 at h;split at h
 .obtain⟨v,vr,rfl,rv,rr⟩:=r.uncons;obtain⟨w,wr,rfl,rw',rr'⟩:=rr.uncons;have:=rr'.unnil;subst this;exact⟨_,_,v,w,rfl,rfl,rv,rw',h⟩
 .exact h.elim
def dK1 (f:Int->(B->Prop)->Prop)(d:D)(Q:B->Prop):Prop:=match d with
 | .int i=>f i Q
 | _=>False
theorem d28 {f:Int->(B->Prop)->Prop}{d:D}{Q:B->Prop}(h:dK1 f d Q): ∃i,d= .int i/\f i Q:=by
 unfold dK1 at h;split at h
 .exact⟨_,rfl,h⟩
 .exact h.elim
def c42:List D->(B->Prop)->Prop:=g1 (dK1 λi Q=>Q (.pu<|.int<|if i<0 then -i else i))
theorem aY5:vD X (.builtin "abs") c42:=by
 intro A H ds vs Q0 Q hA r g k;obtain⟨d,v,rfl,rfl,rv,g⟩:=a39 g r;obtain⟨i,rfl,g⟩:=d28 g;exact⟨_,d05,i,by rw[bQ rv],k _ _ H g (.refl _) a97⟩
def gMax:List D->(B->Prop)->Prop:=g2 (gI2 λi j Q=>Q (.pu<|.int<|if j>i then j else i))
theorem cu_max (hc:X.calm=true):vD X (.builtin "max") gMax:=by
 intro A H ds vs Q0 Q hA r g k;obtain⟨d,e,v,w,rfl,rfl,rv,rw',g⟩:=cF2 g r;obtain⟨i,j,rfl,rfl,g⟩:=u4 g;exact⟨_,cS6 hc,i,j,by rw[bQ rv,bQ rw'],k _ _ H g (.refl _) a97⟩
def gMin:List D->(B->Prop)->Prop:=g2 (gI2 λi j Q=>Q (.pu<|.int<|if j<i then j else i))
theorem cu_min (hc:X.calm=true):vD X (.builtin "min") gMin:=by
 intro A H ds vs Q0 Q hA r g k;obtain⟨d,e,v,w,rfl,rfl,rv,rw',g⟩:=cF2 g r;obtain⟨i,j,rfl,rfl,g⟩:=u4 g;exact⟨_,cS7 hc,i,j,by rw[bQ rv,bQ rw'],k _ _ H g (.refl _) a97⟩
def b96:List D->(B->Prop)->Prop:=g1 λd Q=>match d with
 | .int i=>Q (.pu<|.int i)
 | .bl k=>Q (.pu<|.int<|if k then 1 else 0)
 | _=>False
theorem d29:vD X (.type "int") b96:=by
 intro A H ds vs Q0 Q hA r g k;obtain⟨d,v,rfl,rfl,rv,g⟩:=a39 g r;cases d with
 | int i=>exact⟨_,bN5,.inl ⟨i,by rw[bQ rv],k _ _ H g (.refl _) a97⟩⟩
 | bl c=>exact⟨_,bN5,.inr ⟨c,by rw[wU rv],k _ _ H g (.refl _) a97⟩⟩
 | _=>exact(show False from g).elim
noncomputable def eM:List D->(B->Prop)->Prop:=g1 λd Q=>match sI d with
 | some l=>Q (.pu<|.tup l)
 | none=>False
theorem iP:vD X (.type "tuple") eM:=by
 intro A H ds vs Q0 Q hA r g k;obtain⟨d,v,rfl,rfl,rv,g⟩:=a39 g r;cases d with
 | tup l=>
  have rv':=rv;simp only[Rep]at rv;obtain⟨a,vs,rfl,c,rs⟩:=rv;exact⟨_,xT,a,vs,rfl,.inr ⟨c.imp d7 id,k _ _ H g (.refl _) rv'⟩⟩
 | lst l=>
  simp only[Rep]at rv;obtain⟨a,vs,rfl,n,c,rs⟩:=rv;exact⟨_,xT,a,vs,rfl,.inl ⟨SqL.of c,λp n=>k _ _ _ g (gF n _) (kF hA n rs)⟩⟩
 | rol l=>
  simp only[Rep]at rv;obtain⟨a,vs,rfl,c,rs⟩:=rv;exact⟨_,xT,a,vs,rfl,.inl ⟨c.imp d7 id,λp n=>k _ _ _ g (gF n _) (kF hA n rs)⟩⟩
 | _=>exact(show False from g).elim
noncomputable def aQ8:List D->(B->Prop)->Prop:=g1 λd Q=>match sI d with
 | some l=>Q (.ow l)
 | none=>False
theorem bV4:vD X (.type "list") aQ8:=by
 intro A H ds vs Q0 Q hA r g k;obtain⟨d,v,rfl,rfl,rv,g⟩:=a39 g r;cases e:sI d with
 | none=>simp only[e]at g
 | some l=>
  simp only[e]at g;obtain⟨a,vs,rfl,c,rs⟩:=rv.one.seq e;exact⟨_,bU6,a,vs,rfl,c,λp n=>k _ _ _ g (gF n _) (iT (.refl _) n rs)⟩
def jE (t:UV):UE:=λρ Q=>t ρ λd ρ1=>match sI d with
 | some l=>Q (.pu<|.int l.length) ρ1
 | none=>False
theorem dQ {t:UV}(ha:PUV X e t)(hg:Gl X "len")(hm:X.mg "len"=none)(hs:↥(starEach [e] X.env=(false,eval e X.env)::starEach [] X.env))
  (hpl:↥((backTo pos<|starEach [] X.env).any (·.1)=false)):PU X (.Call (.Name "len" p) [e] [] pos) (jE t):=
 k6 (c33 bU5 hg hm PySem.boot_len (bU0 ha cE1 hs) ac ac hs hpl) λσ H Q ⟨C,ρ,Q0,I,h,k⟩=>⟨C,ρ,_,I,h,λd ρ1 v H1 q f s r=>by
  cases e:sI d with
  | none=>simp only[e]at q
  | some l=>
   simp only[e]at q;obtain⟨a,vs,rfl,c,rs⟩:=r.seq e;exact⟨a,vs,rfl,c,k _ _ _ _ q f s (by rw[rs.length];exact a97)⟩⟩
theorem aM9 {x:Value}{T:String}{A:Around}
  {P:(Result->Shared->Prop)->Shared->Prop} (hm:Meets (Builtin.«isinstance» ⟨[x,.type T],[]⟩) (λ_ R s=>P R s)) (h:P (λr s'=>match r with| .ok (.ret v)=>Q v s'| .ok _=>False| .error e=>E e s') s) :
  wpAny (model prog w) A (call (.builtin "isinstance") [x,.type T]) Q E s:=
 call_function_any kind_isinstance plain_isinstance entry_isinstance (args_isinstance _ _) (hm _ _ _ _ _ h)
theorem rep_ty {T:String}{v:V}(h:Rep K A H (.ty T) v):v= .ty T:=by simpa only[Rep]using h
def rIsi (K:PySem.W.Frag):List V->Hp->VK->Prop:=λxs H Q=> ∃x T k,xs=[x,.ty T]/\Q (.bl k) H/\
 ((∃i,x= .int i/\((T="int"/\k=true)\/((T="bool"\/T="tuple"\/T="list")/\k=false)))\/(∃c,x= .bl c/\(T="int"\/T="bool")/\k=true)\/
  (∃a ys,x= .ref a/\SqT K H a ys/\((T="tuple"/\k=true)\/((T="int"\/T="list")/\k=false)))\/(∃a ys,x= .ref a/\SqL K H a ys/\((T="list"/\k=true)\/((T="int"\/T="tuple")/\k=false))))
theorem tyT (T:String)(h:T="int"\/T="bool"\/T="tuple"\/T="list"):typeOf (.type T)=pure (.type "type"):=by
 rcases h with rfl|rfl|rfl|rfl<;>first|rfl|decide
theorem vI:pE X (.builtin "isinstance") (rIsi X.K):=by
 intro pins s σ H xs us Q I r h;obtain⟨x,T,k,rfl,q,h⟩:=h;obtain⟨u,w',rfl,rx,ry⟩:=vals2 r;have e:w'=Value.type T:=ry;subst e;rcases h with⟨i,rfl,h⟩| ⟨c,rfl,h,rfl⟩| ⟨a,ys,rfl,hs,h⟩| ⟨a,ys,rfl,hs,h⟩
 .obtain⟨t,rfl⟩:=rx;rcases h with⟨rfl,rfl⟩| ⟨h,rfl⟩
  .exact uI (rJ s i t) (tyT _ ae) PyProof.Rows.sub_int_int ⟨.bl true,H,I,rfl,q⟩
  .rcases h with rfl|rfl|rfl
   .exact aM9 (aK8 ac (tyT _ ae) PyProof.Rows.sub_int_bool) ⟨.bl false,H,I.tok _,rfl,q⟩
   .exact aM9 (aK8 ac (tyT _ ae) PyProof.Rows.sub_int_tuple) ⟨.bl false,H,I.tok _,rfl,q⟩
   .exact aM9 (aK8 ac (tyT _ ae) PyProof.Rows.sub_int_list) ⟨.bl false,H,I.tok _,rfl,q⟩
 .cases rx;rcases h with rfl|rfl
  .exact uI (PySem.typeIs_bool s c) (tyT _ ae) PyProof.Rows.sub_bool_int ⟨.bl true,H,I,rfl,q⟩
  .exact uI (PySem.typeIs_bool s c) (tyT _ ae) PyProof.Rows.sub_bool_bool ⟨.bl true,H,I,rfl,q⟩
 .cases rx;obtain⟨its,rv,p,hz⟩:=I.tuple hs;obtain⟨o,ho,hc,_⟩:=id p;rcases h with⟨rfl,rfl⟩| ⟨h,rfl⟩
  .exact uI p.typeIs (tyT _ ae) PyProof.Rows.sub_tuple_tuple ⟨.bl true,H,I,rfl,q⟩
  .rcases h with rfl|rfl
   .exact aM9 (isinstance_false_tuple ac (tyT _ ae) PyProof.Rows.sub_tuple_int) ⟨⟨o,ho,hc⟩,.bl false,H,I.tok _,rfl,q⟩
   .exact aM9 (isinstance_false_tuple ac (tyT _ ae) PyProof.Rows.sub_tuple_list) ⟨⟨o,ho,hc⟩,.bl false,H,I.tok _,rfl,q⟩
 .cases rx;obtain⟨its,rv,p,hz⟩:=I.list hs;obtain⟨o,n,ho,hc,_⟩:=id p;rcases h with⟨rfl,rfl⟩| ⟨h,rfl⟩
  .exact uI p.isList.typeIs (tyT _ ae) PyProof.Rows.sub_list_list ⟨.bl true,H,I,rfl,q⟩
  .rcases h with rfl|rfl
   .exact aM9 (isinstance_false_list ac (tyT _ ae) PyProof.Rows.sub_list_int) ⟨⟨o,ho,hc⟩,.bl false,H,I.tok _,rfl,q⟩
   .exact aM9 (isinstance_false_list ac (tyT _ ae) PyProof.Rows.sub_list_tuple) ⟨⟨o,ho,hc⟩,.bl false,H,I.tok _,rfl,q⟩
def d30:List D->(B->Prop)->Prop:=g2 λd e Q=>match e with
 | .ty T=>(match d with
  | .int _=>if T="int" then Q (.pu<|.bl true)else if T="bool"\/T="tuple"\/T="list" then Q (.pu<|.bl false)else False
  | .bl _=>if T="int"\/T="bool" then Q (.pu<|.bl true)else False
  | .tup _=>if T="tuple" then Q (.pu<|.bl true)else if T="int"\/T="list" then Q (.pu<|.bl false)else False
  | .lst _=>if T="list" then Q (.pu<|.bl true)else if T="int"\/T="tuple" then Q (.pu<|.bl false)else False
  | _=>False)
 | _=>False
theorem cF3:vD X (.builtin "isinstance") d30:=by
 intro A H ds vs Q0 Q hA r g k;obtain⟨d,e,v,w,rfl,rfl,rv,rw',g⟩:=cF2 g r;have no: ∀{c:Bool},Q0 (.pu<|.bl c)->Q (.bl c) H:=λz=>k _ _ H z (.refl _) lX
 cases e with
 | ty T=>
  rw[rep_ty rw'];cases d with
  | int i=>
   rw[bQ rv]
   by_cases h1:T="int"
   .simp only[h1,dM]at g;exact⟨_,vI,_,T,true,rfl,no g,.inl ⟨i,rfl,.inl ⟨h1,rfl⟩⟩⟩
   .by_cases h2:T="bool"\/T="tuple"\/T="list"
    .simp only[h1,h2,dM,dL]at g;exact⟨_,vI,_,T,false,rfl,no g,.inl ⟨i,rfl,.inr ⟨h2,rfl⟩⟩⟩
    .simp only[h1,h2,dL]at g
  | bl c=>
   rw[wU rv]
   by_cases h1:T="int"\/T="bool"
   .simp only[h1,dM]at g;exact⟨_,vI,_,T,true,rfl,no g,.inr<|.inl ⟨c,rfl,h1,rfl⟩⟩
   .simp only[h1,dL]at g
  | tup l=>
   obtain⟨a,vs,rfl,c,rs⟩:=rv.one
   by_cases h1:T="tuple"
   .simp only[h1,dM]at g;exact⟨_,vI,_,T,true,rfl,no g,.inr<|.inr<|.inl ⟨a,vs,rfl,c,.inl ⟨h1,rfl⟩⟩⟩
   .by_cases h2:T="int"\/T="list"
    .simp only[h1,h2,dM,dL]at g;exact⟨_,vI,_,T,false,rfl,no g,.inr<|.inr<|.inl ⟨a,vs,rfl,c,.inr ⟨h2,rfl⟩⟩⟩
    .simp only[h1,h2,dL]at g
  | lst l=>
   obtain⟨a,vs,rfl,c,rs⟩:=rv.one
   by_cases h1:T="list"
   .simp only[h1,dM]at g;exact⟨_,vI,_,T,true,rfl,no g,.inr<|.inr<|.inr ⟨a,vs,rfl,SqL.of c,.inl ⟨h1,rfl⟩⟩⟩
   .by_cases h2:T="int"\/T="tuple"
    .simp only[h1,h2,dM,dL]at g;exact⟨_,vI,_,T,false,rfl,no g,.inr<|.inr<|.inr ⟨a,vs,rfl,SqL.of c,.inr ⟨h2,rfl⟩⟩⟩
    .simp only[h1,h2,dL]at g
  | _=>exact(show False from g).elim
 | _=>exact(show False from g).elim
theorem d31 {T:String}(hg:Gl X x)(hm:X.mg x=none)(hv:bootBuiltins x=some (.type T))(hn:⇑(x≠"__name__"))(hd:⇑((x==("__debug__":Str))=false)):PU X (.Name x p) (uC<|.ty T):=
 bU9 (dH4 (v:= .ty T) hg hm hv rfl hn hd) λA H=>by simp only[Rep]
noncomputable def init (N:List Str)(ds:List D):Ev:=ds.map (λd=>some (.pu d))++replicate (N.length-ds.length) none
theorem a98 {ds:List D}{z:B}(h:(init N ds)[i]? =some (some z)): ∃d,z= .pu d/\ds[i]? =some d:=by
 unfold init at h
 by_cases hi:i<ds.length
 .rw[uF<|by simpa using hi,bI]at h
  cases e:ds[i]? with
  | none=>rw[e]at h;cases h
  | some d=>rw[e]at h;cases h;exact⟨d,rfl,rfl⟩
 .rw[qF<|by simpa using hi,aJ3]at h
  split at h<;>cases h
theorem bV5 {ds:List D}{vs:List V}(hA: ∀a,A a->H a≠none)(r:cD K A H ds vs):EOk K ⟨H,A⟩ (init N ds) (L2.start N vs) H:=by
 have own: ∀a,¬Own (init N ds) (L2.start N vs) a:=λa ⟨i,l,h1,_⟩=>by
  obtain⟨d,e,_⟩:=a98 h1;cases e
 refine⟨?_,λi d h=> ?_,λi l h=> ?_,λi j l l' a h=> ?_,λi l h=> ?_,.refl _,hA⟩
 .unfold init L2.start;simp[r.length]
 .obtain⟨d',e,e2⟩:=a98 h;cases e;obtain⟨v,h1,h2⟩:=r.get e2;refine⟨v,?_,h2.mono<|.sub (.refl _) λa z=>z.elim id λz=>absurd z (own a)⟩
  unfold L2.start;have hv:i<vs.length:=(kG.mp h1).1;rw[uF<|by simpa using hv,bI,h1]
  rfl
 .obtain⟨d',e,_⟩:=a98 h;cases e
 .obtain⟨d',e,_⟩:=a98 h;cases e
 .obtain⟨d',e,_⟩:=a98 h;cases e
theorem bV6 {K:PySem.W.Frag}{ps:List Str}(F:Fun K x qual st f fd)(S:aY N ps (aG st))
  (len: ∀ds Q,φ ds Q->ds.length=ps.length)
  (body: ∀(cdv:Value) (A:Around) (outer:List Env) (s:Shared) (H:Hp) (E:XK),jB k (A.deeper<|envOfC qual (aG st) s.heap.objs.size f cdv)->
   ∃t,pG (vB CX0 P w K mg base N qual (aG st) f cdv A outer s H E).nox (eX st) t/\ ∀ds Q,φ ds Q->t {nx:=λ_=>Q (.pu .non),rt:=Q} (init N ds)) :
  wS P w K mg base CX0 (k+1) f fd ps (spP K φ):=by
 refine F.ok S (λvs H Q E h=> ?_) (λcdv A outer s H vs Q E hr h=> ?_)
 .obtain⟨A,ds,Q0,_,r,h,_⟩:=h;rw[<-r.length];exact len ds Q0 h
 .obtain⟨A',ds,Q0,hA,r,h,q⟩:=h;obtain⟨t,ht,hq⟩:=body cdv A outer s H E hr;refine⟨_,ht,⟨H,A'⟩,init N ds,_,bV5 hA r,hq ds Q0 h,⟨λρ σ H' z I=> ?_,λb v H' z s r=>q b v H' z s r,λ_ _ _ z=>z.elim,λ_ _ _ z=>z.elim⟩⟩
  exact q _ _ H' z I.ext (show Rep _ _ _ _ _ by simp only[Rep])
end
structure Fn (P:Program)(w:World)(K:PySem.W.Frag)(mg:Str->Option Value)(base:Heap)(x:Str)(ps:List Str)(k:Nat)(φ:Φ):Prop where
 ex: ∃f fd,wS P w K mg base CX0 k f fd ps (spP K φ)/\Binds K fd ps []/\keepIn K (.ref f)=true/\mg x=some (.ref f)
section
variable {X:Cx}{e:Expr}{es:List Expr}{pos:Pos}
theorem aG7 {ps:List Str}{t:UA}(F:Fn X.prog X.w X.K X.mg X.base x ps k φ)(hr:jB k' X.A)(hk:k<=k')(hg:Gl X x)(ha:PUA X (e::es) t)(hdb:⇑((x==("__debug__":Str))=false))
  (he:↥(starEach (e::es) X.env=(false,eval e X.env)::starEach es X.env)) (hpl:↥((backTo pos<|starEach es X.env).any (·.1)=false)):PU X (.Call (.Name x p) (e::es) [] pos) (aV φ t):=by
 obtain⟨f,fd,G,b,kp,m⟩:=F.ex;exact dJ4 (E:=E0) G (hr.mono hk) hg m kp b (λ_ _ _ _ _ _ _ h=>h.elim) ha hdb he hpl
theorem d32 {ps:List Str}(F:Fn X.prog X.w X.K X.mg X.base x ps k φ)(hr:jB k' X.A)(hk:k<=k')(hg:Gl X x)(hdb:⇑((x==("__debug__":Str))=false)):PU X (.Call (.Name x p) [] [] pos) (aV φ aP):=by
 obtain⟨f,fd,G,b,kp,m⟩:=F.ex;exact d20 (E:=E0) G (hr.mono hk) hg m kp b (λ_ _ _ _ _ _ _ h=>h.elim) hdb
theorem il (hn:X.N.length=n)(h:i<n): ∀pins σ H s,Inv X pins σ H s->i<σ.length:=λ_ _ _ _ I=>by rw[I.len,hn];exact h
end
theorem Fn.mk' {ps:List Str}(F:Fun K x qual st f fd)(m:mg x=some (.ref f))(b:Binds K fd ps [])(S:aY N ps (aG st))
  (len: ∀ds Q,φ ds Q->ds.length=ps.length) {t:US}
  (der: ∀(cdv:Value) (A:Around) (outer:List Env) (s:Shared) (H:Hp) (E:XK),jB k (A.deeper<|envOfC qual (aG st) s.heap.objs.size f cdv)->pG (vB CX0 P w K mg base N qual (aG st) f cdv A outer s H E).nox (eX st) t)
  (rd: ∀ds Q,φ ds Q->t {nx:=λ_=>Q (.pu .non),rt:=Q} (init N ds)):Fn P w K mg base x ps (k+1) φ:=
 ⟨f,fd,bV6 F S len λcdv A outer s H E hr=>⟨t,der cdv A outer s H E hr,rd⟩,b,F.kp,m⟩
def bO8:Φ:=λds Q=> ∃ns:List Int,ds=[.rol<|ns.map .int]/\ns.length<=63/\Q (.pu<|.bl true)
theorem bO9 {K:PySem.W.Frag}{A:AS}{H:Hp}: ∀ns:List Int,cD K A H (ns.map .int) (ns.map V.int)
 | []=> .nil
 | n::ns=> .cons (by simp only[Rep]) (bO9 ns)
theorem law_sp {H:Hp}{ns:List Int}(hl:ns.length<=63)(hS:SqL K H a (ns.map V.int)):spP K bO8 [.ref a] H (λv _=>v= .bl true) (λ_ _ _=>False):=by
 refine⟨λ_=>False,[.rol<|ns.map .int],λb=>b= .pu (.bl true),λ_ z=>z.elim,.cons ?_ .nil,⟨ns,rfl,hl,rfl⟩,λb v H' q s r=> ?_⟩
 .simp only[Rep];exact⟨a,_,rfl,hS.imp (λz=>⟨λz=>z,z⟩) id,bO9 ns⟩
 .subst q;have r':Rep K (λ_=>False) H' (.bl true) v:=r
  exact wU r'
theorem walkM {l:PySem.W.OpenLaw}{XP:(Str->Option Value)->Heap->Prop}{d:DefRec}{K:Params->PySem.W.Frag}(hn:l.most=some 63)(hdf:d.params.defaults=[])(hr:jB k callerA)
  (hY: ∀(w:World) (h:Heap),YP w h->(K w.params).In h)
  (F: ∀(w:World) (mg:Str->Option Value) (fa:Addr) (h:Heap),(K w.params).In h->h.Ns mainGlobals mg->mg d.name=some (.ref fa)->
   ∃fd:FuncData,(∀(s:Shared) (u:Value),BindsTo s fd ⟨[u],[]⟩ [(x,u)])/\ ∀base:Heap,(K w.params).In base->base.Ns mainGlobals mg->wS l.prog w (K w.params) mg base CX0 k fa fd [x] (spP (K w.params) bO8)) :
  PySem.W.WalkO q loose XP YP l.row.toRowW d [] (λf vs=>PySem.call f vs):=
 L2.walk_of (n:=63) (k:=k) (x:=x) (CX:=λ_=>CX0) (sp:=λw=>spP (K w.params) bO8) hn ac hdf hr hY F (λ_ _ a ns hl _ hS=>law_sp hl hS) λ_ _ _ _ _ z=>z
end M
section
namespace L2
noncomputable def cS (X:Cx)(N:List Str)(scope:Scope)(cl:List (Str×Addr))(C:Addr)(s:Shared)(H:Hp)(fp:List Addr)(pins:List (Addr×Obj)):Cx where
 prog:=X.prog
 w:=X.w
 K:=X.K
 mg:=X.mg
 base:=X.base
 A:=X.A
 N:=N
 s₀:=s
 H₀:=H
 env:=compEnvC scope cl C X.env
 outer:=X.stack
 stack:=X.stack
 ex:=fp
 fn:=λx=>scope.names.lookup x==some .cell
 calm:=X.calm
 pn:=X.pn++pins
 xe:=λ_ _=>False
theorem a40 {env:Env}: ∀(names:List (Str×NameKind)),(∀y∈names,y.2= .free-> ∃c,env.cells.lookup y.1=some c)-> ∀cs:List (Str×Addr),(∀x c,cs.lookup x=some c->env.cells.lookup x=some c)->
  ∃cl,(forIn names cs fun(x:Str×NameKind) r=>(do if(x.2==NameKind.free)=true then do let c<-cellOf env x.1;pure (ForInStep.yield ((x.1,c)::r))else pure (ForInStep.yield r)):Sem (List<|Str×Addr))=pure cl/\
   (∀x c,cl.lookup x=some c->env.cells.lookup x=some c)/\(∀x c,cs.lookup x=some c-> ∃c',cl.lookup x=some c')/\ ∀y∈names,y.2= .free-> ∃c,cl.lookup y.1=some c
 | [],_,cs,hcs=>⟨cs,rfl,hcs,λx c h=>⟨c,h⟩,λy hy=>by simp at hy⟩
 | (n,k)::r,h,cs,hcs=>by
  have hr: ∀y∈r,y.2= .free-> ∃c,env.cells.lookup y.1=some c:=λy hy=>h y (bH _ hy)
  by_cases hk:k= .free
  .subst hk;obtain⟨c,hc⟩:=h (n,.free) cP rfl;have e1:cellOf env n=pure c:=by unfold cellOf;rw[hc]
   have hcs': ∀x c',List.lookup x ((n,c)::cs)=some c'->env.cells.lookup x=some c':=λx c' q=>by
    rw[dG]at q;split at q
    .rename_i e
     have:x=n:=by exists e
     subst this;cases q;exact hc
    .exact hcs x c' q
   obtain⟨cl,h1,h2,h3,h4⟩:=a40 r hr ((n,c)::cs) hcs';have hn: ∃c',cl.lookup n=some c':=h3 n c (by rw[dG];simp)
   refine⟨cl,?_,h2,λx c' q=> ?_,λy hy hf=> ?_⟩
   .rw[List.forIn_cons];show(do let c<-cellOf env n;pure (ForInStep.yield ((n,c)::cs))) >>= _=_;rw[e1];exact h1
   .by_cases z:x=n
    .subst z;exact hn
    .refine h3 x c' ?_
     rw[dG];have:(x==n)=false:=by exists z
     rw[this];exact q
   .rcases bB.mp hy with rfl|hy
    .exact hn
    .exact h4 y hy hf
  .obtain⟨cl,h1,h2,h3,h4⟩:=a40 r hr cs hcs;refine⟨cl,?_,h2,h3,λy hy hf=> ?_⟩
   .rw[List.forIn_cons];have:(k==NameKind.free)=false:=by exists hk
    show(if(k==NameKind.free)=true then _ else _) >>= _=_
    rw[this];exact h1
   .rcases bB.mp hy with rfl|hy
    .exact absurd hf hk
    .exact h4 y hy hf
structure gZ (env:Env)(XN N:List Str)(cap:List (Option Nat))(scope:Scope):Prop where
 kind:scope.kind= .function
 owns: ∀y∈scope.names,y.2= .cell->scope.names.lookup y.1=some .cell
 freeK: ∀y∈scope.names,y.2= .free->scope.names.lookup y.1=some .free
 names: ∀y∈scope.names,y.2= .local->scope.names.lookup y.1=some .local
 frees: ∀y∈scope.names,y.2= .free->env.kindOf y.1=some .cell\/env.kindOf y.1=some .free
 caps: ∀(i j:Nat) (x:Str),N[i]? =some x->cap[i]? =some (some j)->XN[j]? =some x/\(x,NameKind.free)∈scope.names/\scope.names.lookup x=some .free
 len:cap.length=N.length
noncomputable def wV (σ:L2.St)(cap:List (Option Nat))(last:Nat)(D:Addr):L2.St:=(cap.map λc=>c.bind λj=>(σ[j]?).join).set last (some<|.ref D)
theorem a99 {env:Env}{x:Str}{k:NameKind}: ∀{names:List (Str×NameKind)},names.lookup x=some k->
  (names.map fun(n,k)=>if(k==NameKind.free&&env.scope.kind== .function&&env.kindOf n==some .cell)then(n,NameKind.cell)else(n,k)).lookup x=
   some (if(k==NameKind.free&&env.scope.kind== .function&&env.kindOf x==some .cell)then NameKind.cell else k)
 | [],h=>by simp at h
 | (n,k')::r,h=>by
  rw[fM];rw[dG]at h;right
  by_cases e:(x==n)=true
  .have e':x=n:=by exists e
   subst e';rw[e]at h;cases h;split<;>simp
  .have e2:(x==n)=false:=by exists e
   rw[e2]at h;have ih:=a99 (env:=env) h;split
   .rw[dG,e2];exact ih
   .rw[dG,e2];exact ih
theorem pI {env:Env}{x:Str}{k:NameKind}: ∀{names:List (Str×NameKind)},(names.map fun(n,k)=>if(k==NameKind.free&&env.scope.kind== .function&&env.kindOf n==some .cell)then(n,NameKind.cell)else(n,k)).lookup x=some k->
  ∃k',names.lookup x=some k'/\(x,k')∈names/\(k=k'\/k'= .free)
 | [],h=>by simp at h
 | (n,k')::r,h=>by
  rw[fM]at h;dsimp only at h
  by_cases e:(x==n)=true
  .have e':x=n:=by exists e
   subst e';refine⟨k',by rw[dG,e],cP,?_⟩
   split at h
   .rename_i c
    refine .inr ?_
    simp only[iI,iN]at c;exact c.1.1
   .rw[dG,e]at h;cases h;exact .inl rfl
  .have e2:(x==n)=false:=by exists e
   have h':(r.map fun(n,k)=>if(k==NameKind.free&&env.scope.kind== .function&&env.kindOf n==some .cell)then(n,NameKind.cell)else(n,k)).lookup x=some k:=by
    split at h
    .rw[dG,e2]at h;exact h
    .rw[dG,e2]at h;exact h
   obtain⟨k2,h1,h2,h3⟩:=pI h';exact⟨k2,by rw[dG,e2];exact h1,bH _ h2,h3⟩
theorem aY6 {x:Str}{c:Addr}: ∀(names:List (Str×NameKind)) (h:Heap) (acc:List (Str×Addr)),(cellsFrom h.objs.size names acc).lookup x=some c->
  acc.lookup x=some c\/(h.objs.size<=c/\(x,NameKind.cell)∈names/\(pushCells h names).IsCell c none)
 | [],_,_,e=> .inl e
 | (y,k)::r,h,acc,e=>by
  unfold cellsFrom at e;unfold pushCells
  by_cases hk:(k==NameKind.cell)=true
  .rw[a7 hk]at e⊢;have hk':k= .cell:=by exists hk
   have sz:(h.push {cls:= .type "cell",data:= .cell none}).objs.size=h.objs.size+1:=r8 ..;rw[<-sz]at e;rcases aY6 r _ _ e with q| ⟨q1,q2,q3⟩
   .rw[dG]at q;split at q
    .rename_i e1
     have:x=y:=by exists e1
     subst this;cases q;exact .inr ⟨aD _,by rw[hk'];exact cP,⟨_,aM5 _ _ _ _<|cZ _ rfl,rfl⟩⟩
    .exact .inl q
   .exact .inr ⟨ad,bH _ q2,q3⟩
  .rw[a6 hk]at e⊢;rcases aY6 r h acc e with q| ⟨q1,q2,q3⟩
   .exact .inl q
   .exact .inr ⟨q1,bH _ q2,q3⟩
theorem aY7: ∀(names:List (Str×NameKind)) (n:Nat) (acc:List (Str×Addr)),(∀x c,acc.lookup x=some c->c<n)->(∀x y c,acc.lookup x=some c->acc.lookup y=some c->x=y)->
  ∀x y c,(cellsFrom n names acc).lookup x=some c->(cellsFrom n names acc).lookup y=some c->x=y
 | [],_,_,_,hi=>hi
 | (z,k)::r,n,acc,hl,hi=>by
  unfold cellsFrom
  by_cases hk:(k==NameKind.cell)=true
  .rw[a7 hk];refine aY7 r (n+1) _ (λx c e=> ?_) (λx y c e1 e2=> ?_)
   .rw[dG]at e;split at e
    .cases e;exact uQ n
    .exact lJ (hl x c e)
   .rw[dG]at e1 e2;split at e1
    .rename_i q1
     cases e1;split at e2
     .rename_i q2
      exact(by simpa using q1:x=z).trans (by simpa using q2:y=z).symm
     .exact absurd (hl y _ e2) (dI _)
    .split at e2
     .cases e2;exact absurd (hl x _ e1) (dI _)
     .exact hi x y c e1 e2
  .rw[a6 hk];exact aY7 r n acc hl hi
theorem uA {x:Str}{c:Addr}: ∀(names:List (Str×NameKind)) (n:Nat) (acc:List (Str×Addr)),((x,NameKind.cell)∈names\/ ∀c,acc.lookup x=some c->n<=c)->(cellsFrom n names acc).lookup x=some c->n<=c
 | [],_,_,h,e=>by
  rcases h with h|h
  .simp at h
  .exact h c e
 | (z,k)::r,n,acc,h,e=>by
  unfold cellsFrom at e
  by_cases hk:(k==NameKind.cell)=true
  .rw[a7 hk]at e;have hk':k= .cell:=by exists hk
   rcases h with h|h
   .rcases bB.mp h with h|h
    .cases h;have:n<=c:=by
      by_cases q: ∃c',(cellsFrom (n+1) r ((x,n)::acc)).lookup x=some c'/\(x,NameKind.cell)∈r
      .obtain⟨c',e',m⟩:=q;have:=uA (c:=c) r (n+1) _ (.inl m) e
       lia
      .have nm:(x,NameKind.cell) ∉ r:=λm=>q ⟨c,e,m⟩
       have:=cells_keep r (n+1) ((x,n)::acc) nm;rw[this,dG]at e;simp at e;exact le_of_eq e
     exact this
    .have:=uA (c:=c) r (n+1) _ (.inl h) e
     lia
   .by_cases q:(x,NameKind.cell)∈r
    .have:=uA (c:=c) r (n+1) _ (.inl q) e
     lia
    .have:=cells_keep r (n+1) ((z,n)::acc) q;rw[this,dG]at e;split at e
     .cases e;exact aD _
     .exact h c e
  .rw[a6 hk]at e;refine uA (c:=c) r n acc (h.imp (λm=> ?_) id) e
   rcases bB.mp m with m|m
   .cases m;exact absurd ac hk
   .exact m
where
 cells_keep {x:Str}: ∀(names:List (Str×NameKind)) (n:Nat) (acc:List (Str×Addr)),(x,NameKind.cell) ∉ names->(cellsFrom n names acc).lookup x=acc.lookup x
 | [],_,_,_=>rfl
 | (z,k)::r,n,acc,h=>by
  unfold cellsFrom
  by_cases hk:(k==NameKind.cell)=true
  .rw[a7 hk];have hk':k= .cell:=by exists hk
   rw[cells_keep r (n+1) _ λm=>h (bH _ m),dG]
   split
   .rename_i e
    have:x=z:=by exists e
    subst this;exact absurd (by rw[hk'];exact cP) h
   .rfl
  .rw[a6 hk];exact cells_keep r n acc λm=>h (bH _ m)
theorem cells_keep (names:List (Str×NameKind))(n:Nat)(acc:List (Str×Addr))(h:(x,NameKind.cell) ∉ names):(cellsFrom n names acc).lookup x=acc.lookup x:=uA.cells_keep names n acc h
theorem bV7 {M:Model}{globals:Addr}{env0:Env}{Q:Env->Shared->Prop}
  (hQ:Q {scope:=scope,locals:=s.heap.objs.size,globals:=globals,cells:=cellsFrom (s.heap.objs.size+1) scope.names cl,qual:=qual,func:=none,code:=env0.code,frame:=env0.frame,builtins:=env0.builtins} {s with heap:=pushCells (s.heap.push {cls:= .type "dict",data:= .dict #[]}) scope.names}) :
  wpAny M A (newFunctionEnv scope globals cl [] qual none .none<|some env0) Q E s:=by
 simp only[newFunctionEnv,Option.isSome_some,dM];refine a9 (wpAny_alloc ?_);refine a9 (wpAny_layCells _ (λname kind cells=>by cases hkc:kind==NameKind.cell<;>simp[hkc]) _ _ _ _ ?_)
 rw[show({s with heap:=s.heap.push {cls:= .type "dict",data:= .dict #[]}}:Shared).heap.objs.size=s.heap.objs.size+1 from r8 ..]
 rw[List.forIn_nil];exact a9 (aN<|aN hQ)
section
variable {X:Cx}{pins:List (Addr×Obj)}{σ:L2.St}{H:Hp}{s:Shared}{N:List Str}{cap:List (Option Nat)}{scope:Scope}
theorem c43 {D:Addr}{cl0:List (Str×Addr)}{h1:Heap}{m0:Str->Option Value}(S:gZ X.env X.N N cap scope)(I:Inv X pins σ H s)(hf: ∀b∈fp,aX9 X pins H b)(hfs: ∀b∈fp,b<s.heap.objs.size)
  (hcl: ∀x c,cl0.lookup x=some c->X.env.cells.lookup x=some c) (hcl2: ∀y∈scope.names,y.2= .free-> ∃c,cl0.lookup y.1=some c) (hN: ∀x,N[last]? =some x->scope.names.lookup x=none)
  (hns:h1.Ns s.heap.objs.size m0) (hk: ∀b o,s.heap.get? b=some o->h1.get? b=some o)
  (c1: ∀x c,cl.lookup x=some c->cl0.lookup x=some c\/(s.heap.objs.size<c/\h1.IsCell c none)) (c2: ∀x y c,cl.lookup x=some c->cl.lookup y=some c->x=y)
  (c3: ∀x,(x,NameKind.free)∈scope.names->cl.lookup x=cl0.lookup x) (c4: ∀x,scope.names.lookup x=some .cell-> ∃c,cl.lookup x=some c) (c5: ∀x c,scope.names.lookup x=some .cell->cl.lookup x=some c->s.heap.objs.size<=c) :
  Inv (cS X N scope cl s.heap.objs.size s H fp pins) [] (wV σ cap last D) H {s with heap:=h1,toks:=tk}:=by
 have sz:X.base.objs.size<=s.heap.objs.size:=aI I.ok.bsz I.sz;have kindF: ∀x,(cS X N scope cl s.heap.objs.size s H fp pins).env.kindOf x=some .cell\/(cS X N scope cl s.heap.objs.size s H fp pins).env.kindOf x=some .free->(x,NameKind.free)∈scope.names\/scope.names.lookup x=some .cell:=λx h=>by
  have: ∃k,(k= .cell\/k= .free)/\(relabel scope X.env).names.lookup x=some k:=by
   rcases h with h|h
   .exact⟨_,.inl rfl,h⟩
   .exact⟨_,.inr rfl,h⟩
  obtain⟨k,hk,h⟩:=this;obtain⟨k',h1,h2,h3⟩:=pI h;rcases h3 with rfl|rfl
  .rcases hk with rfl|rfl
   .exact .inr (S.owns _ h2 rfl)
   .exact .inl h2
  .exact .inl h2
 have cne: ∀x c,cl.lookup x=some c-> ∀b∈fp,c≠b:=λx c h b hb=>by
  rcases c1 x c h with q| ⟨q,_⟩
  .exact(hf b hb).2.2.2.2.1 x c (hcl x c q)
  .exact λz=>by subst z;exact absurd (Nat.lt_trans q<|hfs c hb) (dI _)
 refine⟨⟨I.ok.mod,S.kind,I.ok.glob,I.ok.blt,aD _,c2,λx h=> ?_,λx c h e=> ?_,I.ok.hd,I.ok.frames,.inl rfl,λb hb=> ?_,I.bs,sz,λb o e hb=> ?_,λb hb=> ?_,I.stack,I.stkFree⟩,
  rfl,I.bare,Un.kept hk,⟨m0,hns,λi x v e1 e2 e3=> ?_⟩,λx c h=> ?_,I.hok.fresh<|aD _,λx c h=> ?_,λp hp=> ?_,I.hok.kept hk,?_⟩
 .rcases kindF x h with q|q
  .obtain⟨c,e⟩:=hcl2 _ q rfl;exact⟨c,(c3 x q).trans e⟩
  .exact c4 x q
 .exact c5 x c (by simpa using(show(scope.names.lookup x==some NameKind.cell)=true from h)) e
 .exact⟨bJ<|hfs b hb,λx c h=>cne x c h b hb⟩
 .rcases(hf b hb).2.2.2.1 with z|z
  .exact I.ok.noex b o e z
  .have:=aW e;exact absurd (aZ this<|aI I.ok.bsz z) (dI _)
 .intro z;rcases bB.mp (I.stkSub b z)with z|z
  .exact(hf b hb).2.1 z
  .exact(hf b hb).2.2.1 z
 .have e1':N[i]? =some x:=e1;unfold wV at e2
  by_cases hl:last=i
  .subst hl;have z:=hN x e1';rcases e3 with e3|e3|e3
   .obtain⟨k',h1,_⟩:=pI (show(relabel scope X.env).names.lookup x=_ from e3)
    rw[z]at h1;cases h1
   .obtain⟨k',h1,_⟩:=pI (show(relabel scope X.env).names.lookup x=_ from e3)
    rw[z]at h1;cases h1
   .obtain⟨k',h1,_⟩:=pI (show(relabel scope X.env).names.lookup x=_ from e3)
    rw[z]at h1;cases h1
  .rw[M.get_set_ne hl,bI]at e2;cases e4:cap[i]? with
   | none=>rw[e4]at e2;cases e2
   | some c=>
    rw[e4]at e2;cases c with
    | none=>cases e2
    | some j=>
     have e2':(σ[j]?).join=some v:=by exists e2
     have e5:σ[j]? =some (some v):=by
      cases q:σ[j]? with
      | none=>rw[q]at e2';cases e2'
      | some w=>rw[q]at e2';cases w with
       | none=>cases e2'
       | some w'=>cases e2';rfl
     obtain⟨a1,a2,a3⟩:=S.caps i j x e1' e4;have kx:=S.frees _ a2 rfl;obtain⟨m,hn,hl'⟩:=I.loc;have vis:Vis X.env.scope x:=by
      rcases kx with kx|kx
      .exact .inr (.inl kx)
      .exact .inr (.inr kx)
     obtain⟨u,r,l⟩:=hl' j x v a1 e5 vis;refine⟨u,r,.inr ⟨?_,?_⟩⟩
     .have q:=a99 (env:=X.env) a3;show(relabel scope X.env).names.lookup x=_\/(relabel scope X.env).names.lookup x=_;unfold relabel;right;rw[q];split
      .exact .inl rfl
      .exact .inr rfl
     .rcases l with⟨l,_⟩| ⟨_,c,hc,hcell⟩
      .rcases kx with kx|kx<;>·rw[kx]at l;cases l
      .obtain⟨c',hc'⟩:=hcl2 _ a2 rfl;have:=hcl x c' hc';rw[hc]at this;cases this;obtain⟨o,ho,hd⟩:=hcell;exact⟨c,(c3 x a2).trans hc',o,hk _ _ ho,hd⟩
 .rcases c1 x c h with q| ⟨_,q⟩
  .obtain⟨v,o,ho,hd⟩:=I.cell x c (hcl x c q);exact⟨v,o,hk _ _ ho,hd⟩
  .exact⟨_,q⟩
 .rcases c1 x c h with q| ⟨q,_⟩
  .exact I.freeC x c (hcl x c q)
  .exact I.hok.fresh (oE q)
 .have hp':p∈X.pn++pins:=by
   have:p∈(X.pn++pins)++[]:=hp
   exists this
  obtain⟨a1,a2,a3,a4,a5⟩:=I.pin p hp';refine⟨hk _ _ a1,a2,bJ<|aW a1,λz=> ?_,a5⟩
  rcases bB.mp (I.stkSub p.1 z)with z|z
  .exact a3 z
  .exact a4 z
 .unfold wV;rw[fY,aF];exact S.len
theorem bP0 {σ':L2.St}{H':Hp}{h2:Heap}{pins':List (Addr×Obj)}(I:Inv X pins σ H s)(hf: ∀b∈fp,aX9 X pins H b)(hC:s.heap.objs.size<=C)
  (I':Inv (cS X N scope cl C s H fp pins) pins' σ' H' s') (hs:SameBut C s'.heap h2):Inv X pins σ H' {s' with heap:=h2}:=by
 have nC: ∀b o,s.heap.get? b=some o->b≠C:=λb o e z=>by
  subst z;exact absurd (aZ (aW e) hC) (dI _)
 have get: ∀b,b≠C->h2.get? b=s'.heap.get? b:=λb hb=>hs.2 b hb
 have U:=I'.base;have u:Un (frs X.stack) fp H H' s.heap h2:=by
  refine⟨λb o e n h1 hx=> ?_,λb o e n h1 hx=> ?_,U.free,λb o e hx=> ?_,U.tups,U.frzs,U.tbls⟩
  .rw[get b<|nC b o e];exact U.keep b o e n h1 hx
  .rw[get b<|nC b o e];exact U.slot b o e n h1 hx
  .rw[get b<|nC b o e];exact U.there b o e hx
 have fC:H' C=none:=I'.free;have hok:HOk X.prog X.w H' h2:=λa o e=>by
  have na:a≠C:=λz=>by subst z;rw[fC]at e;cases e
  refine(I'.hok a o e).stay (λb u hb q=> ?_) (λ_ q=>q) λ_ _ q=>q
  have nb:b≠C:=by
   rcases hb with rfl|hb
   .exact na
   .exact λz=>by subst z;rw[fC]at hb;cases hb
  rw[get b nb];exact q
 obtain⟨hh,gg,dd,tt,oo⟩:=s';have eo:oo=s.os:=I'.os;subst eo;have fin:=I.call (h':=h2) (g':=gg) (d':=dd) (t':=tt) (ch:=fp) u hok I'.bare λb hb=>⟨(hf b hb).2.2.2.1,(hf b hb).2.1,(hf b hb).2.2.2.2.1,(hf b hb).2.2.2.2.2⟩
 exact fin
end
theorem aA0 {prog:Program}{w:World}{A:Around}{R:Result->Shared->Prop}{s:Shared}{elt target iter:Expr}{ifs:List Expr}{scope:Scope}{pos:Pos}{it acc:Value}{env:Env}(I:Nat->Shared->Prop)
  (turn: ∀n s,I n s->wpAny (model prog w) A (pyNext it) (λr s₁=>match r with
   | none=>R (.ok .next) s₁
   | some v=>wpAny (model prog w) A (letOwnedTupleGo target it v) (λ_ s₂=>wpAny (model prog w) A (assign target env v) (λ_ s₂=>
     wpAny (model prog w) A (forIn ifs true λc r=>if r=true then do let ok<-isTrue c env (eval c env);pure (ForInStep.yield ok)else pure (ForInStep.yield r)) (λok s₃=>
      if ok=true then wpAny (model prog w) A (eval elt env) (λx s₄=>
       wpAny (model prog w) A (call (.builtin "list.append") [acc,x]) (λ_ s₅=> ∃m,m<n/\I m s₅) (notedBy (model prog w) A env λe s'=>R (.error e) s') s₄) (notedBy (model prog w) A env λe s'=>R (.error e) s') s₃
      else ∃m,m<n/\I m s₃) (notedBy (model prog w) A env λe s'=>R (.error e) s') s₂) (notedBy (model prog w) A env λe s'=>R (.error e) s') s₂) (notedBy (model prog w) A env λe s'=>R (.error e) s') s₁) (notedBy (model prog w) A env λe s'=>R (.error e) s') s)
  (n:Nat) (h:I n s):codeAny (model prog w) A (.compLoop (.ListComp elt [⟨target,iter,ifs,0⟩] scope pos) 0 it acc env) R s:=by
 refine codeAny_loop rfl I (λn s hI=> ?_) n h
 show wpAny _ A ((compTurn (.ListComp elt [⟨target,iter,ifs,0⟩] scope pos) 0 it acc env).onRaise (λx=>do noteFrame x env;theTreesLotGoes x)) _ _ s
 refine wpAny_noted ?_
 rw[compTurn_list];refine a9 (rF<|a9<|bK (turn n s hI) (λr s₁ h₁=> ?_) λ_ _ h'=>h')
 cases r with
 | none=>exact aN h₁
 | some v=>
  refine a9 (bK h₁ (λ_ s₂ h₂=>a9 (bK h₂ (λ_ s₂ h₂=>a9 (bK h₂ (λok s₃ h₃=> ?_) λ_ _ h'=>h')) λ_ _ h'=>h')) λ_ _ h'=>h')
  cases ok with
  | false=>exact aN ⟨rfl,h₃⟩
  | true=>
   exact a9 (a9<|bK h₃ (λx s₄ h₄=>a9 (bK h₄ (λ_ s₅ h₅=>aN (aN ⟨rfl,h₅⟩)) λ_ _ h'=>h')) λ_ _ h'=>h')
def PTs (X:Cx)(ifs:List Expr)(t:TT):Prop:=
 ∀(pins:List (Addr×Obj)) (s:Shared) (σ:L2.St) (H:Hp) (Q:Bool->Hp->Prop),Inv X pins σ H s->t σ H Q->
  wpAny (model X.prog X.w) X.A (forIn ifs true λc r=>if r=true then do let ok<-isTrue c X.env (eval c X.env);pure (ForInStep.yield ok)else pure (ForInStep.yield r)) (TP X pins σ Q) X.xe s
theorem dK2 {X:Cx}:PTs X [] (λ_ H Q=>Q true H):=λpins s σ H Q I h=>wpAny_tests_nil ⟨H,I,h⟩
theorem dK3 {X:Cx}{t:TT}(h:PT X c t):PTs X [c] t:=λpins s σ H Q I q=>wpAny_tests_one (h pins s σ H Q I q)
def cM5 (cap:List (Option Nat))(last:Nat)(wi:TI)(g:TG)(tt:TT)(te:TE):TE:=λσ H Q=>wi σ H λJ H1=> ∀D,H1 D=none-> ∃W:Nat->Nat->L2.St->Hp->Prop,(∃m,W 0 m (wV σ cap last D)<|upd H1 D<|.lst [])/\ ∀i m σ' H',W i m σ' H'->
 (J.stop i H'/\Q (.ref D) H')\/(J.go i H'/\ ∃Nx:L2.St->Hp->Prop,(∀σ2 H2,Nx σ2 H2-> ∃m',m'<m/\W (i+1) m' σ2 H2)/\ ∀x H2,J.yld i H' x H2->g x σ' H2 λσ3 H3=>tt σ3 H3 λc H4=>
  if c=true then te σ3 H4 λy H5=> ∃ys,H5 D=some (.lst ys)/\ys.length<sizeLine/\Nx σ3 (upd H5 D<|.lst<|ys++[y])else Nx σ3 H4)
theorem bP1 {X:Cx}{RR:Value->Addr->Result->Shared->Prop}{wi:TI}{g:TG}{tt:TT}{te:TE}(hc:X.calm=true)(hi:PI X tg iter wi)(S:gZ X.env X.N N cap scope)
  (hN: ∀x,N[last]? =some x->scope.names.lookup x=none)
  (hg: ∀cl C s H fp pins,PG (cS X N scope cl C s H fp pins) tg g) (ht: ∀cl C s H fp pins,PTs (cS X N scope cl C s H fp pins) ifs tt) (he: ∀cl C s H fp pins,PE (cS X N scope cl C s H fp pins) elt te)
  {pins:List (Addr×Obj)} {s:Shared} {σ:L2.St} {H:Hp} {Q:VK} {cl:List (Str×Addr)} (I:Inv X pins σ H s) (h:cM5 cap last wi g tt te σ H Q) (hcl: ∀x c,cl.lookup x=some c->X.env.cells.lookup x=some c) (hcl2: ∀y∈scope.names,y.2= .free-> ∃c,cl.lookup y.1=some c)
  (fin: ∀(D:Addr) (fp:List Addr) (H3:Hp) (s3:Shared) (σ':L2.St) (H':Hp) (s':Shared),Inv X pins σ H3 s3->(∀b∈fp,aX9 X pins H3 b)->Inv (cS X N scope (cellsFrom (s3.heap.objs.size+1) scope.names cl) s3.heap.objs.size s3 H3 fp pins) [] σ' H' s'->Q (.ref D) H'->RR (.ref D) s3.heap.objs.size (.ok .next) s') :
  wpAny (model X.prog X.w) X.A (eval iter X.env) (λx s₁=>wpAny (model X.prog X.w) X.A (pyIter x) (λit s₂=>wpAny (model X.prog X.w) X.A (newList []) (λacc s₃=>
   wpAny (model X.prog X.w) X.A (newFunctionEnv scope X.env.globals cl [] X.env.qual none .none<|some X.env) (λcenv s₄=>
    codeAny (model X.prog X.w) X.A (.compStart (.ListComp elt [⟨tg,iter,ifs,0⟩] scope pos) 0 it acc {cenv with scope:=relabel scope X.env}) (RR acc cenv.locals) s₄) X.xe s₃) X.xe s₂) X.xe s₁) X.xe s:=by
 refine thn (hi pins s σ H _ I h) λxv s1 h1=>thn h1 λit s2 h2=> ?_
 obtain⟨ita,fp,tn,J,H2,rfl,I2,T,st2,f2,q⟩:=h2;refine kJ ?_ (by show 0<=sizeLine;decide)
 have fD:H2 s2.heap.objs.size=none:=I2.hok.fresh (aD _);obtain⟨W,⟨m0,w0⟩,turn⟩:=q s2.heap.objs.size fD;have I3:Inv X pins σ (upd H2 s2.heap.objs.size<|.lst []) {s2 with heap:=s2.heap.push {cls:= .type "list",data:= .seq ([]:List Value).toArray}}:=I2.lnew (t':=s2.toks) .nil (gA _);have fpne: ∀b∈fp,b≠s2.heap.objs.size:=λb hb=>by
  obtain⟨o,ho,_⟩:=T.obj 0 _ st2 b hb;exact bJ (aW ho)
 have f3: ∀b∈fp,aX9 X pins (upd H2 s2.heap.objs.size<|.lst []) b:=λb hb=>⟨by rw[cW<|fpne b hb];exact(f2 b hb).1,(f2 b hb).2⟩
 have k23: ∀b o,s2.heap.get? b=some o->(s2.heap.push {cls:= .type "list",data:= .seq ([]:List Value).toArray}).get? b=some o:=λb o e=>bC _ e
 have st3:tn 0 (s2.heap.push {cls:= .type "list",data:= .seq ([]:List Value).toArray}):=T.keep 0 _ _ st2 λb hb o e=>k23 b o e
 have fps: ∀b∈fp,b< (s2.heap.push {cls:= .type "list",data:= .seq ([]:List Value).toArray}).objs.size:=λb hb=>by
  obtain⟨o,ho,_⟩:=T.obj 0 _ st3 b hb;exact aW ho
 generalize hS3:({s2 with heap:=s2.heap.push {cls:= .type "list",data:= .seq ([]:List Value).toArray}}:Shared)=s3 at I3;have hh3:s3.heap=s2.heap.push {cls:= .type "list",data:= .seq ([]:List Value).toArray}:=by rw[<-hS3]
 rw[<-hh3]at st3 fps;refine bV7 ?_;have sz3:(s3.heap.push {cls:= .type "dict",data:= .dict #[]}).objs.size=s3.heap.objs.size+1:=r8 ..;have hns₁:(pushCells (s3.heap.push {cls:= .type "dict",data:= .dict #[]}) scope.names).Ns s3.heap.objs.size (λ_=>none):=(Heap.Ns.new s3.heap<|.type "dict").keeps (aM5 _ _)
 have k34: ∀b o,s3.heap.get? b=some o->(pushCells (s3.heap.push {cls:= .type "dict",data:= .dict #[]}) scope.names).get? b=some o:=λb o e=>aM5 _ _ _ _ (bC _ e)
 have I4:=c43 (tk:=s3.toks) (last:=last) (D:=s2.heap.objs.size) (cl:=cellsFrom (s3.heap.objs.size+1) scope.names cl) S I3 f3 fps hcl hcl2 hN hns₁ k34
  (λx c e=>by
   rw[<-sz3]at e;rcases aY6 _ _ _ e with q| ⟨q1,_,q3⟩
   .exact .inl q
   .exact .inr ⟨ad,q3⟩)
  (aY7 _ _ _ (λx c e=>by
   obtain⟨v,q⟩:=I3.cell x c (hcl x c e);exact lJ q.lt) λx y c e1 e2=>I3.ok.inj x y c (hcl x c e1) (hcl y c e2))
  (λx m=>cells_keep _ _ _ λm'=>by
   have h1:=S.owns _ m' rfl;have h2:=S.freeK _ m rfl;rw[h1]at h2;cases h2)
  (λx e=>Option.isSome_iff_exists.mp (aJ9 _ _ _<|.inl e))
  (λx c e1 e2=>by
   have:=uA scope.names (s3.heap.objs.size+1) cl (.inl<|qR e1) e2
   lia)
 have st4:tn 0 (pushCells (s3.heap.push {cls:= .type "dict",data:= .dict #[]}) scope.names):=T.keep 0 _ _ st3 λb hb o e=>k34 b o e
 generalize hcl':cellsFrom (s3.heap.objs.size+1) scope.names cl=cl' at I4;have loop:codeAny (model X.prog X.w) X.A (.compLoop (.ListComp elt [⟨tg,iter,ifs,0⟩] scope pos) 0 (.ref ita) (.ref s2.heap.objs.size)<|compEnvC scope cl' s3.heap.objs.size X.env)
   (RR (.ref s2.heap.objs.size) s3.heap.objs.size) {s3 with heap:=pushCells (s3.heap.push {cls:= .type "dict",data:= .dict #[]}) scope.names,toks:=s3.toks}:=by
  have stat: ∀{H':Hp},(∀b∈fp,H' b=none)-> ∀b∈fp,aX9 (cS X N scope cl' s3.heap.objs.size s3 (upd H2 s2.heap.objs.size<|.lst []) fp pins) [] H' b:=λ{H'} hn b hb=>by
   refine⟨hn b hb,bJ<|fps b hb,λz=> ?_,.inl hb,λx c e=>(I4.ok.exf b hb).2 x c e,λp hp=> ?_⟩
   .rcases bB.mp (I3.stkSub b z)with z|z
    .exact(f3 b hb).2.1 z
    .exact(f3 b hb).2.2.1 z
   .have:p∈(X.pn++pins)++[]:=hp;exact(f3 b hb).2.2.2.2.2 p (by exists this)
  have hcb:(cS X N scope cl' s3.heap.objs.size s3 (upd H2 s2.heap.objs.size<|.lst []) fp pins).calm=true:=hc;refine aA0 (λn s'=> ∃i σ' H',Inv (cS X N scope cl' s3.heap.objs.size s3 (upd H2 s2.heap.objs.size<|.lst []) fp pins) [] σ' H' s'/\tn i s'.heap/\(∀b∈fp,H' b=none)/\W i n σ' H') ?_ m0 ⟨0,_,_,I4,st4,λb hb=>(f3 b hb).1,w0⟩
  rintro n s5 ⟨i,σ5,H5,I5,st5,fr5,w5⟩;rcases turn i n σ5 H5 w5 with⟨stop,qn⟩| ⟨go,Nx,hNx,step⟩
  .refine bK (T.done (cS X N scope cl' s3.heap.objs.size s3 (upd H2 s2.heap.objs.size<|.lst []) fp pins) rfl rfl rfl hcb i [] s5 σ5 H5 (λ_ _=>False) I5 (stat fr5) st5 stop) (λr s6 hr=> ?_) (λ_ _ z=>z.elim)
   obtain⟨rfl,I6⟩:=hr;exact fin _ fp _ s3 σ5 H5 s6 I3 f3 (hcl'▸I6) qn
  .refine bK (T.item (cS X N scope cl' s3.heap.objs.size s3 (upd H2 s2.heap.objs.size<|.lst []) fp pins) rfl rfl rfl hcb i [] s5 σ5 H5 (λ_ _=>False) I5 (stat fr5) st5 go) (λr s6 hr=> ?_) (λ_ _ z=>z.elim)
   obtain⟨u,rfl,h6⟩:=hr;refine bK h6 (λ_ s7 h7=> ?_) (λ_ _ z=>z.elim)
   obtain⟨x,H7,I7,r7,y7,st7,fr7⟩:=h7;have I7':=I7.pinned (stat fr7) (T.obj _ _ st7);refine bK (hg _ _ _ _ _ _ _ s7 σ5 H7 x u _ I7' r7<|step x H7 y7) (λ_ s8 h8=> ?_) (λ_ _ z=>False.elim z)
   obtain⟨σ8,H8,I8,q8⟩:=h8;have again: ∀{σ9:L2.St} {H9:Hp} {s9:Shared},Inv (cS X N scope cl' s3.heap.objs.size s3 (upd H2 s2.heap.objs.size<|.lst []) fp pins) ([]++b87 fp s7.heap) σ9 H9 s9->Nx σ9 H9-> ∃m,m<n/\ ∃i σ' H',Inv (cS X N scope cl' s3.heap.objs.size s3 (upd H2 s2.heap.objs.size<|.lst []) fp pins) [] σ' H' s9/\tn i s9.heap/\(∀b∈fp,H' b=none)/\W i m σ' H':=λ{σ9 H9 s9} I9 n9=>by
    obtain⟨m',hm,w9⟩:=hNx σ9 H9 n9;refine⟨m',hm,i+1,σ9,H9,I9.unpinned,T.keep _ _ _ st7 λb hb o e=>(I9.pin (b,o)<|gL _<|gL _<|a37 hb e).1,λb hb=> ?_,w9⟩
    obtain⟨o,e,d⟩:=T.obj _ _ st7 b hb;exact(I9.pin (b,o)<|gL _<|gL _<|a37 hb e).2.1
   refine bK (ht _ _ _ _ _ _ _ s8 σ8 H8 _ I8 q8) (λc s9 h9=> ?_) (λ_ _ z=>False.elim z)
   obtain⟨H9,I9,q9⟩:=h9;cases c with
   | false=>exact again I9 q9
   | true=>
    rw[a7 rfl]at q9⊢;refine bK (he _ _ _ _ _ _ _ s9 σ8 H9 _ I9 q9) (λv s10 h10=> ?_) (λ_ _ z=>False.elim z)
    obtain⟨y,H10,I10,r10,ys,e10,z10,q10⟩:=h10;refine bK (bO3 (X:=(cS X N scope cl' s3.heap.objs.size s3 (upd H2 s2.heap.objs.size<|.lst []) fp pins)) _ s10 σ8 H10 (.ref s2.heap.objs.size) [y] (.ref s2.heap.objs.size) [v] (λv H=>v= .non/\Nx σ8 H) I10 rfl (.cons r10 .nil) ⟨_,ys,y,rfl,rfl,e10,z10,rfl,q10⟩) (λ_ s11 h11=> ?_) (λ_ _ z=>False.elim z)
    obtain⟨_,H11,I11,_,_,q11⟩:=h11;exact again I11 q11
 exact codeAny_compStart_list loop (T.self _ 0 _ _ _ st4 loop)
theorem aG8 {X:Cx}{σ:L2.St}{H:Hp}(S:gZ X.env X.N N cap scope)(I:Inv X pins σ H s) :
  ∃cl,closureFor scope X.env=pure cl/\(∀x c,cl.lookup x=some c->X.env.cells.lookup x=some c)/\ ∀y∈scope.names,y.2= .free-> ∃c,cl.lookup y.1=some c:=by
 obtain⟨cl,h1,h2,_,h4⟩:=a40 (env:=X.env) scope.names (λy hy hf=>I.ok.has y.1 (S.frees y hy hf)) [] (λx c q=>by simp at q)
 refine⟨cl,?_,h2,h4⟩
 have e:closureFor scope X.env=(forIn scope.names [] fun(x:Str×NameKind) r=>(do if(x.2==NameKind.free)=true then do let c<-cellOf X.env x.1;pure (ForInStep.yield ((x.1,c)::r))else pure (ForInStep.yield r)):Sem (List<|Str×Addr)) >>= λr=>pure r:=by
  rfl
 rw[e,h1];rfl
theorem dK4 {X:Cx}{wi:TI}{g:TG}{tt:TT}{te:TE}(hc:X.calm=true)(hi:PI X tg iter wi)(S:gZ X.env X.N N cap scope)
  (hN: ∀x,N[last]? =some x->scope.names.lookup x=none)
  (hg: ∀cl C s H fp pins,PG (cS X N scope cl C s H fp pins) tg g) (ht: ∀cl C s H fp pins,PTs (cS X N scope cl C s H fp pins) ifs tt) (he: ∀cl C s H fp pins,PE (cS X N scope cl C s H fp pins) elt te)
  (hs: ∀x,foldedSetIterable iter X.env x=pure x:=by intro _;rfl):PE X (.ListComp elt [⟨tg,iter,ifs,0⟩] scope pos) (cM5 cap last wi g tt te):=by
 intro pins s σ H Q I h;rw[eval_ListComp];obtain⟨cl,hcl0,hcl,hcl2⟩:=aG8 S I;refine wpAny_comprehension_free (use:=none) rfl hs hcl0 S.kind S.names ?_;refine bP1 (RR:=λacc C=>compPost (model X.prog X.w) X.A X.xe none (EP X pins σ Q) acc C) hc hi S hN hg ht he I h hcl hcl2 λD fp H3 s3 σ' H' s' I3 f3 I' q=> ?_
 obtain⟨m6,hn6,_⟩:=I'.loc;exact⟨m6,hn6,λh' hs'=>⟨.ref D,H',bP0 I3 f3 (aD _) I' hs',rfl,q⟩⟩
theorem cF4 {X:Cx}{wi:TI}{g:TG}{tt:TT}{te:TE}(hc:X.calm=true)(hi:PI X tg iter wi)(S:gZ X.env X.N N cap scope)
  (hN: ∀x,N[last]? =some x->scope.names.lookup x=none)
  (hg: ∀cl C s H fp pins,PG (cS X N scope cl C s H fp pins) tg g) (ht: ∀cl C s H fp pins,PTs (cS X N scope cl C s H fp pins) ifs tt) (he: ∀cl C s H fp pins,PE (cS X N scope cl C s H fp pins) elt te)
  (hy:PG X (.Name y py) (b26 i)) (hsw:↥(swapsWith (.ListComp elt [⟨tg,iter,ifs,0⟩] scope pos) (some<|.Name y py) spos.line X.env=pure true))
  (hs: ∀x,foldedSetIterable iter X.env x=pure x:=by intro _;rfl):PS X (.Assign [.Name y py] (.ListComp elt [⟨tg,iter,ifs,0⟩] scope pos) spos) (tAsg (cM5 cap last wi g tt te)<|b26 i):=by
 intro pins s σ H D I h;rw[exec_Assign_Name_used _ _ _ _ hsw];refine a9 (rF<|a9 ?_);obtain⟨cl,hcl0,hcl,hcl2⟩:=aG8 S I;show wpAny _ X.A (do let _<-comprehension (.ListComp elt [⟨tg,iter,ifs,0⟩] scope pos) scope X.env _ (newList []) false (eval iter X.env) (some<|assign (.Name y py) X.env)) _ _ s
 refine a9 (bK (wpAny_comprehension_free (use:=some (assign (.Name y py) X.env)) (Q:=λ_ s'=>SP X pins D .next s') rfl hs hcl0 S.kind S.names ?_) (λ_ s' hq=>aN (aN hq)) λ_ _ e=>e)
 refine bP1 (RR:=λacc C=>compPost (model X.prog X.w) X.A X.xe (some<|assign (.Name y py) X.env) (λ_ s'=>SP X pins D .next s') acc C) hc hi S hN hg ht he I h hcl hcl2 λD' fp H3 s3 σ' H' s' I3 f3 I' q=> ?_
 obtain⟨m6,hn6,_⟩:=I'.loc;obtain⟨o6,es6,ep6,ho6,rest6⟩:=id hn6;have J:Inv X pins σ H' s':=bP0 (h2:=s'.heap) I3 f3 (aD _) I' (.refl ..);have fC:H' s3.heap.objs.size=none:=I'.free;have neL:s3.heap.objs.size≠X.env.locals:=ne_of_gt I3.lt;have neF:s3.heap.objs.size ∉ X.fs:=I3.nofs (aD _);have neC: ∀x c,X.env.cells.lookup x=some c->c≠s3.heap.objs.size:=λx c e z=>by
  obtain⟨v,qq⟩:=I3.cell x c e;exact absurd (aZ qq.lt (by rw[z];exact aD _)) (dI _)
 have neP: ∀p∈X.pn++pins,p.1≠s3.heap.objs.size:=λp hp z=>by
  have:=aW (I3.pin p hp).1;rw[z]at this;exact dI _ this
 have nd: ∀v,o6.data≠ .cell v:=λv z=>by
  have:o6.data= .dict es6 ep6:=rest6.1;rw[this]at z;cases z
 have J':Inv X (pins++[(s3.heap.objs.size,o6)]) σ H' s':=J.pins_of λp hp=>(bU.mp hp).elim (λz=>J.pin p (gL _ z)) λz=>by
  have e:p=(s3.heap.objs.size,o6):=by exists z
  subst e;exact⟨ho6,fC,neL,neF,nd⟩
 show wpAny _ X.A (assign (.Name y py) X.env<|.ref D') _ _ _
 refine thn (hy _ s' σ H' (.ref D') (.ref D') D.nx J' rfl q) λ_ s7 ⟨σ7,H7,I7,q7⟩=> ?_
 obtain⟨e7,n7,_⟩:=I7.pin (s3.heap.objs.size,o6) (gL _<|gL _ ae)
 refine⟨m6,⟨o6,es6,ep6,e7,rest6⟩,λh' hs'=> ?_⟩
 have I8:=I7.unpinned;exact⟨σ7,H7,I8.turned (t':=s7.toks) (λb o hb e=>(hs'.2 b hb).trans e) n7 neL (.inr<|aI I3.sz<|aD _) neC neP,q7⟩
end L2
namespace M
noncomputable def dK5:B->B
 | .pu d=> .pu d
 | .ow l=> .bo l
 | .bo l=> .bo l
noncomputable def tQ (ρ:Ev)(cap:List (Option Nat))(last:Nat):Ev:=(cap.map λc=>c.bind λj=>((ρ[j]?).join).map dK5).set last (some<|.ow [])
noncomputable def dK6 (ρ:Ev)(j:Nat):Ev:=match ρ[j]? with
 | some (some<|.ow l)=>ρ.set j (some<|.pu<|.lst l)
 | _=>ρ
noncomputable def aA1:Ev->List Nat->Ev
 | ρ,[]=>ρ
 | ρ,j::js=>aA1 (dK6 ρ j) js
theorem d33 (ρ:Ev)(j:Nat):Frz ρ (dK6 ρ j):=by
 unfold dK6;split
 .rename_i l e
  exact .set e
 .exact .refl _
theorem c44: ∀(js:List Nat) (ρ:Ev),Frz ρ (aA1 ρ js)
 | [],ρ=> .refl _
 | j::js,ρ=>(d33 ρ j).trans (c44 js _)
def fJ (js:List Nat)(cap:List (Option Nat))(last:Nat)(ui:UI)(g:UG)(tt:UT)(te:UE):UE:=λρ Q=>ui ρ λn it ρ1=> ∃Pv:Nat->Ev->Prop,Pv 0 (tQ (aA1 ρ1 js) cap last)/\
 (∀i ρ',i<n->Pv i ρ'->g (.pu<|it i) ρ' λρ2=>tt ρ2 λc ρ3=>if c=true then te ρ3 λb ρ4=>oU ρ4 last λl=>l.length<sizeLine/\Pv (i+1) (ρ4.set last<|some<|.ow<|l++[b.d])else Pv (i+1) ρ3)/\
 ∀ρ',Pv n ρ'->oU ρ' last λl=>Q (.ow l) (aA1 ρ1 js)
section
variable {X:Cx}{K:PySem.W.Frag}{C:C0}{ρ ρ':Ev}{σ σ':L2.St}{H H':Hp}
theorem cap_ok {Dn:Addr}(I:EOk K C ρ σ H)(hl:last<cap.length)(n:H Dn=none) :
  EOk K ⟨H,Av C ρ σ⟩ (tQ ρ cap last) (wV σ cap last Dn) (upd H Dn<|.lst []):=by
 have pu: ∀(i:Nat) (z:B),last≠i->(tQ ρ cap last)[i]? =some (some z)-> ∃(j:Nat) (z':B),cap[i]? =some (some j)/\z=dK5 z'/\ρ[j]? =some (some z'):=λi z ne h=>by
  unfold tQ at h;rw[get_set_ne ne,bI]at h;cases e4:cap[i]? with
  | none=>rw[e4]at h;cases h
  | some c=>
   rw[e4]at h;cases c with
   | none=>cases h
   | some j=>
    have h':((ρ[j]?).join).map dK5=some z:=by exists h
    cases q:ρ[j]? with
    | none=>rw[q]at h';cases h'
    | some w=>
     rw[q]at h';cases w with
     | none=>cases h'
     | some w'=>cases h';exact⟨j,w',rfl,rfl,q⟩
 have sgm: ∀(i j:Nat) (v:V),last≠i->cap[i]? =some (some j)->σ[j]? =some (some v)->(wV σ cap last Dn)[i]? =some (some v):=λi j v e e1 h1=>by
  unfold wV;rw[get_set_ne e,bI,e1];show some ((σ[j]?).join)=_;rw[h1];rfl
 have atl:(tQ ρ cap last)[last]? =some (some<|.ow []):=by
  unfold tQ;exact jS (by rw[aF];exact hl)
 have sal:(wV σ cap last Dn)[last]? =some (some<|.ref Dn):=by
  unfold wV;exact jS (by rw[aF];exact hl)
 have noOw: ∀(i:Nat) (l:List D),last≠i->(tQ ρ cap last)[i]? ≠some (some<|.ow l):=λi l e h=>by
  obtain⟨j,z',_,z,_⟩:=pu i _ e h;cases z'<;>cases z
 have own: ∀a,Own (tQ ρ cap last) (wV σ cap last Dn) a->a=Dn:=λa ⟨i,l,h1,h2⟩=>by
  by_cases e:last=i
  .subst e;rw[sal]at h2;cases h2;rfl
  .exact absurd h1 (noOw i l e)
 have P:nE (Av C ρ σ) H (Av ⟨H,Av C ρ σ⟩ (tQ ρ cap last)<|wV σ cap last Dn) (upd H Dn<|.lst []):=λb o nb e=>by
  have ne:b≠Dn:=λz=>by subst z;rw[n]at e;cases e
  refine⟨?_,by rw[cW ne];exact e⟩
  rintro(z|z)
  .exact nb z
  .exact ne (own b z)
 refine⟨by unfold tQ wV;rw[fY,fY,aF,aF],λi d h=> ?_,λi l h=> ?_,λi j l l' a h1 h2 h3 h4=> ?_,λi l h=> ?_,gF n _,λa z=>I.avSome z⟩
 .by_cases e:last=i
  .subst e;rw[atl]at h;cases h
  .obtain⟨j,z',e1,z,e2⟩:=pu i _ e h;cases z' with
   | pu d'=>
    cases z;obtain⟨v,h1,h2⟩:=I.pu j d e2;exact⟨v,sgm i j v e e1 h1,h2.mono P⟩
   | ow l=>cases z
   | bo l=>cases z
 .by_cases e:last=i
  .subst e;rw[atl]at h;cases h;exact⟨Dn,[],sal,jH,n,.nil⟩
  .exact absurd h (noOw i l e)
 .have e1:last=i:=aI8 λe=>absurd h1 (noOw i l e)
  have e2:last=j:=aI8 λe=>absurd h2 (noOw j l' e)
  exact e1.symm.trans e2
 .by_cases e:last=i
  .subst e;rw[atl]at h;cases h
  .obtain⟨j,z',e1,z,e2⟩:=pu i _ e h;cases z' with
   | pu d'=>cases z
   | ow l'=>
    cases z;obtain⟨a,vs,h1,h2,h3,h4⟩:=I.ow j l e2;exact⟨a,vs,sgm i j _ e e1 h1,.inr ⟨j,l,e2,h1⟩,h2,h4.mono P⟩
   | bo l'=>
    cases z;obtain⟨a,vs,h1,h2,h3,h4⟩:=I.bo j l e2;exact⟨a,vs,sgm i j _ e e1 h1,.inl h2,I.ext _ _ h3,h4.mono P⟩
theorem dT5 {ui:UI}{g:UG}{T:List Nat}{tt:UT}{te:UE}(hl:last<cap.length)(hT:last ∉ T)(σ:L2.St)(H:Hp)(Q:VK)(h:lE K (fJ js cap last ui g tt te) σ H Q) :
  cM5 cap last (lI K ui) (lG K T g) (lT K tt) (lE K te) σ H Q:=by
 obtain⟨C,ρ,Q0,I,h,k⟩:=h;refine⟨C,ρ,_,I,h,λn it ρ1 J H1 q f s ok Dn nD=> ?_⟩
 obtain⟨Pv,p0,turn,fin⟩:=q;have fz:=c44 js ρ1;have I1:EOk K C (aA1 ρ1 js) σ H1:=((I.frz f).same s).frz fz;generalize aA1 ρ1 js=ρ2 at fz I1 p0 fin;have P12: ∀{A':AS} {H':Hp},nE (Av C ρ2 σ) H1 A' H'->nE (Av C ρ1 σ) H1 A' H':=λp b o nb e=>p b o (λz=>nb (fz.av z)) e
 have I2:=cap_ok I1 hl nD;have own0: ∀{ρ':Ev} {σ':L2.St} {H':Hp},EOk K ⟨H1,Av C ρ2 σ⟩ ρ' σ' H'->nE (Av C ρ2 σ) H1 (Av ⟨H1,Av C ρ2 σ⟩ ρ' σ') H':=λ{ρ' σ' H'} J' b o nb e=>by
  refine⟨?_,J'.ext b o e⟩
  rintro(z| ⟨i,l,h1,h2⟩)
  .exact nb z
  .obtain⟨a,vs,h3,h4,h5,_⟩:=J'.ow i l h1;rw[h2]at h3;cases h3;have e':(⟨H1,Av C ρ2 σ⟩:C0).H0 b=some o:=e;rw[h5]at e';cases e'
 have sal:(wV σ cap last Dn)[last]? =some (some<|.ref Dn):=by
  unfold wV;exact jS (by rw[aF];exact hl)
 refine⟨λi m σ' H'=>m=n-i/\i<=n/\σ'[last]? =some (some<|.ref Dn)/\ ∃ρ',EOk K ⟨H1,Av C ρ2 σ⟩ ρ' σ' H'/\Pv i ρ',⟨n,rfl,gA _,sal,_,I2,p0⟩,?_⟩
 rintro i m σ' H' ⟨rfl,hi,hlast,ρ',J',p'⟩;have P:=P12 (own0 J')
 by_cases hlt:i<n
 .refine .inr ⟨ok.go _ _ i P hlt,λσ2 H2=>σ2[last]? =some (some<|.ref Dn)/\ ∃ρ3,EOk K ⟨H1,Av C ρ2 σ⟩ ρ3 σ2 H2/\Pv (i+1) ρ3,λσ2 H2 z=>⟨n-(i+1),aa,rfl,hlt,z⟩,λx H2 y=> ?_⟩
  obtain⟨s2,r2⟩:=ok.yld _ _ i x H2 P (λa z=>J'.avSome z) hlt y
  refine⟨_,ρ',.pu<|it i,H',_,J',s2,r2,turn i ρ' hlt p',λρ3 σ3 H3 q3 J3 same3=> ?_⟩
  have l3:σ3[last]? =some (some<|.ref Dn):=(same3 last hT).trans hlast;refine⟨_,ρ3,_,J3,q3,λc ρ4 H4 q4 f4 s4=> ?_⟩
  have J4:=(J3.frz f4).same s4;cases c with
  | false=>
   dsimp only at q4⊢;rw[a6 bE]at q4⊢;exact⟨l3,ρ4,J4,q4⟩
  | true=>
   dsimp only at q4⊢;rw[a7 rfl]at q4⊢;refine⟨_,ρ4,_,J4,q4,λb ρ5 v H5 q5 f5 s5 r5=> ?_⟩
   have J5:=(J4.frz f5).same s5;obtain⟨l,hl5,hz,q5⟩:=mS q5;obtain⟨a,vs,g1,g2,g3,g4⟩:=J5.ow last l hl5;rw[l3]at g1;cases g1;refine⟨vs,g2,by rw[<-g4.length];exact hz,l3,_,J5.write hl5 l3<|g4.append<|.cons (r5.rep λa z=>J4.avF f5 z) .nil,q5⟩
 .have e:i=n:=aa
  subst e;obtain⟨l,hl5,q5⟩:=mS (fin ρ' p');obtain⟨a,vs,g1,g2,g3,g4⟩:=J'.ow last l hl5;rw[hlast]at g1;cases g1;refine .inl ⟨ok.stop _ _ P,k _ _ _ _ q5 (f.trans fz) (s.trans J'.ext) ⟨Dn,vs,rfl,s.free nD,g2,?_⟩⟩;refine g4.mono λb o nb e=>⟨?_,e⟩
  rintro(z|z)
  .exact nb (.inl z)
  .subst z;exact nb (.inr ⟨last,l,hl5,hlast⟩)
theorem fW: ∀{X:Cx},PTs X [] (lT X.K λρ Q=>Q true ρ):=λ{X} pins s σ H Q I ⟨C,ρ,Q0,J,h,k⟩=>dK2 pins s σ H Q I (k _ ρ H h (.refl _)<|.refl _)
theorem dK7 {t:UT}(h:PUT X c t):PTs X [c] (lT X.K t):=dK3 h
theorem dK8 {ui:UI}{g:UG}{T:List Nat}{tt:UT}{te:UE}(hc:X.calm=true)(hi:PUI X tg iter ui)(S:gZ X.env X.N N cap scope)
  (hN: ∀x,N[last]? =some x->scope.names.lookup x=none) (hl:last<cap.length) (hT:last ∉ T)
  (hg: ∀cl C s H fp pins,PUG (cS X N scope cl C s H fp pins) tg T g) (ht: ∀cl C s H fp pins,PTs (cS X N scope cl C s H fp pins) ifs<|lT X.K tt) (he: ∀cl C s H fp pins,PU (cS X N scope cl C s H fp pins) elt te)
  (hs: ∀x,foldedSetIterable iter X.env x=pure x:=by intro _;rfl):PU X (.ListComp elt [⟨tg,iter,ifs,0⟩] scope pos) (fJ js cap last ui g tt te):=
 k6 (dK4 (g:=lG X.K T g) (tt:=lT X.K tt) (te:=lE X.K te) hc hi S hN hg ht he hs) (dT5 hl hT)
theorem cF5 {ui:UI}{g:UG}{T:List Nat}{tt:UT}{te:UE}(i:Nat)(hc:X.calm=true)(hi:PUI X tg iter ui)(S:gZ X.env X.N N cap scope)
  (hN: ∀x,N[last]? =some x->scope.names.lookup x=none) (hl:last<cap.length) (hT:last ∉ T)
  (hg: ∀cl C s H fp pins,PUG (cS X N scope cl C s H fp pins) tg T g) (ht: ∀cl C s H fp pins,PTs (cS X N scope cl C s H fp pins) ifs<|lT X.K tt) (he: ∀cl C s H fp pins,PU (cS X N scope cl C s H fp pins) elt te)
  (hy:PG X (.Name y py) (b26 i)) (hi': ∀pins σ H s,Inv X pins σ H s->i<σ.length) (hsw:↥(swapsWith (.ListComp elt [⟨tg,iter,ifs,0⟩] scope pos) (some<|.Name y py) spos.line X.env=pure true))
  (hs: ∀x,foldedSetIterable iter X.env x=pure x:=by intro _;rfl):PUS X (.Assign [.Name y py] (.ListComp elt [⟨tg,iter,ifs,0⟩] scope pos) spos) (bN i<|fJ js cap last ui g tt te):=by
 intro pins s σ H D I q;refine cF4 (g:=lG X.K T g) (tt:=lT X.K tt) (te:=lE X.K te) hc hi S hN hg ht he hy hsw hs pins s σ H D I ?_;obtain⟨C,ρ,D0,J,h,k⟩:=q;exact dT5 hl hT σ H _ ⟨C,ρ,_,J,h,λb ρ1 v H1 q f s1 r=>k.nx _ _ _ q ((J.frz f).store s1 r<|hi' pins σ H s I)⟩
end
end M
end
section
namespace L2
section
variable {X:Cx}
theorem cM6 {bs:List Bool}: ∀{its:List Value},Vals (bs.map V.bl) its->LSm.BoolsAre its bs:=by
 induction bs with
 | nil=>intro its r;cases r;exact .nil
 | cons b bs ih=>
  intro its r;cases r with
  | cons r1 r2=>
   cases r1;exact .cons b (ih r2)
theorem cF6 (hc:X.calm=true):pE X (.builtin "all") (λxs H Q=> ∃(p:Addr) (bs:List Bool),xs=[.ref p]/\SqL X.K H p (bs.map V.bl)/\Q (.bl<|bs.all id) H):=by
 intro pins s σ H xs us Q I r h;obtain⟨p,bs,rfl,hq,q⟩:=h;obtain⟨u,rfl,rx⟩:=vals1 r;cases rx;obtain⟨its,rv,pl,hz⟩:=I.list hq;have ba:=cM6 rv;refine call_all_walk (a11 pl.isList ?_);have hne:p≠s.heap.objs.size:=by
  obtain⟨o,n,e,_⟩:=pl;exact bJ (aW e)
 refine⟨s.heap.objs.size,_,_,_,_,_,λi=>(bs[i]?).getD true,rfl,Walks.list (A:=X.A.in1) (I.ok.hd hc) s.heap.objs.size p (λz=>hne z) its.toArray,⟨⟨_,cZ _ rfl,rfl,rfl⟩,pl.isList.push _⟩,?_,λh' tk hk=> ?_⟩
 .intro i v s' Q' E' hP hQ;obtain⟨b,hb,rfl⟩:=ba.get i v (by exists hP)
  refine lH ?_
  have e:(λi=>(bs[i]?).getD true) i=b:=by simp[hb]
  dsimp only at hQ;rw[hb]at hQ;exact hQ
 .have e:=LSm.range_all bs;have hl:=ba.length;have e2:its.toArray.size=bs.length:=by rw[b9,hl]
  rw[e2,e];exact⟨.bl<|bs.all id,H,I.kept λb o e=>hk b o (by simpa using bJ (aW e)) (bC _ e),rfl,q⟩
theorem cF7 (hc:X.calm=true):pE X (.builtin "sum") (λxs H Q=> ∃(p:Addr) (ns:List Int),xs=[.ref p]/\SqL X.K H p (ns.map V.int)/\Q (.int ns.sum) H):=by
 intro pins s σ H xs us Q I r h;obtain⟨p,ns,rfl,hq,q⟩:=h;obtain⟨u,rfl,rx⟩:=vals1 r;cases rx;obtain⟨its,rv,pl,hz⟩:=I.list hq;have hi:IntsAre its ns:=by simpa using intsAre_of rv
 obtain⟨xs,hx⟩:=hi.allInts.items;have hl':s.heap.IsList p (intItems xs):=hx▸pl.isList;refine sum_intListG (I.ok.hd hc) hl' λh' tk t' hk=> ?_
 have e1:ns=xs.toList.map (·.1):=by
  rw[<-nums_intItems,<-hx];exact(show numsOf its.toArray.toList=ns from hi.numsOf).symm
 have e2:preSum (numAt xs) xs.size=ns.sum:=by
  rw[preSum_eq,a04 ae,e1]
 rw[e2];exact⟨.int ns.sum,H,I.kept hk,⟨_,rfl⟩,q⟩
noncomputable def yZ (esc:List (Str×NameKind))(XN N:List Str)(cap:List (Option Nat))(scope:Scope)(last:Nat):Bool:=
 (scope.kind== .function)&&scope.names.all (λy=>y.2 != .cell||scope.names.lookup y.1==some .cell)&&scope.names.all (λy=>y.2 != .free||scope.names.lookup y.1==some .free)&&scope.names.all (λy=>y.2 != .local||scope.names.lookup y.1==some .local)&&
 scope.names.all (λy=>y.2 != .free||esc.lookup y.1==some .cell||esc.lookup y.1==some .free)&&
 (N.zip cap).all (λz=>match z.2 with|none=>true|some j=>XN[j]? ==some z.1&&scope.names.contains (z.1,.free)&&scope.names.lookup z.1==some .free)&&
 (cap.length==N.length)&&(match N[last]? with|some x=>(scope.names.lookup x).isNone|none=>true)
theorem gZ.of {env:Env}(he:env.scope.names=esc)(h:yZ esc XN N cap scope last=true) :
  gZ env XN N cap scope/\ ∀x,N[last]? =some x->scope.names.lookup x=none:=by
 unfold yZ at h;simp only[iI,kL,iN]at h;obtain⟨⟨⟨⟨⟨⟨⟨h1,h2⟩,h2'⟩,h3⟩,h4⟩,h5⟩,h6⟩,h7⟩:=h;have hk: ∀x,env.kindOf x=esc.lookup x:=λx=>by unfold Env.kindOf;rw[he]
 refine⟨⟨h1,λy hy hl=>by have:=h2 y hy;rw[hl]at this;simpa using this,λy hy hl=>by have:=h2' y hy;rw[hl]at this;simpa using this,λy hy hl=> ?_,λy hy hf=> ?_,λi j x e1 e2=> ?_,h6⟩,λx e=> ?_⟩
 .have:=h3 y hy;rw[hl]at this
  exists this
 .have:=h4 y hy;rw[hf]at this;rw[hk]
  exists this
 .have hm:(x,some j)∈N.zip cap:=by
   refine aK6 (i:=i) ?_
   rw[List.getElem?_zip_eq_some];exact⟨e1,e2⟩
  have:=h5 _ hm;simp only[iI,iN]at this;obtain⟨⟨a,b⟩,c⟩:=this;exact⟨a,by simpa using b,c⟩
 .rw[e]at h7
  exists h7
end
end L2
namespace M
section
variable {X:Cx}{K:PySem.W.Frag}{A:AS}{H:Hp}
noncomputable def xV:List D->Option (List Bool)
 | []=>some []
 | .bl b::r=>(xV r).map (b::·)
 | _=>none
noncomputable def aG9:List D->Option (List Int)
 | []=>some []
 | .int b::r=>(aG9 r).map (b::·)
 | _=>none
theorem lZ (bs:List Bool):xV (bs.map .bl)=some bs:=by
 induction bs with
 | nil=>rfl
 | cons b bs ih=>rw[fM];show(xV<|bs.map .bl).map _=_;rw[ih];rfl
theorem bP2 (bs:List Int):aG9 (bs.map .int)=some bs:=by
 induction bs with
 | nil=>rfl
 | cons b bs ih=>rw[fM];show(aG9<|bs.map .int).map _=_;rw[ih];rfl
theorem aN0: ∀{l:List D} {bs:List Bool} {vs:List V},xV l=some bs->cD K A H l vs->vs=bs.map V.bl
 | [],bs,vs,h,r=>by cases h;exact r.unnil
 | d::r,bs,vs,h,q=>by
  obtain⟨v,vr,rfl,rv,rr⟩:=q.uncons;cases d with
  | bl b=>
   have h':(xV r).map (b::·)=some bs:=h;cases e:xV r with
   | none=>rw[e]at h';cases h'
   | some bs'=>
    rw[e]at h';cases h';rw[wU rv,aN0 e rr];rfl
  | _=>cases h
theorem aY8: ∀{l:List D} {bs:List Int} {vs:List V},aG9 l=some bs->cD K A H l vs->vs=bs.map V.int
 | [],bs,vs,h,r=>by cases h;exact r.unnil
 | d::r,bs,vs,h,q=>by
  obtain⟨v,vr,rfl,rv,rr⟩:=q.uncons;cases d with
  | int b=>
   have h':(aG9 r).map (b::·)=some bs:=h;cases e:aG9 r with
   | none=>rw[e]at h';cases h'
   | some bs'=>
    rw[e]at h';cases h';rw[bQ rv,aY8 e rr];rfl
  | _=>cases h
noncomputable def c45:List D->(B->Prop)->Prop:=g1 λd Q=>match d with
 | .lst l=>(match xV l with
  | some bs=>Q (.pu<|.bl<|bs.all id)
  | none=>False)
 | _=>False
theorem b97 (hc:X.calm=true):vD X (.builtin "all") c45:=by
 intro A H ds vs Q0 Q hA r g k;obtain⟨d,v,rfl,rfl,rv,g⟩:=a39 g r;cases d with
 | lst l=>
  dsimp only at g;cases e:xV l with
  | none=>rw[e]at g;exact g.elim
  | some bs=>
   rw[e]at g;simp only[Rep]at rv;obtain⟨a,vs,rfl,n,c,rs⟩:=rv;rw[aN0 e rs]at c;exact⟨_,cF6 hc,a,bs,rfl,SqL.of c,k _ _ H g (.refl _) lX⟩
 | _=>exact(show False from g).elim
noncomputable def gSum:List D->(B->Prop)->Prop:=g1 λd Q=>match d with
 | .lst l=>(match aG9 l with
  | some ns=>Q (.pu<|.int ns.sum)
  | none=>False)
 | _=>False
theorem cu_sum (hc:X.calm=true):vD X (.builtin "sum") gSum:=by
 intro A H ds vs Q0 Q hA r g k;obtain⟨d,v,rfl,rfl,rv,g⟩:=a39 g r;cases d with
 | lst l=>
  dsimp only at g;cases e:aG9 l with
  | none=>rw[e]at g;exact g.elim
  | some bs=>
   rw[e]at g;simp only[Rep]at rv;obtain⟨a,vs,rfl,n,c,rs⟩:=rv;rw[aY8 e rs]at c;exact⟨_,cF7 hc,a,bs,rfl,SqL.of c,k _ _ H g (.refl _) a97⟩
 | _=>exact(show False from g).elim
theorem cM7 {i:Int}{t:Tok}(hg:Gl X x)(hm:X.mg x=some (.int i t))(hd:⇑((x==("__debug__":Str))=false)):PU X (.Name x p) (uC<|.int i):=
 bU9 (cL6 (v:= .int i) hg hm ⟨t,rfl⟩ hd) λA H=>by simp only[Rep]
theorem b98:bootBuiltins "all"=some (.builtin "all"):=af
theorem bt_sum:bootBuiltins "sum"=some (.builtin "sum"):=af
theorem b99 {ui:UI}{g:UG}{T:List Nat}{tt:UT}{te:UE}(he0:X.env.scope.names=esc)(hx0:X.N=XN)(lk:yZ esc XN N cap scope last=true)(hl:last<cap.length)(hT:last ∉ T)(hc:X.calm=true)(hi:PUI X tg iter ui)
  (hg: ∀cl C s H fp pins,PUG (cS X N scope cl C s H fp pins) tg T g) (ht: ∀cl C s H fp pins,PTs (cS X N scope cl C s H fp pins) ifs<|lT X.K tt) (he: ∀cl C s H fp pins,PU (cS X N scope cl C s H fp pins) elt te)
  (hs: ∀x,foldedSetIterable iter X.env x=pure x:=by intro _;rfl):PU X (.ListComp elt [⟨tg,iter,ifs,0⟩] scope pos) (fJ js cap last ui g tt te):=
 dK8 hc hi (gZ.of he0<|hx0▸lk).1 (gZ.of he0<|hx0▸lk).2 hl hT hg ht he hs
theorem b31 {ui:UI}{g:UG}{T:List Nat}{tt:UT}{te:UE}(i:Nat)(he0:X.env.scope.names=esc)(hx0:X.N=XN)(lk:yZ esc XN N cap scope last=true)(hl:last<cap.length)(hT:last ∉ T)(hc:X.calm=true)(hi:PUI X tg iter ui)
  (hg: ∀cl C s H fp pins,PUG (cS X N scope cl C s H fp pins) tg T g) (ht: ∀cl C s H fp pins,PTs (cS X N scope cl C s H fp pins) ifs<|lT X.K tt) (he: ∀cl C s H fp pins,PU (cS X N scope cl C s H fp pins) elt te)
  (hy:PG X (.Name y py) (b26 i)) (hi': ∀pins σ H s,Inv X pins σ H s->i<σ.length) (hsw:↥(swapsWith (.ListComp elt [⟨tg,iter,ifs,0⟩] scope pos) (some<|.Name y py) spos.line X.env=pure true))
  (hs: ∀x,foldedSetIterable iter X.env x=pure x:=by intro _;rfl):PUS X (.Assign [.Name y py] (.ListComp elt [⟨tg,iter,ifs,0⟩] scope pos) spos) (bN i<|fJ js cap last ui g tt te):=
 cF5 i hc hi (gZ.of he0<|hx0▸lk).1 (gZ.of he0<|hx0▸lk).2 hl hT hg ht he hy hi' hsw hs
def aQ9 (te:UE):US:=λD ρ=>te ρ λ_ ρ1=>D.nx ρ1
theorem bV8 {te:UE}(he:PU X e te)(hs:↥(swapsWith e none pos.line X.env=pure false)):PUS X (.Expr e pos) (aQ9 te):=
 tO (bT8 he hs) λD σ H ⟨C,ρ,D0,I,h,k⟩=>⟨C,ρ,_,I,h,λb ρ1 v H1 q f s r=>k.nx _ _ _ q ((I.frz f).same s)⟩
theorem kU: ∀ds ρ Q,sG ds ρ Q->ds.length=0:=λds ρ Q h=>by rw[h.1];rfl
theorem cM {u:UGs}(h: ∀ds ρ Q,u ds ρ Q->ds.length=n): ∀ds ρ Q,eO i u ds ρ Q->ds.length=n+1:=λds ρ Q q=>by
 cases ds with
 | nil=>exact(show False from q).elim
 | cons d r=>rw[jP,h r _ Q q.2]
end
theorem Fn.void {ps:List Str}(F:Fun K x qual st f fd)(m:mg x=some (.ref f))(b:Binds K fd ps [])(h: ∀ds Q,¬φ ds Q):Fn P w K mg base x ps 1 φ:=
 ⟨f,fd,⟨λvs H Q E ⟨_,ds,Q0,_,_,z,_⟩=>absurd z (h ds Q0),λA outer s H args us vs Q E _ _ _ _ ⟨_,ds,Q0,_,_,z,_⟩=>absurd z (h ds Q0)⟩,b,F.kp,m⟩
end M
end
section
namespace HT
open PySem PyProof.Rows
end HT
namespace L2
end L2
namespace M
section
variable {X:Cx}{K:PySem.W.Frag}{A:AS}{H:Hp}{e e3:Expr}{t3:UE}{pos p2:Pos}
def gIn (neg:Bool)(d e:D)(Q:B->Prop):Prop:= ∃(i:Int) (js:List Int),d= .int i/\(e= .tup (js.map D.int)\/e= .lst (js.map D.int)\/e= .rol (js.map D.int))/\Q (.pu<|.bl<|neg ^^ decide (i∈js))
theorem cD.unints: ∀{js:List Int} {vs:List V},cD K A H (js.map D.int) vs->vs=js.map V.int
 | [],_,h=>by simp only[uY,cD]at h;exact h
 | j::js,vs,h=>by
  simp only[fM,cD]at h;obtain⟨v,vr,rfl,r,rs⟩:=h;rw[bQ r,cD.unints rs];rfl
theorem d34 (i:Int)(js:List Int):inV (.int i) (js.map V.int)=decide (i∈js):=by
 unfold inV
 induction js with
 | nil=>rfl
 | cons j js ih=>
  rw[fM,any_cons,ih];show((j==i)||decide (i∈js))=decide (i∈j::js)
  by_cases h:j=i
  .subst h;simp
  .have h': ¬i=j:=λz=>h z.symm
   simp[h,h']
theorem aY9 (js:List Int):(js.map V.int).all aP9=true:=by
 induction js with
 | nil=>rfl
 | cons j js ih=>rw[fM,all_cons,ih];rfl
theorem ou_inG {neg:Bool}{op:Value->Value->Sem Value}(ho:OpR X op (rIn X.K neg)):OpU X op (gIn neg):=by
 intro A H d e v w Q0 Q hA r1 r2 g k;obtain⟨i,js,rfl,he,g⟩:=g;have e1:=bQ r1;subst e1;have fin:Q (.bl<|if neg=true then !inV (.int i) (js.map V.int)else inV (.int i) (js.map V.int)) H:=by
  rw[d34];refine k _ _ H g (.refl _) ?_;cases neg
  .rw[a6 ac,lL];exact lX
  .rw[a7 rfl,lM];exact lX
 rcases he with rfl|rfl|rfl
 .simp only[Rep]at r2;obtain⟨a,vs,rfl,c,rs⟩:=r2;have:=rs.unints;subst this;exact⟨_,ho,a,_,rfl,.inr<|c.imp d7 id,rfl,aY9 js,fin⟩
 .simp only[Rep]at r2;obtain⟨a,vs,rfl,n,c,rs⟩:=r2;have:=rs.unints;subst this;exact⟨_,ho,a,_,rfl,.inl<|SqL.of c,rfl,aY9 js,fin⟩
 .simp only[Rep]at r2;obtain⟨a,vs,rfl,c,rs⟩:=r2;have:=rs.unints;subst this;exact⟨_,ho,a,_,rfl,.inl<|c.imp d7 id,rfl,aY9 js,fin⟩
theorem d35:OpU X (compareOp .NotIn) (gIn true):=ou_inG bU4
end
end M
end
section
namespace L2
noncomputable def Itd (lo:Int)(n:Nat):It:={go:=λi _=>i<n,yld:=λi H x H'=>H'=H/\x=V.int (lo-(i:Int)),stop:=λi _=>n<=i}
theorem bP3 (it:Addr)(lo:Int)(n:Nat):cD3 P w K tg (Itd lo n) [it] it (λi h=>IsRangeIter h it (lo+(i:Nat)*(-1)) ((n:Int)-(i:Nat)) (-1)) where
 mem:=ae
 obj:=λi h st b hb=>by
  have e:b=it:=by exists hb
  subst e;exact⟨_,st,λv z=>by
   have z':Data.fields _=Data.cell v:=z;cases z'⟩
 keep:=λi h h' st k=>k it ae _ st
 item:=by
  intro X hP hw hK hc i pins s σ H E I hf st hg;subst hP hw hK;obtain⟨f0,f1,f2,f3,f4,f5⟩:=hf it ae
  have W:=Walks.range (prog:=X.prog) (w:=X.w) (I.ok.hd hc) it lo (-1) n;refine W.item i s _ _ hg st λv h' tk hv st' kk=> ?_
  obtain⟨t,rfl⟩:=hv;have I1:Inv X pins σ H {s with heap:=h',toks:=tk}:=I.turned (λb o hb e=>kk b o (by exists hb) e) f0 f1 f3 f4 f5
  refine⟨_,rfl,c29 (s:={s with heap:=h',toks:=tk}) (n:="range_iterator") st' rfl rfl ac ⟨.int<|lo-i,H,I1,⟨t,?_⟩,⟨rfl,rfl⟩,st',λb hb=>(hf b hb).1⟩⟩
  rw[show lo+((i:Nat):Int)*(-1)=lo-(i:Int)by lia]
 done:=by
  intro X hP hw hK hc i pins s σ H E I hf st hg;subst hP hw hK;obtain⟨f0,f1,f2,f3,f4,f5⟩:=hf it ae
  exact wpAny_pyNext_range_end (I.ok.hd hc) st (by have:n<=i:=hg;lia) λh' eb=>⟨rfl,I.turned (t':=s.toks) (λb o hb e=>eb b o hb e) f0 f1 f3 f4 f5⟩
 self:=λ_ _ _ _ _ st h=>aJ8 st h
section
variable {X:Cx}{tg:Expr}
theorem bP4 (a b:Int):Builtin.Range.rangeSize a b (-1)=(((a-b).toNat:Nat):Int):=by
 unfold Builtin.Range.rangeSize;rw[a6 ac]
 split<;>simp<;>lia
theorem small_down {a b:Int}(h1: -(2^31)<=a)(h2:a<2^31)(h3: -(2^31)<=b)(h4:b<2^31):Builtin.Range.small a b (-1)=true:=by
 unfold Builtin.Range.small;rw[bP4];simp[Builtin.Range.rangeFitsLong];omega
theorem cF8 {σ:St}{H:Hp}{R:It->Hp->Prop}{hi:Int}{t u v:Tok}(I:Inv X pins σ H s)(h1: -(2^31)<=lo)(h2:lo<2^31)(h3: -(2^31)<=hi)(h4:hi<2^31)
  (q:R (Itd lo (lo-hi).toNat) H):wpAny (model X.prog X.w) X.A (pyIter<|.ref s.heap.objs.size) (PIE X pins σ tg R) E {s with heap:=s.heap.push {cls:= .type "range",data:= .fields #[.int lo t,.int hi u,.int (-1) v]},toks:=tk}:=by
 refine wpAny_pyIter_range (IsRange.new ..) (small_down h1 h2 h3 h4) ?_
 have I1:Inv X pins σ H {s with heap:=s.heap.push {cls:= .type "range",data:= .fields #[.int lo t,.int hi u,.int (-1) v]},toks:=tk}:=I.kept λb o e=>bC _ e
 refine⟨(s.heap.push {cls:= .type "range",data:= .fields #[.int lo t,.int hi u,.int (-1) v]}).objs.size,[(s.heap.push {cls:= .type "range",data:= .fields #[.int lo t,.int hi u,.int (-1) v]}).objs.size],_,_,H,rfl,
  I1.kept (t':=tk) λb o e=>bC _ e,bP3 _ lo (lo-hi).toNat,?_,λb hb=> ?_,q⟩
 .have e1:lo+((0:Nat):Int)*(-1)=lo:=ae
  have e2:(((lo-hi).toNat:Nat):Int)-((0:Nat):Int)=Builtin.Range.rangeSize lo hi (-1):=by rw[bP4];simp
  show IsRangeIter _ _ (lo+((0:Nat):Int)*(-1)) ((((lo-hi).toNat:Nat):Int)-((0:Nat):Int)) (-1)
  rw[e1,e2];exact cZ _ rfl
 .have e:b=(s.heap.push {cls:= .type "range",data:= .fields #[.int lo t,.int hi u,.int (-1) v]}).objs.size:=by exists hb
  subst e;exact I1.fpOk (aD _) (I1.hok.fresh<|aD _)
def iRngD (ta:TA):TI:=λσ H R=>ta σ H λvs H1=> ∃i j:Int,vs=[.int i,.int j,.int<|-1]/\(-(2^31)<=i/\i<2^31/\ -(2^31)<=j/\j<2^31)/\R (Itd i (i-j).toNat) H1
theorem cT2 {a b:Expr}{ta:TA}(hg:Gl X "range")(hm:X.mg "range"=none)(ha:PA X [a,b,c] ta)(hs:↥(starEach [a,b,c] X.env=[(false,eval a X.env),(false,eval b X.env),(false,eval c X.env)]))(hs2:↥(starEach [b,c] X.env=[(false,eval b X.env),(false,eval c X.env)])) :
  PI X tg (.Call (.Name "range" p) [a,b,c] [] pos) (iRngD ta):=by
 intro pins s σ H R I h;refine Call_ (xS I hg hm boot_range<|lD (thn (ha pos pins s σ H _ I h) λus s1 ⟨vs,H1,I1,r1,q1⟩=> ?_) (by rw[hs,hs2]) (by rw[hs2];rfl))
 obtain⟨i,j,e,⟨q1,q2,q3,q4⟩,q⟩:=q1;subst e;cases r1 with
 | cons r rr=>
  cases rr with
  | cons r' rr=>
   cases rr with
   | cons r'' rr=>
    cases rr;obtain⟨t,rfl⟩:=r;obtain⟨t',rfl⟩:=r';obtain⟨t'',rfl⟩:=r'';exact call_range_3 ac (cF8 I1 q1 q2 q3 q4 q) (.inl (by
     unfold Builtin.divisionGoesByPylong;simp;intro hz;have:Nat.log2 1=0:=ac
     lia))
end
end L2
namespace M
section
variable {X:Cx}{K:PySem.W.Frag}{H:Hp}{pos:Pos}
theorem bP5 {A:AS}:cF0 K A H (Itd lo n) n (λi=> .int (lo-i)):=
 ⟨λ_ _ _ _ h=>h,λ_ _ i x H'' _ _ _ ⟨e,y⟩=>by subst e;subst y;exact⟨.refl _,by simp only[Rep]⟩,λ_ _ _=>aD n⟩
def c46 (ta:UA):UI:=λρ Q=>ta ρ λds ρ1=>match ds with
 | [.int i,.int j,.int m]=>m= -1/\(-(2^31)<=i/\i<2^31/\ -(2^31)<=j/\j<2^31)/\Q (i-j).toNat (λk=> .int (i-k)) ρ1
 | _=>False
theorem bP6 {a b:Expr}{ta:UA}(hg:Gl X "range")(hm:X.mg "range"=none)(ha:PUA X [a,b,c] ta)(hs:↥(starEach [a,b,c] X.env=[(false,eval a X.env),(false,eval b X.env),(false,eval c X.env)]))(hs2:↥(starEach [b,c] X.env=[(false,eval b X.env),(false,eval c X.env)])) :
  PUI X tg (.Call (.Name "range" p) [a,b,c] [] pos) (c46 ta):=
 b93 (cT2 hg hm ha hs hs2) λσ H R ⟨C,ρ,Q0,I,h,k⟩=>⟨C,ρ,_,I,h,λds ρ1 vs H1 q f s r=>by
  split at q
  .rename_i i j m
   obtain⟨v,vr,rfl,rv,rr⟩:=r.uncons;obtain⟨w,wr,rfl,rw',rr'⟩:=rr.uncons;obtain⟨z,zr,rfl,rz,rr''⟩:=rr'.uncons;have:=rr''.unnil;subst this;have:=bQ rv;subst this;have:=bQ rw';subst this;have:=bQ rz;subst this;obtain⟨hm,hb,q⟩:=q;subst hm;exact⟨i,j,rfl,hb,k _ _ ρ1 _ H1 q f s bP5⟩
  .exact q.elim⟩
end
end M
end
section
namespace L2
section
variable {X:Cx}{pins:List (Addr×Obj)}{σ:St}{H:Hp}{s:Shared}{h':Heap}
theorem Inv.turnedNew {o:HO}(I:Inv X pins σ H s)(k: ∀b u,b ∉ ch->s.heap.get? b=some u->h'.get? b=some u)(hf: ∀b∈ch,aX9 X pins H b)
  (hp:s.heap.objs.size<=a) (new:qA X.prog X.w (upd H a o) h' a o):Inv X pins σ (upd H a o) {s with heap:=h',toks:=t'}:=by
 have hn:H a=none:=I.hok.fresh hp;have nch: ∀b u,H b=some u->b ∉ ch:=λb u e z=>by have:=(hf b z).1;rw[e]at this;cases this
 refine I.step (g':=s.gens) (d':=s.drawn) (ch:=ch) (λb hb=>⟨(hf b hb).2.2.2.1,(hf b hb).2.1,(hf b hb).2.2.2.2.1,(hf b hb).2.2.2.2.2⟩) (λb u _ _ hc e _=>k b u hc e) (λb u _ _ hc e _=>⟨u.slots,k b u hc e⟩)
  (λb u _ e n=>by rw[cW<|bJ<|aZ (aW e) hp];exact n) (λb u hc e=>⟨u,k b u hc e⟩)
  (λb xs e=>by rw[cW<|dN e hn];exact e) (λb ob u e=>by rw[cW<|dN e hn];exact e) (λb ps e=>⟨#[],by rw[cW<|dN e hn,e];simp⟩) (λm hm=> ?_) (λb u e=> ?_) I.bare
 .obtain⟨ob,es,ep,ho,r⟩:=hm;exact⟨ob,es,ep,k _ ob (λz=>(hf _ z).2.1 rfl) ho,r⟩
 .by_cases hb:b=a
  .subst hb;rw[jH]at e;cases e;exact new
  .rw[cW hb]at e;refine(I.hok b u e).stay (λc v hc q=>k c v ?_ q) (λc q=>by rw[cW<|dN q hn];exact q) λc xs q=>by rw[cW<|dN q hn];exact q
   rcases hc with z|z
   .rw[z];exact nch b u e
   .exact nch c _ z
theorem Inv.turnedL (I:Inv X pins σ H s)(k: ∀b u,b ∉ ch->s.heap.get? b=some u->h'.get? b=some u)(hf: ∀b∈ch,aX9 X pins H b):Inv X pins σ H {s with heap:=h',toks:=t'}:=by
 have nch: ∀b u,H b=some u->b ∉ ch:=λb u e z=>by have:=(hf b z).1;rw[e]at this;cases this
 refine I.step (g':=s.gens) (d':=s.drawn) (ch:=ch) (λb hb=>⟨(hf b hb).2.2.2.1,(hf b hb).2.1,(hf b hb).2.2.2.2.1,(hf b hb).2.2.2.2.2⟩) (λb u _ _ hc e _=>k b u hc e) (λb u _ _ hc e _=>⟨u.slots,k b u hc e⟩)
  (λb u _ e n=>n) (λb u hc e=>⟨u,k b u hc e⟩) (λb xs e=>e) (λb ob u e=>e) (λb ps e=>⟨#[],by rw[e];simp⟩) (λm hm=> ?_) (λb u e=> ?_) I.bare
 .obtain⟨ob,es,ep,ho,r⟩:=hm;exact⟨ob,es,ep,k _ ob (λz=>(hf _ z).2.1 rfl) ho,r⟩
 .refine(I.hok b u e).stay (λc v hc q=>k c v ?_ q) (λc q=>q) λc xs q=>q
  rcases hc with z|z
  .rw[z];exact nch b u e
  .exact nch c _ z
end
def b49 (T:Bool)(h:Heap)(a:Addr)(xs:Array Value):Prop:=match T with
 | false=>h.IsList a xs
 | true=>h.IsTuple a xs
def aR0 (T:Bool)(h:Heap)(it a:Addr)(i:Nat):Prop:=match T with
 | false=>h.IsListIter it a i
 | true=>h.IsTupleIter it a i
noncomputable def b32 (T:Bool)(a:Addr):Obj:=match T with
 | false=>{cls:= .type "list_iterator",data:= .fields #[.ref a,.int 0 0]}
 | true=>{cls:= .type "tuple_iterator",data:= .fields #[.ref a,.int 0 0]}
def SqV (K:PySem.W.Frag)(T:Bool)(H:Hp)(a:Addr)(xs:List V):Prop:=match T with
 | false=>SqL K H a xs
 | true=>SqT K H a xs
theorem b49.at (x:b49 T h a xs)(e: ∀o,h.get? a=some o->h'.get? a=some o):b49 T h' a xs:=by
 cases T<;>(obtain⟨o,ho,r⟩:=x;exact⟨o,e o ho,r⟩)
theorem aR0.at (x:aR0 T h it a i)(e: ∀o,h.get? it=some o->h'.get? it=some o):aR0 T h' it a i:=by
 cases T<;>(obtain⟨o,ho,r⟩:=x;exact⟨o,e o ho,r⟩)
theorem b49.lt (x:b49 T h a xs):a<h.objs.size:=by
 cases T<;>(obtain⟨o,ho,r⟩:=x;exact aW ho)
theorem aR0.rec' (x:aR0 T h it a i): ∃o,h.get? it=some o/\ ∀v,o.data≠ .cell v:=by
 cases T<;>(obtain⟨o,ho,hc,hd⟩:=x;exact⟨o,ho,λv z=>by rw[hd]at z;cases z⟩)
theorem aR0.new (h:Heap)(a:Addr):aR0 T (h.push<|b32 T a) h.objs.size a 0:=by
 cases T<;>exact⟨_,cZ _ rfl,rfl,rfl⟩
section
variable {X:Cx}{pins:List (Addr×Obj)}{σ:St}{H:Hp}{s:Shared}
theorem Inv.sq {xs:List V}(I:Inv X pins σ H s)(h:SqV X.K T H a xs): ∃its:List Value,Vals xs its/\b49 T s.heap a its.toArray/\xs.length<=sizeLine:=by
 cases T with
 | false=>obtain⟨its,rv,p,hz⟩:=I.list h;exact⟨its,rv,p.isList,hz⟩
 | true=>obtain⟨its,rv,p,hz⟩:=I.tuple h;exact⟨its,rv,p,hz⟩
theorem Inv.sq_inj {xs ys:List V}(I:Inv X pins σ H s)(h:SqV X.K T H a xs)(h':SqV X.K T H a ys):xs=ys:=by
 cases T with
 | false=>exact I.list_inj h h'
 | true=>exact I.tuple_inj h h'
end
section
variable {prog:Program}{w:World}{A:Around}{E:Value->Shared->Prop}{s:Shared}
theorem bP7 (hl:b49 T s.heap a xs)(hQ:Q (.ref s.heap.objs.size) {s with heap:=s.heap.push (b32 T a)}) :
  wpAny (model prog w) A (pyIter<|.ref a) Q E s:=by
 cases T with
 | false=>exact a11 hl hQ
 | true=>exact wpAny_pyIter_tuple hl hQ
theorem d36 {x:Value}(hit:s.heap.IsTupleIter it t i)(ht:s.heap.IsTuple t items)(hx:items[i]? =some x)
  (hQ: ∀h',h'.IsTupleIter it t (i+1)->SameBut it s.heap h'->Q x {s with heap:=h'}):wpAny (model prog w) A (Builtin.SmallTypes.nextOf<|.ref it) Q E s:=by
 obtain⟨oi,hoi,hci,hdi⟩:=id hit;obtain⟨ot,hot,_,nt,hdt⟩:=ht;unfold Builtin.SmallTypes.nextOf;refine a9 (qG (name:=Str.ofString "__next__") hit.typeIs zY<|lK zY hit.typeIs PySem.F.entry_tuple_iterator_next ?_<|PySem.F.args_tuple_iterator_next_1 _);show wpAny _ _ (field (.ref it) 0 >>= _) _ _ s;refine a9 (iM hoi hdi (x:= .ref t) rfl ?_)
 show wpAny _ _ (if(Value.ref t==Value.none)=true then _ else _) _ _ s;rw[a6<|show ¬((Value.ref t==Value.none)=true)from bE]
 show wpAny _ _ (field (.ref it) 1 >>= _) _ _ s;refine a9 (iM hoi hdi (x:= .int i 0) rfl ?_)
 show wpAny _ _ (seqItems? (.ref t) >>= _) _ _ s;refine a9 (wpAny_seqItems hot hdt ?_)
 simp only[dU,hx];refine a9 (uU hoi hdi ae<|aN ⟨x,rfl,aN<|hQ _ ⟨_,qI _ hoi<|aK5<|qU hdi _,(Obj.cls_mapFields ..).trans hci,?_⟩<|uJ ..⟩)
 rw[qU hdi];simp[rawInt]
theorem cT3 (hh:A.handled=none)(hit:s.heap.IsTupleIter it t i)(ht:s.heap.IsTuple t items)(hx:items[i]? =none)
  (hE: ∀h' e,ExtBut it s.heap h'->(∃o,h'.get? e=some o/\o.cls= .type "StopIteration")->E (.ref e) {s with heap:=h'}):wpAny (model prog w) A (Builtin.SmallTypes.nextOf<|.ref it) Q E s:=by
 obtain⟨oi,hoi,hci,hdi⟩:=id hit;obtain⟨ot,hot,_,nt,hdt⟩:=ht;unfold Builtin.SmallTypes.nextOf;refine a9 (qG (name:=Str.ofString "__next__") hit.typeIs zY<|lK zY hit.typeIs PySem.F.entry_tuple_iterator_next ?_<|PySem.F.args_tuple_iterator_next_1 _);show wpAny _ _ (field (.ref it) 0 >>= _) _ _ s;refine a9 (iM hoi hdi (x:= .ref t) rfl ?_)
 show wpAny _ _ (if(Value.ref t==Value.none)=true then _ else _) _ _ s;rw[a6<|show ¬((Value.ref t==Value.none)=true)from bE]
 show wpAny _ _ (field (.ref it) 1 >>= _) _ _ s;refine a9 (iM hoi hdi (x:= .int i 0) rfl ?_)
 show wpAny _ _ (seqItems? (.ref t) >>= _) _ _ s;refine a9 (wpAny_seqItems hot hdt ?_)
 simp only[dU,hx];refine a9 (wpAny_rule<|a9<|uU hoi hdi ae ?_)
 show wpAny _ _ (newExc (.type "StopIteration") [] >>= _) _ _ _;refine a9 ?_;simp only[newExc,newTuple];refine a9 (kJ ?_<|by size_fits)
 refine a9 (m:=firstArgMember _ _) (kR (a:=Value.none) (by first|rfl| (simp only[firstArgMember];rfl)) ?_);refine kJ ?_ (by size_fits)
 simp only[raiseNew];refine a9 (wpAny_handled ?_);first|rw[show A.in1.handled=none from hh]|rw[hh]
 exact a9 (aN<|wpAny_throw<|hE _ _ (((uJ ..).extBut.push _).push _) ⟨_,cZ _ rfl,rfl⟩)
theorem dK9 {T:Bool}{it a:Addr}{i:Nat}{xs:Array Value}{x:Value}{Q:Value->Shared->Prop}(hit:aR0 T s.heap it a i)(hl:b49 T s.heap a xs)(hx:xs[i]? =some x)
  (hQ: ∀h',aR0 T h' it a (i+1)->SameBut it s.heap h'->Q x {s with heap:=h'}):wpAny (model prog w) A (Builtin.SmallTypes.nextOf<|.ref it) Q E s:=by
 cases T with
 | false=>exact wpAny_nextOf_list_item hit hl hx hQ
 | true=>exact d36 hit hl hx hQ
theorem d37 {T:Bool}{it a:Addr}{i:Nat}{xs:Array Value}{Q:Value->Shared->Prop}(hh:A.handled=none)(hit:aR0 T s.heap it a i)(hl:b49 T s.heap a xs)(hx:xs[i]? =none)
  (hE: ∀h' e,ExtBut it s.heap h'->(∃o,h'.get? e=some o/\o.cls= .type "StopIteration")->E (.ref e) {s with heap:=h'}):wpAny (model prog w) A (Builtin.SmallTypes.nextOf<|.ref it) Q E s:=by
 cases T with
 | false=>exact wpAny_nextOf_list_end hh hit hl hx hE
 | true=>exact cT3 hh hit hl hx hE
end
theorem d38:2<=sizeLine:=ac
theorem c47 (hh:A.handled=none)(it a:Addr)(hne:a≠it)(xs:Array Value):Draws prog w A it [it,a] xs.size (λi v=>xs[i]? =some v) (λi h=>aR0 T h it a i/\b49 T h a xs) where
 live:=λ_ _ st=>let ⟨o,ho,_⟩:=st.1.rec';⟨o,ho⟩
 frame:=λ_ _ _ st k=>⟨st.1.at λo e=>k it ae o e,st.2.at λo e=>k a ae o e⟩
 item:=λi s Q E hi st hQ=>dK9 st.1 st.2 (x:=xs[i]) (by simp[hi]) λh' hit' m=>hQ _ h' s.toks (by simp[hi]) ⟨hit',st.2.at λo e=>m.extBut _ _ hne e⟩ m
 done:=λs Q E st hE=>d37 hh st.1 st.2 ae hE
noncomputable def Ite (K:PySem.W.Frag)(T:Bool)(l:Addr):It where
 go:=λi H=> ∃xs x,SqV K T H l xs/\xs[i]? =some x
 yld:=λi H v H'=> ∃Tn x,v= .ref Tn/\H Tn=none/\H'=upd H Tn (.tup [.int (i:Int),x])/\ ∀xs,SqV K T H l xs->xs[i]? =some x
 stop:=λi H=> ∃xs,SqV K T H l xs/\xs.length=i
def ESt (T:Bool)(e it l:Addr)(i:Nat)(h:Heap):Prop:=(∃old,IsEnum h e it i old)/\aR0 T h it l i
theorem ESt.objs {e:Addr}(st:ESt T e it l i h): ∀b∈[e,it],∃o,h.get? b=some o/\ ∀v,o.data≠ .cell v:=λb hb=>by
 obtain⟨⟨old,he⟩,h1⟩:=st;simp only[bB,iZ,lU]at hb;rcases hb with rfl|rfl
 .exact⟨_,he,λv q=>by cases q⟩
 .exact h1.rec'
theorem cT4 {e:Addr}(hei:e≠it)(nl:l ∉ [e,it]):cD3 P w K (.Tuple elts kt tp) (Ite K T l) [e,it] e (ESt T e it l) where
 mem:=ae
 obj:=λi h st b hb=>st.objs b hb
 keep:=λi h h' st k=>by
  obtain⟨⟨old,he⟩,h1⟩:=st;exact⟨⟨old,k e ae _ he⟩,h1.at λo q=>k it ae o q⟩
 item:=by
  intro X hP hw hK hc i pins s σ H E I hf st hg;subst hP hw hK;obtain⟨xs,x,q1,e1⟩:=hg;obtain⟨is1,r1,p1,_⟩:=I.sq q1;obtain⟨u1,hu1,ru1⟩:=r1.get e1;simp only[bB,iZ,lU,not_or]at nl;obtain⟨⟨old,he⟩,h1⟩:=id st;have hi:i<is1.toArray.size:=by rw[b9];exact(kG.mp hu1).1
  have D:=c47 (prog:=X.prog) (w:=X.w) (A:=X.A.in1) (T:=T) (I.ok.hd hc) it l nl.2 is1.toArray;refine wpAny_pyNext_enum_itemD D he ⟨h1,p1⟩ hi hei (by simp[hei,Ne.symm nl.1]) λv h' tk hv ho hs' ht hsz k=>⟨_,rfl,wpAny_letOwnedTupleGo_enum ho λh2 he2 m=> ?_⟩
  have ev:v=u1:=by
   have:is1.toArray[i]? =some u1:=by exists hu1
   rw[this]at hv;cases hv;rfl
  subst ev;have hne:s.heap.objs.size≠e:=ne_of_gt (aW he);have kk: ∀b u,b ∉ [e,it]->s.heap.get? b=some u->h2.get? b=some u:=λb u nb q=>by
   simp only[bB,iZ,lU,not_or]at nb;exact m.extBut _ _ nb.1 (k b u nb.1 nb.2 q)
  have ht2:h2.get? s.heap.objs.size=some {cls:= .type "tuple",data:= .seq #[.int i tk,v]}:=m.extBut _ _ hne ht;refine⟨.ref s.heap.objs.size,upd H s.heap.objs.size<|.tup [.int (i:Int),x],I.turnedNew (t':=tk+1) kk hf (aD _) ⟨d38,[.int i tk,v],.cons ⟨tk,rfl⟩<|.cons ru1 .nil,⟨_,ht2,rfl,_,rfl⟩⟩,rfl,
   ⟨_,x,rfl,I.hok.fresh<|aD _,rfl,λxs' q=>by rw[I.sq_inj q q1];exact e1⟩,⟨⟨_,by exists he2⟩,hs'.1.at λo q=>m.extBut _ _ (Ne.symm hei) q⟩,λb hb=> ?_⟩
  obtain⟨o,ho',_⟩:=st.objs b hb;rw[cW<|bJ<|aW ho'];exact(hf b hb).1
 done:=by
  intro X hP hw hK hc i pins s σ H E I hf st hg;subst hP hw hK;obtain⟨xs,q1,hl⟩:=hg;obtain⟨is1,r1,p1,_⟩:=I.sq q1;have l1':=r1.length;simp only[bB,iZ,lU,not_or]at nl;obtain⟨⟨old,he⟩,h1⟩:=id st;have D:=c47 (prog:=X.prog) (w:=X.w) (A:=X.A.in1) (T:=T) (I.ok.hd hc) it l nl.2 is1.toArray
  refine wpAny_pyNext_enum_endD D he ⟨by rw[b9,<-l1',hl];exact h1,p1⟩ λh' ex=>⟨rfl,I.turnedL (t':=s.toks) (λb u nb q=>ex b u (λz=>nb (by simp[z])) q) hf⟩
 self:=λ_ _ _ _ _ st h=>by
  obtain⟨⟨old,he⟩,_⟩:=st;exact wpAny_pyIter_enum he h
theorem cT5 (l:Addr)(xs:Array Value):Meets (Builtin.«enumerate.__new__» ⟨[.type "enumerate",.ref l],[]⟩) (λ_ R s=>s.heap.IsTuple l xs/\
  R (.ok<|.ret<|.ref (s.heap.push<|b32 true l).objs.size) {s with heap:=(s.heap.push<|b32 true l).push {cls:= .type "enumerate",data:= .fields #[.none,.bool false,.ref s.heap.objs.size,rawInt 0,.none,.none]}}):= .of_wp λprog w A R s h=>by
 obtain⟨hp,g,d,tk,os⟩:=s;obtain⟨hl,h⟩:=h;obtain⟨⟨c,dct,dt,sl⟩,hg,hc,n,hd⟩:=id hl
 replace hc:c= .type "tuple":=hc
 replace hd:dt= .seq xs n:=hd
 subst hc hd;have hsub:=sub_enumerate;have e1:b49 true (Shared.heap ⟨hp,g,d,tk,os⟩) l xs:=hl
 wp_walk using aJ0 hg
 refine wpAny_stack_any λst=>aN ?_
 split
 .rename_i c _ _ _ _ _
  cases (c==Value.type "enumerate")<;>(wp_walk using aJ0 hg,bP7 e1;exact⟨_,rfl,h⟩)
 .wp_walk using aJ0 hg,bP7 e1
  exact⟨_,rfl,h⟩
section
variable {prog:Program}{w:World}{A:Around}{E:Value->Shared->Prop}{s:Shared}
theorem cT6 {T:Bool}{l:Addr}{xs:Array Value}{Q:Value->Shared->Prop}(hl:b49 T s.heap l xs)
  (h: ∀h' e it,e≠it->s.heap.objs.size<=e->s.heap.objs.size<=it->ESt T e it l 0 h'->(∀c o,s.heap.get? c=some o->h'.get? c=some o)->Q (.ref e) {s with heap:=h'}) :
  wpAny (model prog w) A (call (.type "enumerate") [.ref l]) Q E s:=by
 cases T with
 | false=>exact call_enumerate_list hl λh' he hit hsz k=>h h' _ _ aa aa aa ⟨⟨_,he⟩,hit⟩ k
 | true=>
  refine callType_new PySem.F.called_enumerate ac (PySem.F.typeCall_enumerate_1 _) (PySem.F.newCall_enumerate_1 _) (λobj=>PySem.F.args_object_init_2 obj _) PySem.F.entry_enumerate_new (cT5 l xs) ⟨hl,?_⟩
  have z1:(s.heap.push<|b32 true l).objs.size=s.heap.objs.size+1:=r8 ..;have he:IsEnum ((s.heap.push<|b32 true l).push {cls:= .type "enumerate",data:= .fields #[.none,.bool false,.ref s.heap.objs.size,rawInt 0,.none,.none]}) (s.heap.push<|b32 true l).objs.size s.heap.objs.size 0 .none:=cZ _ rfl
  have hi:aR0 true ((s.heap.push<|b32 true l).push {cls:= .type "enumerate",data:= .fields #[.none,.bool false,.ref s.heap.objs.size,rawInt 0,.none,.none]}) s.heap.objs.size l 0:=(aR0.new (T:=true) s.heap l).at λo e=>bC _ e
  exact⟨⟨_,he,rfl⟩,h _ _ _ (by rw[z1];omega) (by rw[z1];omega) (aD _) ⟨⟨_,he⟩,hi⟩ λc o e=>bC _ (bC _ e)⟩
end
section
variable {X:Cx}
def iEnum (K:PySem.W.Frag)(ta:TA):TI:=λσ H R=>ta σ H λvs H1=> ∃l T xs,vs=[.ref l]/\SqV K T H1 l xs/\R (Ite K T l) H1
theorem dL0 {a:Expr}{ta:TA}(hg:Gl X "enumerate")(hm:X.mg "enumerate"=none)(ha:PA X [a] ta)(hs:↥(starEach [a] X.env=[(false,eval a X.env)])) :
  PI X (.Tuple elts kt tp) (.Call (.Name "enumerate" p) [a] [] pos) (iEnum X.K ta):=by
 intro pins s σ H R I h;refine Call_ (xS I hg hm PyProof.Rows.boot_enumerate<|lD (thn (ha pos pins s σ H _ I h) λus s1 ⟨vs,H1,I1,r1,q1⟩=> ?_) hs rfl)
 obtain⟨l,T,xs,e,q1,q⟩:=q1;subst e;obtain⟨u,rfl,r⟩:=vals1 r1;cases r;obtain⟨is1,_,p1,_⟩:=I1.sq q1;refine cT6 p1 λh' e it ne f1 f2 st k=> ?_
 obtain⟨⟨old,he⟩,_⟩:=id st;refine wpAny_pyIter_enum he ?_;have lt:=p1.lt;have fr: ∀b∈[e,it],s1.heap.objs.size<=b:=λb hb=>by
  simp only[bB,iZ,lU]at hb;rcases hb with rfl|rfl
  .exact f1
  .exact f2
 exact⟨e,[e,it],_,_,H1,rfl,I1.kept (t':=s1.toks) k,cT4 ne λhb=>absurd (aZ lt<|fr l hb) (dI _),st,λb hb=>I1.fpOk (fr b hb) (I1.hok.fresh<|fr b hb),q⟩
end
theorem b50:isSubtype (.type "range_iterator") (.type "reversed")=pure false:=by rw[rC];kernel_rfl
theorem aZ0 {n:Int}(h1: -(2^31)<=n)(h2:n<2^31):Builtin.Range.rangeFitsLong n=true:=by
 simp[Builtin.Range.rangeFitsLong]
 lia
noncomputable def aR1 (n:Int):Obj:={cls:= .type "range_iterator",data:= .fields #[rawInt<|(n.toNat:Int)-1,rawInt (n.toNat:Int),rawInt<|-1]}
theorem bK8 (r:Addr)(a b c:Int)(t u v:Tok)(hc0: ¬(!(Builtin.Range.rangeFitsLong a&&Builtin.Range.rangeFitsLong b&&Builtin.Range.rangeFitsLong c&&Builtin.Range.rangeFitsLong (-c)&&Builtin.Range.rangeFitsLong (a-c)&&Builtin.Range.rangeFitsLong (Builtin.Range.rangeSize a b c)))=true) :
  Meets (Builtin.«range.__reversed__» ⟨[.ref r],[]⟩) (λ_ R s=>s.heap.get? r=some {cls:= .type "range",dict:=none,data:= .fields #[.int a t,.int b u,.int c v],slots:= #[]}/\
  R (.ok<|.ret<|Value.ref s.heap.objs.size) {s with heap:=s.heap.push {cls:=Value.type (if(Builtin.Range.rangeFitsLong a&&Builtin.Range.rangeFitsLong b&&Builtin.Range.rangeFitsLong c&&Builtin.Range.rangeFitsLong (-c)&&Builtin.Range.rangeFitsLong (a-c)&&Builtin.Range.rangeFitsLong (Builtin.Range.rangeSize a b c))=true then "range_iterator" else "longrange_iterator"),data:=Data.fields #[rawInt<|a+(Builtin.Range.rangeSize a b c-1)*c,rawInt<|Builtin.Range.rangeSize a b c,rawInt<|-c]},toks:=s.toks}):= .of_wp λprog w A R s h=>by
 obtain⟨hp,g,d,tk,os⟩:=s;obtain⟨hl,h⟩:=h
 wp_walk
 exact⟨_,rfl,h⟩
theorem b51 (r:Addr)(n:Int)(t u v:Tok)(h1: -(2^31)<=n)(h2:n<2^31):Meets (Builtin.«range.__reversed__» ⟨[.ref r],[]⟩) (λ_ R s=>IsRange s.heap r 0 n 1 t u v/\
  R (.ok<|.ret<|.ref s.heap.objs.size) {s with heap:=s.heap.push (aR1 n)}):=by
 have e0:Builtin.Range.rangeSize 0 n 1=(n.toNat:Int):=by rw[rangeSize_one];split<;>lia
 have sm:(Builtin.Range.rangeFitsLong 0&&Builtin.Range.rangeFitsLong n&&Builtin.Range.rangeFitsLong 1&&Builtin.Range.rangeFitsLong (-1)&&Builtin.Range.rangeFitsLong (0-1)&&Builtin.Range.rangeFitsLong (Builtin.Range.rangeSize 0 n 1))=true:=by
  rw[e0,aZ0 h1 h2,aZ0 (n:=0) ac ac,aZ0 (n:=1) ac ac,aZ0 (n:= -1) ac ac,aZ0 (n:=0-1) ac ac,aZ0 (n:=(n.toNat:Int)) ad ad]
  rfl
 have G:=bK8 r 0 n 1 t u v (by rw[sm];decide)
 intro prog w A R s h;refine G prog w A R s ⟨h.1,?_⟩;rw[sm,a7 rfl,e0];have e1:(0:Int)+((n.toNat:Int)-1)*1=(n.toNat:Int)-1:=ad
 rw[e1];exact h.2
section
variable {prog:Program}{w:World}{A:Around}{E:Value->Shared->Prop}{s:Shared}
theorem c48 {r:Addr}{n:Int}{t u v:Tok}{Q₁:Value->Shared->Prop}(hr:IsRange s.heap r 0 n 1 t u v)(h1: -(2^31)<=n)(h2:n<2^31)
  (h:Q₁ (.ref s.heap.objs.size) {s with heap:=s.heap.push (aR1 n)}) :
  codeAny (model prog w) A (.call (.builtin "reversed.__new__") ⟨[.type "reversed",.ref r],[]⟩) (wants Q₁ E) s:=by
 have hT:s.TypeIs (.ref r) "range":=⟨_,hr,rfl⟩;refine codeAny_of_tree ?_;show wpAny _ A.in1 (do checkBuiltinCall "reversed.__new__" ⟨[.type "reversed",.ref r],[]⟩;again (.builtin "reversed.__new__" ⟨[.type "reversed",.ref r],[]⟩)) _ _ s;refine a9 (kR (PySem.F.newCall_reversed_1 _)<|aN ⟨plainId_quiet PySem.F.plain_reversed_new _,codeAny_builtin PySem.F.entry_reversed_new ?_⟩)
 rw[Around.under_plainId PySem.F.plain_reversed_new _];unfold Builtin.«reversed.__new__»;refine a9 (kR (newClass_reversed _) ?_);try right
 refine a9 (kR (a:=()) (by first|rfl|kernel_rfl) ?_);refine a9 (kR (a:=()) (by first|rfl|kernel_rfl) ?_);try right
 refine a9 (wpAny_specialOf hT PySem.F.slot_range_reversed.lookup ?_);try right
 refine a9 (kR (PySem.F.slot_range_reversed.bind _) ?_);try right
 first
 | rw[a6<|show ¬((Value.builtin "range.__reversed__"==Value.none)=true)from bE]
 | (show wpAny _ _ (if(Value.builtin "range.__reversed__"==Value.none)=true then _ else _) _ _ _;rw[a6<|show ¬((Value.builtin "range.__reversed__"==Value.none)=true)from bE])
 refine a9 (wpAny_rule ?_)
 refine a9 (m:=runValue (.call (.builtin "range.__reversed__") ⟨[.ref r],[]⟩)) (show wpAny _ _ (call (.builtin "range.__reversed__") [.ref r]) _ _ _ from lQ PySem.F.slot_range_reversed hT PySem.F.entry_range_reversed (PySem.F.args_range_reversed_1 _) (b51 r n t u v h1 h2) ⟨hr,?_⟩)
 first
 | exact aN h
 | exact a9 (aN<|aN h)
theorem dL1 {r:Addr}{n:Int}{t u v:Tok}(hr:IsRange s.heap r 0 n 1 t u v)(h1: -(2^31)<=n)(h2:n<2^31)(h:Q (.ref s.heap.objs.size) {s with heap:=s.heap.push (aR1 n)}) :
  wpAny (model prog w) A (call (.type "reversed") [.ref r]) Q E s:=by
 refine callType_other (U:="range_iterator") (Q₁:=λobj s₁=>obj= .ref s.heap.objs.size/\s₁={s with heap:=s.heap.push (aR1 n)}) af PySem.F.create_reversed ⟨_,_,PySem.F.mro_reversed⟩ PySem.F.made_reversed b50 (PySem.F.typeCall_reversed_1 _) (c48 hr h1 h2 ⟨rfl,rfl⟩) ?_
 rintro obj s₁ ⟨rfl,rfl⟩;exact⟨⟨_,cZ _ rfl,rfl⟩,h⟩
end
section
variable {X:Cx}{tg:Expr}
def iRevR (ta:TA):TI:=λσ H R=>ta σ H λvs H1=> ∃j:Int,vs=[.int j]/\ -(2^31)<=j/\j<2^31/\R (Itd ((j.toNat:Int)-1) j.toNat) H1
theorem c49 {a:Expr}{ta:TA}{pos2:Pos}(hg:Gl X "reversed")(hm:X.mg "reversed"=none)(hg2:Gl X "range")(hm2:X.mg "range"=none)(ha:PA X [a] ta)(hs:↥(starEach [a] X.env=[(false,eval a X.env)]))
  (hs2:↥(starEach [.Call (.Name "range" p2) [a] [] pos2] X.env=[(false,eval (.Call (.Name "range" p2) [a] [] pos2) X.env)])) :
  PI X tg (.Call (.Name "reversed" p) [.Call (.Name "range" p2) [a] [] pos2] [] pos) (iRevR ta):=by
 intro pins s σ H R I h;refine Call_ (xS I hg hm PyProof.Rows.boot_reversed<|lD ?_ hs2 rfl);rw[hs2];show wpAny _ _ (spliced ((false,eval (.Call (.Name "range" p2) [a] [] pos2) X.env)::[])) _ _ s;refine Calls.spliced_cons (Call_<|xS I hg2 hm2 boot_range<|lD (thn (ha pos2 pins s σ H _ I h) λus s1 ⟨vs,H1,I1,r1,q1⟩=> ?_) hs rfl)
 obtain⟨j,e,q1,q2,q⟩:=q1;subst e;obtain⟨u,rfl,t,rfl⟩:=vals1 r1;refine call_range_1 (Calls.spliced_nil ?_);have I2:Inv X pins σ H1 {s1 with heap:=s1.heap.push {cls:= .type "range",data:= .fields #[.int 0 s1.toks,.int j t,.int 1<|s1.toks+1]},toks:=s1.toks+1+1}:=I1.kept λb o e=>bC _ e
 refine dL1 (IsRange.new ..) q1 q2 ?_
 have hi:IsRangeIter (((s1.heap.push {cls:= .type "range",data:= .fields #[.int 0 s1.toks,.int j t,.int 1<|s1.toks+1]})).push<|aR1 j) (s1.heap.push {cls:= .type "range",data:= .fields #[.int 0 s1.toks,.int j t,.int 1<|s1.toks+1]}).objs.size ((j.toNat:Int)-1) (j.toNat:Int) (-1):=cZ _ rfl;refine aJ8 hi ?_
 refine⟨_,[(s1.heap.push {cls:= .type "range",data:= .fields #[.int 0 s1.toks,.int j t,.int 1<|s1.toks+1]}).objs.size],_,_,H1,rfl,I2.kept (t':=s1.toks+1+1) λb o e=>bC _ e,bP3 _ ((j.toNat:Int)-1) j.toNat,?_,λb hb=> ?_,q⟩
 .show IsRangeIter _ _ (((j.toNat:Int)-1)+((0:Nat):Int)*(-1)) ((j.toNat:Int)-((0:Nat):Int)) (-1)
  have e1:((j.toNat:Int)-1)+((0:Nat):Int)*(-1)=(j.toNat:Int)-1:=ae
  have e2:(j.toNat:Int)-((0:Nat):Int)=(j.toNat:Int):=ae
  rw[e1,e2];exact hi
 .have e:b=(s1.heap.push {cls:= .type "range",data:= .fields #[.int 0 s1.toks,.int j t,.int 1<|s1.toks+1]}).objs.size:=by exists hb
  subst e;exact I2.fpOk (aD _) (I2.hok.fresh<|aD _)
theorem d39:PGet X (rIxL X.K):=by
 intro pins s σ H o i ov iv Q I ro ri h;obtain⟨p,xs,k,z,rfl,rfl,hq,he,q⟩:=h;cases ro;obtain⟨t,rfl⟩:=ri;obtain⟨its,r,pl,hz⟩:=I.list hq;obtain⟨j,h1,h2,h3,h4,h5⟩:=b70 he;obtain⟨w,ew,rw'⟩:=r.get h2;have hl:=r.length;have hn:=aY0;have fin:EP X pins σ Q w s:=⟨z,H,I,rw',q⟩
 by_cases h0:0<=k
 .have hj:k.toNat=j:=by
   rw[a32 h0 h5]at h1;exact gX h1
  exact wpAny_getItem_list pl.isList h0 ad (by rw[hj];exists ew) fin
 .have hj:(k+(its.toArray.size:Int)).toNat=j:=by
   rw[a26 ad h4]at h1
   rw[b9,<-hl];exact gX h1
  exact wpAny_getItem_list_neg pl.isList ad (by rw[b9]<;>lia) ad (by rw[hj];exists ew) fin
end
end L2
namespace HT
open PySem PyProof.Rows
section
variable {prog:Program}{w:World}{A:Around}{E:Value->Shared->Prop}{s:Shared}
theorem getItem_tuple_whole {lo:Option Int}(ht:IsTup s.heap t items)(hs:s.heap.IsSliceOf sl vl vu .none)(pl:IsPart vl lo)(pu:IsPart vu hi)
  (hw:sIx items.size 0 lo=0/\sIx items.size items.size hi=items.size) (h:Q (.ref t) s):wpAny (model prog w) A (getItem (.ref t)<|.ref sl) Q E s:=by
 obtain⟨os,hos,hcs,hds⟩:=id hs;have hTs:s.TypeIs (.ref sl) "slice":=⟨os,hos,hcs⟩;unfold getItem;try with_reducible refine iJ ?_
 first|refine a9 (aN ?_)|skip
 refine a9 (wpAny_sequenceKey ht.typeIs ac ?_)
 refine a9 (qG (name:=Str.ofString "__getitem__") ht.typeIs zZ<|lK zZ ht.typeIs entry_tuple_getitem ?_<|args_tuple_getitem _ _)
 show wpAny _ _ (Builtin.Tuple.tupleItemsOf (.ref t) >>= _) _ _ s
 refine a9 (tupleItemsOf_ ht ?_)
 refine a9 (a25 hTs ?_)
 rw[a7 ac]
 refine a9 (yX hs pl pu ?_)
 have hyes:(((sIx items.size 0 lo:Nat):Int)==0&&(1:Int)==1&&(sIx items.size items.size hi-sIx items.size 0 lo)==items.size)=true:=by
  rw[hw.1,hw.2];simp
 show wpAny _ _ (if(((sIx items.size 0 lo:Nat):Int)==0&&(1:Int)==1&&(sIx items.size items.size hi-sIx items.size 0 lo)==items.size)=true then _ else _) _ _ s
 rw[a7 hyes];show wpAny _ _ (Builtin.Tuple.tupleIsExact (.ref t) >>= _) _ _ s;unfold Builtin.Tuple.tupleIsExact;refine a9 (a9<|a25 ht.typeIs<|aN ?_);show wpAny _ _ (if(Value.type "tuple"==Value.type "tuple")=true then _ else _) _ _ s;rw[a7 ac]
 refine a9 (wpAny_rule ?_)
 first
  | exact aN ⟨_,rfl,aN h⟩
  | exact a9 (aN<|aN ⟨_,rfl,aN h⟩)
  | exact a9 (aN ⟨_,rfl,aN h⟩)
end
end HT
namespace L2
section
variable {X:Cx}
def rSlW (K:PySem.W.Frag):V->Option Int->Option Int->Hp->VK->Prop:=λx lo hi H Q=> ∃a xs,x= .ref a/\SqT K H a xs/\(HT.sIx xs.length 0 lo=0/\HT.sIx xs.length xs.length hi=xs.length)/\Q (.ref a) H
theorem d40:SlR X (rSlW X.K):=by
 intro pins s σ H x v vl vu lo hi sl Q I rx hs pl pu h;obtain⟨a,xs,rfl,hx,hw,q⟩:=h;cases rx;obtain⟨its,r,ht,hz⟩:=I.tuple hx;have hlen:its.toArray.size=xs.length:=by rw[b9];exact r.length.symm
 exact⟨"tuple",_,PyProof.Rows.slot_tuple_getitem.lookup,ht.typeIs,HT.getItem_tuple_whole ht hs pl pu (by rw[hlen];exact hw) ⟨.ref a,H,I,rfl,q⟩⟩
end
end L2
namespace M
section
variable {X:Cx}{K:PySem.W.Frag}{A:AS}{H:Hp}{e a b:Expr}{te ti:UE}{pos p2:Pos}{C:C0}{ρ ρ':Ev}{σ:L2.St}
def gSlT (d:D)(lo hi:Option Int)(Q:B->Prop):Prop:=match d with
 | .tup l=>Q (.pu<|.tup<|cutD l lo hi)
 | .lst l=>Q (.ow<|cutD l lo hi)
 | .rol l=>Q (.ow<|cutD l lo hi)
 | _=>False
def uSlT (t:UE)(tl th:UO):UE:=λρ Q=>t ρ λb0 ρ1=>tl ρ1 λlo ρ2=>th ρ2 λhi ρ3=>gSlT b0.d lo hi λb=>Q b ρ3
theorem cT7 (l:List D)(lo hi:Option Int)(h:HT.sIx l.length 0 lo=0/\HT.sIx l.length l.length hi=l.length):cutD l lo hi=l:=by
 unfold cutD;rw[h.1,h.2];simp
theorem cT8 {tl th:UO}{lo hi:Option Expr}(he:PU X e te)(hl:PUO X lo tl)(hu:PUO X hi th):PU X (.Subscript e (.Slice lo hi none p2) pos) (uSlT te tl th):=
 k6 (c34 ((cM3.or d13).or d40) he hl hu) λσ H Q ⟨C,ρ,Q0,I,h,k⟩=>⟨C,ρ,_,I,h,λb0 ρ1 v H1 q f s r=>by
  have I1:=(I.frz f).same s;have rr:=r.rep λa z=>I.avF f z
  refine⟨C,ρ1,_,I1,q,λl2 ρ2 H2 q2 f2 s2=> ?_⟩
  have I2:=(I1.frz f2).same s2;refine⟨C,ρ2,_,I2,q2,λh3 ρ3 H3 q3 f3 s3=> ?_⟩
  have I3:=(I2.frz f3).same s3;have s13:=s2.trans s3;have sAll:=s.trans s13;have fAll:=f.trans (f2.trans f3);have r':Rep X.K (Av C ρ3 σ) H3 b0.d v:=rr.mono (.sub s13 λa z=>f2.av (f3.av z))
  generalize b0.d=d at r' q3;cases d with
  | tup l=>
   have r2:=r';simp only[Rep]at r';obtain⟨a,vs,rfl,c,rs⟩:=r';have hlen:=rs.length
   by_cases hw:HT.sIx l.length 0 l2=0/\HT.sIx l.length l.length h3=l.length
   .refine .inr ⟨a,vs,rfl,c.imp d7 id,by rw[<-hlen];exact hw,k _ ρ3 _ _ q3 fAll sAll ?_⟩
    show Rep _ _ _ (.tup<|cutD l l2 h3) _
    rw[cT7 l l2 h3 hw];exact r2
   .exact .inl (.inr ⟨a,vs,rfl,c.imp d7 id,by rw[<-hlen];exact hw,λp n=>k _ ρ3 _ _ q3 fAll (sAll.trans<|gF n _) (kF (λa z=>I3.avSome z) n<|rs.cut l2 h3)⟩)
  | lst l=>
   simp only[Rep]at r';obtain⟨a,vs,rfl,n0,c,rs⟩:=r';exact .inl (.inl ⟨a,vs,rfl,SqL.of c,λp n=>k _ ρ3 _ _ q3 fAll (sAll.trans<|gF n _) (iT sAll n<|rs.cut l2 h3)⟩)
  | rol l=>
   simp only[Rep]at r';obtain⟨a,vs,rfl,c,rs⟩:=r';exact .inl (.inl ⟨a,vs,rfl,c.imp d7 id,λp n=>k _ ρ3 _ _ q3 fAll (sAll.trans<|gF n _) (iT sAll n<|rs.cut l2 h3)⟩)
  | _=>exact(show False from q3).elim⟩
def d41 (i:Nat)(f:Int->Int->Int)(ti te:UE):US:=λD ρ=>oU ρ i λ_=>ti ρ λj ρ1=>oU ρ1 i λl1=> ∃k n x,j.d= .int k/\ixN l1.length k=some n/\l1[n]? =some (.int x)/\
 te ρ1 λb ρ2=>oU ρ2 i λl=> ∃y,b.d= .int y/\D.nx (ρ2.set i<|some<|.ow<|l.set n<|.int<|f x y)
theorem dL2 {ix:Expr}{op:Operator}{f:Int->Int->Int}(i:Nat)(hx:PE X (.Name x p) (aG0 i))(hi:PU X ix ti)(he:PU X e te)(hp:PIp X op (ipI f))
  (ha: ∀ov iv new,augStore ix ov iv new=(do holding [new,ov,iv] (setItem ov iv new);release [new,ov,iv] [];pure .next):=by intros;rfl):PUS X (.AugAssign (.Subscript (.Name x p) ix tpos) op e pos) (d41 i f ti te):=
 tO (dH9 hx hi d39 he hp c36 ha) λD σ H ⟨C,ρ,D0,I,h,k⟩=>by
  obtain⟨l,hl,h⟩:=mS h;obtain⟨a,vs,h1,h2,h3,h4⟩:=I.ow i l hl;refine⟨.ref a,h1,C,ρ,_,I,h,λj ρ1 w H1 q f1 s1 r1=> ?_⟩
  obtain⟨l1,hl1,kk,n,x0,ej,en,ex,q⟩:=mS q;have e1:=f1.ow hl1;rw[hl]at e1;cases e1;have I1:=(I.frz f1).same s1;obtain⟨a1,vs1,g1,g2,g3,g4⟩:=I1.ow i l hl1;rw[h1]at g1;cases g1;have rj:=r1.rep λa z=>I.avF f1 z
  rw[ej]at rj;have:=bQ rj;subst this;obtain⟨v0,ev0,rv0⟩:=g4.get ex;have:=bQ rv0;subst this;have hat:L2.atI vs1 kk=some (.int x0):=by unfold L2.atI;rw[<-g4.length,en];exact ev0
  refine⟨a,vs1,kk,_,rfl,rfl,SqL.of g2,hat,C,ρ1,_,I1,q,λb ρ2 w2 H2 q2 f2 s2 r2=> ?_⟩
  obtain⟨l2,hl2,y,eb,q2⟩:=mS q2;have e2:=f2.ow hl2;rw[hl1]at e2;cases e2;have I2:=(I1.frz f2).same s2;obtain⟨a2,vs2,k1,k2,k3,k4⟩:=I2.ow i l hl2;rw[h1]at k1;cases k1;have rb:=r2.rep λa z=>I1.avF f2 z
  rw[eb]at rb;have:=bQ rb;subst this;exact⟨x0,y,rfl,rfl,a,vs2,kk,n,rfl,rfl,k2,by rw[<-k4.length];exact en,k.nx _ _ _ q2<|I2.write hl2 h1<|k4.set n<|show Rep _ _ _ _ _ by simp only[Rep]⟩
mutual
noncomputable def pd:D->Option PyData
 | .non=>some .none
 | .bl b=>some (.bool b)
 | .int i=>some (.int i)
 | .tup l=>(pdL l).map .tuple
 | .lst l=>(pdL l).map .list
 | .rol l=>(pdL l).map .list
 | .str s=>if PyData.canLay0 (.str s)=true then some (.str s)else none
 | .ty _=>none
 | .obj _ _ _=>none
 | .adr _=>none
 | .xob _ _ _ _=>none
noncomputable def pdL:List D->Option (List PyData)
 | []=>some []
 | d::r=>(pd d).bind λx=>(pdL r).map (x::·)
end
theorem c50 {d:D}{r:List D}{xs:List PyData}(h:pdL (d::r)=some xs): ∃x ys,xs=x::ys/\pd d=some x/\pdL r=some ys:=by
 simp only[pdL]at h;cases e:pd d with
 | none=>rw[e]at h;cases h
 | some x=>
  rw[e]at h;cases e2:pdL r with
  | none=>rw[e2]at h;cases h
  | some ys=>rw[e2]at h;cases h;exact⟨x,ys,rfl,rfl,rfl⟩
theorem uB {β:Type}{o:Option α}{f:α->β}{y:β}(h:o.map f=some y): ∃x,o=some x/\y=f x:=by
 cases o with
 | none=>cases h
 | some x=>cases h;exact⟨x,rfl,rfl⟩
mutual
theorem bA0: ∀(d:D) {x:PyData},pd d=some x->x.canLay0=true
 | .non,x,h=>by simp only[pd]at h;cases h;rfl
 | .bl b,x,h=>by simp only[pd]at h;cases h;rfl
 | .int i,x,h=>by simp only[pd]at h;cases h;rfl
 | .tup l,x,h=>by simp only[pd]at h;obtain⟨xs,e,rfl⟩:=uB h;simp only[PyData.canLay0];exact b71 l e
 | .lst l,x,h=>by simp only[pd]at h;obtain⟨xs,e,rfl⟩:=uB h;simp only[PyData.canLay0];exact b71 l e
 | .rol l,x,h=>by simp only[pd]at h;obtain⟨xs,e,rfl⟩:=uB h;simp only[PyData.canLay0];exact b71 l e
 | .str s,x,h=>by simp only[pd]at h;split at h;(rename_i c;cases h;exact c);cases h
 | .ty _,x,h=>by simp only[pd]at h;cases h
 | .obj _ _ _,x,h=>by simp only[pd]at h;cases h
 | .adr _,x,h=>by simp only[pd]at h;cases h
 | .xob _ _ _ _,x,h=>by simp only[pd]at h;cases h
theorem b71: ∀(l:List D) {xs:List PyData},pdL l=some xs->PyData.canLayAll0 xs=true
 | [],xs,h=>by simp only[pdL]at h;cases h;rfl
 | d::r,xs,h=>by
  obtain⟨x,ys,rfl,e1,e2⟩:=c50 h;simp only[PyData.canLayAll0,iI];exact⟨bA0 d e1,b71 r e2⟩
end
section
variable {pins:List (Addr×Obj)}{s:Shared}
mutual
theorem zA (I:Inv X pins σ H s): ∀(d:D) {x:PyData} {v:V} {u:Value},pd d=some x->Rep X.K A H d v->RelV v u-> ∃as,Reads s.heap u x as
 | .non,x,v,u,h,r,q=>by simp only[pd]at h;cases h;simp only[Rep]at r;subst r;cases q;exact⟨_,.none⟩
 | .bl b,x,v,u,h,r,q=>by simp only[pd]at h;cases h;simp only[Rep]at r;subst r;cases q;exact⟨_,.bool b⟩
 | .int i,x,v,u,h,r,q=>by simp only[pd]at h;cases h;simp only[Rep]at r;subst r;obtain⟨t,rfl⟩:=q;exact⟨_,.int i t⟩
 | .tup l,x,v,u,h,r,q=>by
  simp only[pd]at h;obtain⟨xs,e,rfl⟩:=uB h;simp only[Rep]at r;obtain⟨a,vs,rfl,c,rs⟩:=r;cases q;obtain⟨its,rv,⟨o,ho,hc,n,hd⟩,hz⟩:=I.tuple (c.imp d7 id);obtain⟨as,ra⟩:=a41 I l e rs rv;exact⟨_,.tuple ho hc hd<|by exists ra⟩
 | .lst l,x,v,u,h,r,q=>by
  simp only[pd]at h;obtain⟨xs,e,rfl⟩:=uB h;simp only[Rep]at r;obtain⟨a,vs,rfl,n0,c,rs⟩:=r;cases q;obtain⟨its,rv,p,hz⟩:=I.list (SqL.of c);obtain⟨o,ho,hc,n,hd⟩:=p.isList;obtain⟨as,ra⟩:=a41 I l e rs rv;exact⟨_,.list ho hc hd<|by exists ra⟩
 | .rol l,x,v,u,h,r,q=>by
  simp only[pd]at h;obtain⟨xs,e,rfl⟩:=uB h;simp only[Rep]at r;obtain⟨a,vs,rfl,c,rs⟩:=r;cases q;obtain⟨its,rv,p,hz⟩:=I.list (c.imp d7 id);obtain⟨o,ho,hc,n,hd⟩:=p.isList;obtain⟨as,ra⟩:=a41 I l e rs rv;exact⟨_,.list ho hc hd<|by exists ra⟩
 | .str i,x,v,u,h,r,q=>by simp only[pd]at h;split at h<;>cases h;simp only[Rep]at r;subst r;obtain⟨t,rfl⟩:=q;exact⟨_,.str i t⟩
 | .ty _,x,v,u,h,r,q=>by simp only[pd]at h;cases h
 | .obj _ _ _,x,v,u,h,r,q=>by simp only[pd]at h;cases h
 | .adr _,x,v,u,h,r,q=>by simp only[pd]at h;cases h
 | .xob _ _ _ _,x,v,u,h,r,q=>by simp only[pd]at h;cases h
theorem a41 (I:Inv X pins σ H s): ∀(l:List D) {xs:List PyData} {vs:List V} {us:List Value},pdL l=some xs->cD X.K A H l vs->Vals vs us-> ∃as,ReadsAll s.heap us xs as
 | [],xs,vs,us,h,r,q=>by simp only[pdL]at h;cases h;have:=r.unnil;subst this;cases q;exact⟨_,.nil⟩
 | d::l,xs,vs,us,h,r,q=>by
  obtain⟨x,ys,rfl,e1,e2⟩:=c50 h;obtain⟨v,vr,rfl,r1,rs⟩:=r.uncons;cases q with
  | cons q1 q2=>
   obtain⟨as,h1⟩:=zA I d e1 r1 q1;obtain⟨bs,h2⟩:=a41 I l e2 rs q2;exact⟨_,.cons h1 h2⟩
end
end
def cT9 (neg:Bool)(d e:D)(Q:B->Prop):Prop:= ∃p q,pd d=some p/\pd e=some q/\p.depth<=60/\Q (.pu<|.bl<|neg ^^ p.eqv q)
theorem ou_eqD (hu:X.A.units+64<cLine):OpU X (compareOp .Eq) (cT9 false):=by
 intro A H d e v w Q0 Q hA r1 r2 g k;obtain⟨p,q,e1,e2,hd,g⟩:=g;refine⟨λx y H Q=> ∃(A:AS) (d e:D) (p q:PyData),Rep X.K A H d x/\Rep X.K A H e y/\pd d=some p/\pd e=some q/\p.depth<=60/\Q (.bl<|p.eqv q) H,?_,A,d,e,p,q,r1,r2,e1,e2,hd,k _ _ H g (.refl _) (by rw[lL];exact lX)⟩
 rintro pins s σ H x y v u Q I rx ry ⟨A,d,e,p,q,r1,r2,e1,e2,hd,h⟩;obtain⟨as,ra⟩:=zA I d e1 r1 rx;obtain⟨bs,rb⟩:=zA I e e2 r2 ry;exact SeqAt.compareEq_reads ra rb (bA0 d e1) (bA0 e e2) ad ⟨.bl _,H,I,rfl,h⟩
theorem ou_neD (hu:X.A.units+64<cLine):OpU X (compareOp .NotEq) (cT9 true):=by
 intro A H d e v w Q0 Q hA r1 r2 g k;obtain⟨p,q,e1,e2,hd,g⟩:=g;refine⟨λx y H Q=> ∃(A:AS) (d e:D) (p q:PyData),Rep X.K A H d x/\Rep X.K A H e y/\pd d=some p/\pd e=some q/\p.depth<=60/\Q (.bl<|!(p.eqv q)) H,?_,A,d,e,p,q,r1,r2,e1,e2,hd,k _ _ H g (.refl _) (by rw[lM];exact lX)⟩
 rintro pins s σ H x y v u Q I rx ry ⟨A,d,e,p,q,r1,r2,e1,e2,hd,h⟩;obtain⟨as,ra⟩:=zA I d e1 r1 rx;obtain⟨bs,rb⟩:=zA I e e2 r2 ry;exact SeqAt.compareNe_reads ra rb (bA0 d e1) (bA0 e e2) ad ⟨.bl _,H,I,rfl,h⟩
def SqA (K:PySem.W.Frag)(A:AS)(H:Hp)(T:Bool)(a:Addr)(vs:List V):Prop:=match T with
 | false=>(¬A a/\Rd H a (.lst vs))\/KL K a vs
 | true=>(¬A a/\Rd H a (.tup vs))\/KT K a vs
theorem SqA.sqv {a':Addr}{vs:List V}{A':AS}{H':Hp}(c:SqA K A H T a' vs)(P:nE A H A' H'):SqV K T H' a' vs:=by
 cases T<;>(rcases c with⟨n,c⟩|c;exact .inl (Rd.pres P n c).2;exact .inr c)
theorem nE.self:nE A H A H:=λ_ _ n e=>⟨n,e⟩
theorem Rep.sq {d:D}{v:V}{l:List D}(r:Rep K A H d v)(h:sI d=some l): ∃T a vs,v= .ref a/\SqA K A H T a vs/\cD K A H l vs:=by
 cases d with
 | tup l'=>cases h;simp only[Rep]at r;obtain⟨a,vs,e,c,r⟩:=r;exact⟨true,a,vs,e,c,r⟩
 | lst l'=>cases h;simp only[Rep]at r;obtain⟨a,vs,e,n,c,r⟩:=r;exact⟨false,a,vs,e,.inl ⟨n,.inl c⟩,r⟩
 | rol l'=>cases h;simp only[Rep]at r;obtain⟨a,vs,e,c,r⟩:=r;exact⟨false,a,vs,e,c,r⟩
 | _=>cases h
theorem cD.at {l:List D}{vs:List V}(r:cD K A H l vs)(hi:i<l.length): ∃x,vs[i]? =some x/\Rep K A H (l.getD i .non) x:=r.get (by rw[aJ,aM hi];rfl)
theorem cU0 {l1:Addr}{vs:List V}{l:List D}(c1:SqA K A H T l1 vs)(r1:cD K A H l vs):cF0 K A H (Ite K T l1) l.length (λi=> .tup [.int (i:Int),l.getD i .non]):=by
 have k1:=r1.length;refine⟨λA' H' i P hi=> ?_,λA' H' i x H'' P hA hi y=> ?_,λA' H' P=>⟨vs,c1.sqv P,k1.symm⟩⟩
 .obtain⟨x,e1,_⟩:=r1.at hi;exact⟨vs,x,c1.sqv P,e1⟩
 .obtain⟨x1,e1,q1⟩:=r1.at hi;obtain⟨T,a,rfl,hT,rfl,ha⟩:=y;have ea:=ha vs (c1.sqv P);rw[e1]at ea;cases ea;exact⟨gF hT _,kF hA hT<|.cons (show Rep _ _ _ _ _ by simp only[Rep])<|.cons (q1.mono P) .nil⟩
def d42 (ta:UA):UI:=λρ Q=>ta ρ λds ρ1=>match ds with
 | [d]=>(match sI d with
  | some l=>Q l.length (λi=> .tup [.int (i:Int),l.getD i .non]) ρ1
  | none=>False)
 | _=>False
theorem dL3 {ta:UA}(hg:Gl X "enumerate")(hm:X.mg "enumerate"=none)(ha:PUA X [a] ta)(hs:↥(starEach [a] X.env=[(false,eval a X.env)])) :
  PUI X (.Tuple elts kt tp) (.Call (.Name "enumerate" p) [a] [] pos) (d42 ta):=
 b93 (dL0 hg hm ha hs) λσ H R ⟨C,ρ,Q0,I,h,k⟩=>⟨C,ρ,_,I,h,λds ρ1 vs H1 q f s r=>by
  split at q
  .rename_i d
   obtain⟨v,vr,rfl,rv,rr⟩:=r.uncons;have:=rr.unnil;subst this;split at q
   .rename_i l e1
    obtain⟨T1,a1,us,rfl,c1,s1⟩:=rv.sq e1;exact⟨a1,T1,us,rfl,c1.sqv .self,k _ _ ρ1 _ H1 q f s<|cU0 c1 s1⟩
   .exact q.elim
  .exact q.elim⟩
def d43 (ta:UA):UI:=λρ Q=>ta ρ λds ρ1=>match ds with
 | [.int j]=>(-(2^31)<=j/\j<2^31)/\Q j.toNat (λk=> .int ((j.toNat:Int)-1-k)) ρ1
 | _=>False
theorem dL4 {ta:UA}{q2 pos2:Pos}(hg:Gl X "reversed")(hm:X.mg "reversed"=none)(hg2:Gl X "range")(hm2:X.mg "range"=none)(ha:PUA X [a] ta)(hs:↥(starEach [a] X.env=[(false,eval a X.env)]))
  (hs2:↥(starEach [.Call (.Name "range" q2) [a] [] pos2] X.env=[(false,eval (.Call (.Name "range" q2) [a] [] pos2) X.env)])) :
  PUI X tg (.Call (.Name "reversed" p) [.Call (.Name "range" q2) [a] [] pos2] [] pos) (d43 ta):=
 b93 (c49 hg hm hg2 hm2 ha hs hs2) λσ H R ⟨C,ρ,Q0,I,h,k⟩=>⟨C,ρ,_,I,h,λds ρ1 vs H1 q f s r=>by
  split at q
  .rename_i j
   obtain⟨v,vr,rfl,rv,rr⟩:=r.uncons;have:=rr.unnil;subst this;have:=bQ rv;subst this;obtain⟨⟨h1,h2⟩,q⟩:=q;exact⟨j,rfl,h1,h2,k _ _ ρ1 _ H1 q f s bP5⟩
  .exact q.elim⟩
end
section
variable {X:Cx}{a b c e:Expr}{ta tb tc te:UE}{pos:Pos}
def cF9 (g g':D->D->(B->Prop)->Prop)(ta tb tc:UE):UE:=λρ Q=>ta ρ λx ρ1=>tb ρ1 λy ρ2=>g x.d y.d λb=>isB (λk ρ3=>if k=true then tc ρ3 λz ρ4=>g' y.d z.d λb'=>Q b' ρ4 else Q (.pu<|.bl false) ρ3) b ρ2
theorem d44 {op':CmpOp}{g g':D->D->(B->Prop)->Prop}(ho:OpU X (compareOp op) g)(ho':OpU X (compareOp op') g')(ha:PU X a ta)(hb:PU X b tb)(hc:PU X c tc)
  (hm:lastMarks [op,op'] [b,c]=false:=by with_unfolding_all rfl):PU X (.Compare a [op,op'] [b,c] pos) (cF9 g g' ta tb tc):=
 k6 (d04 c38 c38 ha hb hc hm) λσ H Q ⟨C,ρ,Q0,I,h,k⟩=>⟨C,ρ,_,I,h,λx ρ1 v H1 q1 f1 s1 r1=>by
  have I1:=(I.frz f1).same s1;refine⟨C,ρ1,_,I1,q1,λy ρ2 w H2 q2 f2 s2 r2=> ?_⟩
  have I2:=(I1.frz f2).same s2;have rx:Rep X.K (Av C ρ2 σ) H2 x.d v:=(r1.rep λa z=>I.avF f1 z).mono (.sub s2 λa=>f2.av)
  have ry:Rep X.K (Av C ρ2 σ) H2 y.d w:=r2.rep λa z=>I1.avF f2 z
  refine ho (Av C ρ2 σ) H2 x.d y.d v w _ _ (λa z=>I2.avSome z) rx ry q2 λb v' H3 q3 s3 r3=> ?_
  obtain⟨kk,rfl,q3⟩:=bV0 q3 r3;refine⟨kk,rfl,?_⟩;have I3:=I2.same s3;cases kk with
  | false=>
   rw[a6 bE]at q3⊢;exact k _ _ _ _ q3 (f1.trans f2) (s1.trans<|s2.trans s3) lX
  | true=>
   rw[a7 rfl]at q3⊢;refine⟨C,ρ2,_,I3,q3,λz ρ4 w' H4 q4 f4 s4 r4=> ?_⟩
   have I4:=(I3.frz f4).same s4;have ry4:Rep X.K (Av C ρ4 σ) H4 y.d w:=ry.mono (.sub (s3.trans s4) λa=>f4.av)
   exact ho' (Av C ρ4 σ) H4 y.d z.d w w' _ Q (λa z=>I4.avSome z) ry4 (r4.rep λa z=>I3.avF f4 z) q4 λb' v'' H5 q5 s5 r5=>k b' ρ4 v'' H5 q5 (f1.trans<|f2.trans f4) (s1.trans<|s2.trans<|s3.trans<|s4.trans s5) (r5.from<|s1.trans<|s2.trans<|s3.trans s4)⟩
end
end M
end
section
namespace L2
theorem aZ1:fillsNumberSlot (.type "tuple") "mul"=pure false:=
 PySem.fillsNumberSlot_seq (id:="tuple.__mul__") (r:=some (.builtin "tuple.__rmul__")) PySem.F.slot_tuple_mul.lookup af PySem.F.slot_tuple_rmul.lookup af
theorem bV9:seqRepeat? (.type "tuple")=pure (some<|.builtin "tuple.__mul__"):=by
 unfold seqRepeat?;rw[PySem.seqSlot_of (T:="tuple") (name:="__mul__") (id:="tuple.__mul__") PySem.F.slot_tuple_mul.lookup af,PySem.seqSlot_of (T:="tuple") (name:="__rmul__") (id:="tuple.__rmul__") PySem.F.slot_tuple_rmul.lookup af]
 rfl
theorem bA1 (a:Int)(t:Tok)(l:Addr)(items:Array Value)(n:Nat)(dd:Option Addr)(sl:Array (Option Value)) :
  Meets (Builtin.«int.__rmul__» ⟨[.int a t,.ref l],[]⟩) (λ_ R s=>s.heap.get? l=some {cls:= .type "tuple",dict:=dd,data:= .seq items n,slots:=sl}/\R (.ok<|.ret Value.notImplemented) s):=
 .of_wp λprog w A R s h=>by obtain⟨hp,g,d,tk,os⟩:=s;obtain⟨hl,h⟩:=h;wp_walk using kK hl;exact⟨_,rfl,h⟩
theorem d45 (l:Addr)(items:Array Value)(n:Nat)(dd:Option Addr)(sl:Array (Option Value))(u:Tok) :
  Meets (Builtin.«tuple.__mul__» ⟨[.ref l,.int 1 u],[]⟩) (λ_ R s=>s.heap.get? l=some {cls:= .type "tuple",dict:=dd,data:= .seq items n,slots:=sl}/\R (.ok<|.ret<|.ref l) s):=
 .of_wp λprog w A R s h=>by
  obtain⟨hp,g,d,tk,os⟩:=s;obtain⟨hl,h⟩:=h;have f1:=aM3
  wp_walk using kK hl
  exact⟨_,rfl,h⟩
theorem d46 (l:Addr)(items:Array Value)(n:Nat)(dd:Option Addr)(sl:Array (Option Value))(k:Int)(u:Tok)(h1: ¬(k< -(2^63)||k≥2^63)=true)(hne: ¬(items.isEmpty||k==1)=true)(h0:(k<=0||items.isEmpty)=true) :
  Meets (Builtin.«tuple.__mul__» ⟨[.ref l,.int k u],[]⟩) (λ_ R s=>s.heap.get? l=some {cls:= .type "tuple",dict:=dd,data:= .seq items n,slots:=sl}/\R (.ok<|.ret<|.ref s.heap.objs.size) {s with heap:=s.heap.push {cls:= .type "tuple",data:= .seq #[]}}):=
 .of_wp λprog w A R s h=>by
  obtain⟨hp,g,d,tk,os⟩:=s;obtain⟨hl,h⟩:=h;have f1:=aM3
  wp_walk using kK hl
  rw[a6 h1]
  wp_walk using kK hl
  exact⟨_,rfl,h⟩
theorem d47 (l:Addr)(items:Array Value)(n:Nat)(dd:Option Addr)(sl:Array (Option Value))(k:Int)(u:Tok)(h1: ¬(k< -(2^63)||k≥2^63)=true)(hne: ¬(items.isEmpty||k==1)=true)(h0: ¬(k<=0||items.isEmpty)=true)
  (h2: ¬items.size*k>(2^63-1)/8) (h3: ¬Builtin.Tuple.tupleTooMany (items.size*k)=true) (hz:(foldl (λx1 x2=>x1++x2) #[] (replicate k.toNat items)).size<=sizeLine) :
  Meets (Builtin.«tuple.__mul__» ⟨[.ref l,.int k u],[]⟩) (λ_ R s=>s.heap.get? l=some {cls:= .type "tuple",dict:=dd,data:= .seq items n,slots:=sl}/\R (.ok<|.ret<|.ref s.heap.objs.size) {s with heap:=s.heap.push {cls:= .type "tuple",data:= .seq (foldl (λx1 x2=>x1++x2) #[] (replicate k.toNat items))}}):=
 .of_wp λprog w A R s h=>by
  obtain⟨hp,g,d,tk,os⟩:=s;obtain⟨hl,h⟩:=h;have f1:=aM3
  wp_walk using kK hl
  rw[a6 h1]
  wp_walk using kK hl
  rw[a6 h2]
  wp_walk using kK hl
  all_goals first
   | exact⟨_,rfl,h⟩
   | (refine wpAny_ite_false (fX<|Nat.not_lt.mpr hz) ?_
      wp_walk using kK hl
      exact⟨_,rfl,h⟩)
section
variable {X:Cx}
theorem dL5:OpR X (binaryOp .Mult) (λx y H Q=> ∃a k xs,x= .ref a/\y= .int k/\SqT X.K H a xs/\xs≠[]/\ -(2^63)<=k/\k<2^63/\xs.length*k.toNat<=sizeLine/\(k=1->Q (.ref a) H)/\(k≠1-> ∀p,H p=none->Q (.ref p) (upd H p<|.tup (replicate k.toNat xs).flatten))):=by
 intro pins s σ H x y v u Q I rx ry h;obtain⟨a,k,xs,rfl,rfl,ha,hn,h1,h2,hz,q1,q2⟩:=h;cases rx;obtain⟨t,rfl⟩:=ry;obtain⟨its,r,p1,_⟩:=I.tuple ha;have hl:=r.length;obtain⟨⟨cls,dd,data,sl⟩,ho,hc,n,hd⟩:=id p1;simp only at hc hd;subst hc hd;have ne:its≠[]:=λz=>hn (uG.mp (by rw[hl,z];rfl))
 have ne2:its.toArray.isEmpty=false:=by cases its with
  | nil=>exact absurd rfl ne
  | cons b r'=>rfl
 have hb: ¬(decide (k< -(2^63))||decide (k≥2^63))=true:=by simp;omega
 have f0: ∀m:Nat,foldl (λx1 x2=>x1++x2) #[] (replicate m its.toArray)=(replicate m its).flatten.toArray:=λm=>by
  have:=foldl_rep its m [];rw[qZ]at this;exact this
 refine wpAny_binaryOp_repeat_ref (T:="tuple") (U:="int") ac ⟨_,ho,rfl⟩ (λs'=>rJ s' k t) aZ1 PySem.F.fills_int_mul PySem.F.slot_int_rmul bV9 PySem.F.slot_int_index.lookup
  (lQ PySem.F.slot_int_rmul (rJ s k t) PySem.F.entry_int_rmul (PySem.F.args_int_rmul_2 _ _) (bA1 k t a its.toArray n dd sl) ⟨ho,rfl,⟨_,ho,rfl⟩,?_⟩)
 by_cases k1:k=1
 .subst k1;exact lQ aK2 ⟨_,ho,rfl⟩ aJ5 (aJ1 _ _) (d45 a its.toArray n dd sl t) ⟨ho,.ref a,H,I,rfl,q1 rfl⟩
 have hne: ¬(its.toArray.isEmpty||k==1)=true:=by rw[ne2];exists k1
 by_cases k0:k<=0
 .have e0:k.toNat=0:=aa
  refine lQ aK2 ⟨_,ho,rfl⟩ aJ5 (aJ1 _ _) (d46 a its.toArray n dd sl k t hb hne<|by simp[k0]) ⟨ho,?_⟩
  have q:=q2 k1;rw[e0]at q;exact⟨.ref _,_,I.laid (t':=s.toks) (o:= .tup []) (λb ob q=>bC _ q) (aD _) ⟨gA _,_,.nil,vA _ _⟩,rfl,q _ I.fresh⟩
 .have ek:k=(k.toNat:Int):=aa
  have em:(its.toArray.size:Int)*k=((its.toArray.size*k.toNat:Nat):Int):=by rw[aM6,<-ek]
  have hs:its.toArray.size*k.toNat<=sizeLine:=by rw[b9,<-hl];exact hz
  have hcap:(sizeLine:Nat)<=(2^63-1)/8:=ac
  refine lQ aK2 ⟨_,ho,rfl⟩ aJ5 (aJ1 _ _) (d47 a its.toArray n dd sl k t hb hne (by rw[ne2];simp;omega) (by rw[em];omega) (by rw[em];unfold Builtin.Tuple.tupleTooMany;rw[o7];omega) (by rw[f0,b9,bU7,mul_comm];exists hs)) ⟨ho,?_⟩
  rw[f0];exact⟨.ref _,_,I.laid (t':=s.toks) (o:= .tup (replicate k.toNat xs).flatten) (λb ob q=>bC _ q) (aD _) ⟨by rw[bU7,mul_comm];exact hz,_,r.rep k.toNat,vA _ _⟩,rfl,q2 k1 _ I.fresh⟩
end
theorem d48:typeLookup (.type "tuple") "__reversed__"=pure none:=by rw[a20,a05];kernel_rfl
theorem sub_tuple_dict:isSubtype (.type "tuple") (.type "dict")=pure false:=by rw[rC];kernel_rfl
theorem bP8:Manifest.owners.lookup (String.ofList ['d','e','s','r','e','v','e','r'].reverse)=some Manifest.sig_reversed:=by kernel_rfl
theorem nN:Slot "reversed" "__next__" "reversed.__next__":=
 .of (owner:="reversed") (n:="__next__") (by rw[a20,a05];kernel_rfl) af af af
  (by first|exact .inl af|exact .inr af) (by rw[rC];kernel_rfl)
theorem aA2:entryFor table "reversed.__next__"=some Builtin.«reversed.__next__» :=entryFor_of_tree (by kernel_rfl)
theorem a76 (a:Value):argsOk "reversed.__next__" ⟨[a],[]⟩:=by
 unfold argsOk;rw[signature?_of (id:="reversed.__next__") (n:=['_','_','t','x','e','n','_','_']) (o:=['d','e','s','r','e','v','e','r']) (by kernel_rfl) bP8];kernel_rfl
theorem aH0:Slot "reversed" "__iter__" "reversed.__iter__":=
 .of (owner:="reversed") (n:="__iter__") (by rw[a20,a05];kernel_rfl) af af af
  (by first|exact .inl af|exact .inr af) (by rw[rC];kernel_rfl)
theorem b52 (a:Value):argsOk "reversed.__iter__" ⟨[a],[]⟩:=by
 unfold argsOk;rw[signature?_of (id:="reversed.__iter__") (n:=['_','_','r','e','t','i','_','_']) (o:=['d','e','s','r','e','v','e','r']) (by kernel_rfl) bP8];kernel_rfl
theorem bA2:entryFor table "reversed.__iter__"=some Builtin.«dict_keyiterator.__iter__» :=
 entryFor_alias (id':="dict_keyiterator.__iter__") (by kernel_rfl) (by first|rfl|decide +kernel| (unfold String.splitOn;simp +decide [String.splitOnAux])) af (by kernel_rfl)
theorem bK9:Slot "reversed" "__init__" "object.__init__":=
 .of (owner:="object") (n:="__init__") (by rw[a20,a05];kernel_rfl) af af af
  (by first|exact .inl af|exact .inr af) (by rw[rC];kernel_rfl)
theorem cG0:TypeCalled "reversed" "reversed.__new__" "object.__init__":=
 ⟨af,af,⟨_,_,PySem.F.mro_reversed⟩,PySem.F.made_reversed,af,by rw[rC];kernel_rfl,bK9⟩
theorem dL6 (l:Addr)(items:Array Value)(hfit:(items.size:Int)<2^63) :
  Meets (Builtin.«reversed.__new__» ⟨[.type "reversed",.ref l],[]⟩) (λ_ R s=>s.heap.IsTuple l items/\R (.ok<|.ret<|.ref s.heap.objs.size) {s with heap:=s.heap.push {cls:= .type "reversed",data:= .fields #[.ref l,rawInt<|(items.size:Int)-1]},toks:=s.toks+1+1}):=
 .of_wp λprog w A R s h=>by
  obtain⟨hp,g,d,tk,os⟩:=s;obtain⟨ht,h⟩:=h;obtain⟨⟨c,dct,dt,sl⟩,hl,hc,n,hd⟩:=id ht
  replace hc:c= .type "tuple":=hc
  replace hd:dt= .seq items n:=hd
  subst hc hd;have f1:=PySem.F.sub_reversed_self;have f2:=d48;have f4:=PySem.F.slot_tuple_getitem.lookup;have f5:=sub_tuple_dict;have e1:IsTup (Shared.heap ⟨hp,g,d,tk,os⟩) l items:=ht
  wp_walk using kK hl,PyProof.Rows.len_tuple e1 hfit
  exact⟨_,rfl,h⟩
def vJ (h:Heap)(a l:Addr)(i:Int):Prop:= ∃o,h.get? a=some o/\o.cls= .type "reversed"/\o.data= .fields #[.ref l,rawInt i]
theorem vJ.at {i:Int}(x:vJ h a l i)(e: ∀o,h.get? a=some o->h'.get? a=some o):vJ h' a l i:=let ⟨o,ho,r⟩:=x;⟨o,e _ ho,r⟩
section
variable {prog:Program}{w:World}{A:Around}{E:Value->Shared->Prop}{s:Shared}
theorem vJ.typeIs {i:Int}(x:vJ s.heap a l i):s.TypeIs (.ref a) "reversed":=let ⟨o,ho,hc,_⟩:=x;⟨o,ho,hc⟩
theorem d49 (hl:s.heap.IsTuple l items)(hfit:(items.size:Int)<2^63)
  (h:Q (.ref s.heap.objs.size) {s with heap:=s.heap.push {cls:= .type "reversed",data:= .fields #[.ref l,rawInt<|(items.size:Int)-1]},toks:=s.toks+1+1}) :
  wpAny (model prog w) A (call (.type "reversed") [.ref l]) Q E s:=
 callType_new cG0 ac (PySem.F.typeCall_reversed_1 _) (PySem.F.newCall_reversed_1 _) (λobj=>PySem.F.args_object_init_2 obj _) PySem.F.entry_reversed_new (dL6 l items hfit) ⟨hl,⟨_,cZ _ rfl,rfl⟩,h⟩
theorem bA3 {i:Int}(hit:vJ s.heap it l i)(h:Q (.ref it) s):wpAny (model prog w) A (pyIter<|.ref it) Q E s:=by
 refine wpAny_pyIter_slot hit.typeIs aH0 (lK aH0 hit.typeIs bA2 ?_<|b52 _)
 show wpAny _ _ (ret<|.ref it) _ _ s
 exact aN ⟨_,rfl,"reversed",_,hit.typeIs,nN.lookup,h⟩
theorem d50 {x:Value}{Q:Option Value->Shared->Prop}(hit:vJ s.heap it l (i:Int))(hl:s.heap.IsTuple l items)(hx:items[i]? =some x)(hfit:(i:Int)<2^63)
  (hQ: ∀h' tk,vJ h' it l ((i:Int)-1)->SameBut it s.heap h'->Q (some x) {s with heap:=h',toks:=tk}):wpAny (model prog w) A (pyNext<|.ref it) Q E s:=by
 obtain⟨o,ho,hc,hd⟩:=id hit;have hlt:i<items.size:=(Array.getElem?_eq_some_iff.mp hx).1;have hi:seqIndex? (i:Int) items.size=some i:=by
  unfold seqIndex?;simp
  lia
 have tl:s.TypeIs (.ref l) "tuple":=hl.typeIs;unfold pyNext;refine a9 (a22 (qG (name:=Str.ofString "__next__") hit.typeIs nN
  (lK nN hit.typeIs aA2 ?_<|a76 _)))
 unfold Builtin.«reversed.__next__»;refine a9 (kR (a:=(Value.ref it,[])) rfl ?_);try right
 refine a9 (iM ho hd (x:= .ref l) rfl ?_)
 refine a9 (iM ho hd (x:=rawInt (i:Int)) rfl ?_)
 show wpAny _ _ (if(i:Int)<0 then _ else _) _ _ s
 rw[a6 ad]
 try right
 refine a9 (wpAny_specialOf tl PySem.F.slot_tuple_getitem.lookup ?_)
 try right
 rw[a6 ae]
 refine a9 (wpAny_mkInt ?_)
 have ht:IsTup s.heap l items:=hl;refine a9 (a22<|PyProof.Rows.getItem_tuple (s:={s with toks:=s.toks+1}) ht ad hfit hi hx ?_)
 try right
 refine a9 (iM ho hd (x:=rawInt (i:Int)) rfl ?_)
 show wpAny _ _ (setField (.ref it) 1 (rawInt<|(i:Int)-1) >>= _) _ _ _
 refine a9 (uU ho hd ae ?_)
 refine aN ⟨x,rfl,aN<|hQ _ _ ?_<|uJ ..⟩
 exact⟨_,qI _ ho<|aK5<|qU hd _,(Obj.cls_mapFields ..).trans hc,by
  rw[qU hd];simp⟩
theorem dL7 {it l:Addr}{Q:Option Value->Shared->Prop}(hh:A.handled=none)(hit:vJ s.heap it l (-1))
  (hQ: ∀h',ExtBut it s.heap h'->Q none {s with heap:=h'}):wpAny (model prog w) A (pyNext<|.ref it) Q E s:=by
 obtain⟨o,ho,hc,hd⟩:=id hit;unfold pyNext;refine a9 (a22 (qG (name:=Str.ofString "__next__") hit.typeIs nN
  (lK nN hit.typeIs aA2 ?_<|a76 _)))
 unfold Builtin.«reversed.__next__»;refine a9 (kR (a:=(Value.ref it,[])) rfl ?_);try right
 refine a9 (iM ho hd (x:= .ref l) rfl ?_)
 refine a9 (iM ho hd (x:=rawInt (-1)) rfl ?_)
 show wpAny _ _ (if(-1:Int)<0 then _ else _) _ _ s
 rw[a7 ac]
 refine a9 (wpAny_rule ?_)
 refine a9 ?_
 show wpAny _ _ (setField (.ref it) 1 (rawInt<|-1) >>= λ_=>setField (.ref it) 0 .none) _ _ s
 refine a9 (uU ho hd ae ?_)
 refine uU (qI _ ho<|aK5<|qU hd _) (qU hd _) ae ?_
 first
 | show wpAny _ _ (newExc (.type "StopIteration") [] >>= _) _ _ _
 | (refine a9 ?_;show wpAny _ _ (newExc (.type "StopIteration") [] >>= _) _ _ _)
 refine a9 ?_
 simp only[newExc,newTuple];refine a9 (kJ ?_<|by size_fits)
 refine a9 (m:=firstArgMember _ _) (kR (a:=Value.none) (by first|rfl| (simp only[firstArgMember];rfl)) ?_)
 refine kJ ?_ (by size_fits)
 simp only[raiseNew];refine a9 (wpAny_handled ?_)
 first|rw[show A.in1.handled=none from hh]|rw[hh]
 refine a9 (aN<|wpAny_throw ?_)
 refine a9 (wpAny_isInstance (T:="StopIteration") (b:=true) ⟨_,cZ _ rfl,rfl⟩ isSubtype_stop ?_)
 refine aN (hQ _ ?_)
 exact((((uJ ..).trans<|uJ ..).extBut.push _).push _)
end
noncomputable def Itv (K:PySem.W.Frag)(l:Addr)(n:Nat):It where
 go:=λi H=>i<n/\ ∃xs,SqT K H l xs/\xs.length=n
 yld:=λi H v H'=>H'=H/\ ∀xs,SqT K H l xs->xs[n-1-i]? =some v
 stop:=λi H=>i=n
theorem d51 (n:Nat)(hz:n<=sizeLine):cD3 P w K tg (Itv K l n) [it] it (λi h=>vJ h it l ((n:Int)-1-(i:Int))) where
 mem:=ae
 obj:=λi h st b hb=>by
  have e:b=it:=by exists hb
  subst e;obtain⟨o,ho,_,hd⟩:=st;exact⟨o,ho,λv z=>by rw[hd]at z;cases z⟩
 keep:=λi h h' st k=>st.at λo e=>k it ae _ e
 item:=by
  intro X hP hw hK hc i pins s σ H E I hf st hg;subst hP hw hK;obtain⟨f0,f1,f2,f3,f4,f5⟩:=hf it ae
  obtain⟨hi,xs,hq,hl⟩:=hg;obtain⟨its,r,p,_⟩:=I.tuple hq;have hlen:=r.length;have hx:xs[n-1-i]? =some (xs[n-1-i]'ad):=aM ad
  obtain⟨u1,hu1,ru1⟩:=r.get hx;have e1:(n:Int)-1-(i:Int)=((n-1-i:Nat):Int):=ad
  have st':=st;rw[e1]at st';have big:(sizeLine:Int)<2^63:=ac
  refine d50 (items:=its.toArray) (x:=u1) st' p (by exists hu1) ad λh' tk hr m=> ?_
  have I1:Inv X pins σ H {s with heap:=h',toks:=tk}:=I.turned (λb o hb e=>m.extBut _ _ (by exists hb) e) f0 f1 f3 f4 f5
  have e2:((n-1-i:Nat):Int)-1=(n:Int)-1-((i+1:Nat):Int):=ad
  rw[e2]at hr;obtain⟨o,ho,hoc,hod⟩:=id hr;exact⟨_,rfl,c29 (s:={s with heap:=h',toks:=tk}) (n:="reversed") ho hoc hod ac ⟨xs[n-1-i]'ad,H,I1,ru1,⟨rfl,λys hy=>by rw[I.tuple_inj hy hq];exact hx⟩,hr,λb hb=>(hf b hb).1⟩⟩
 done:=by
  intro X hP hw hK hc i pins s σ H E I hf st hg;subst hP hw hK;obtain⟨f0,f1,f2,f3,f4,f5⟩:=hf it ae
  have hg':i=n:=hg;have st':=st;rw[hg',show(n:Int)-1-(n:Int)= -1 by lia]at st'
  exact dL7 (I.ok.hd hc) st' λh' eb=>⟨rfl,I.turned (t':=s.toks) (λb o hb e=>eb b o hb e) f0 f1 f3 f4 f5⟩
 self:=λ_ _ _ _ _ st h=>bA3 st h
section
variable {X:Cx}{tg:Expr}
def iRevT (K:PySem.W.Frag)(ta:TA):TI:=λσ H R=>ta σ H λvs H1=> ∃l xs,vs=[.ref l]/\SqT K H1 l xs/\R (Itv K l xs.length) H1
theorem dL8 {a:Expr}{ta:TA}(hg:Gl X "reversed")(hm:X.mg "reversed"=none)(ha:PA X [a] ta)(hs:↥(starEach [a] X.env=[(false,eval a X.env)])) :
  PI X tg (.Call (.Name "reversed" p) [a] [] pos) (iRevT X.K ta):=by
 intro pins s σ H R I h;refine Call_ (xS I hg hm PyProof.Rows.boot_reversed<|lD (thn (ha pos pins s σ H _ I h) λus s1 ⟨vs,H1,I1,r1,q1⟩=> ?_) hs rfl)
 obtain⟨l,xs,e,q1,q⟩:=q1;subst e;obtain⟨u,rfl,r⟩:=vals1 r1;cases r;obtain⟨its,rv,p1,hz⟩:=I1.tuple q1;have hl:=rv.length;have big:(sizeLine:Int)<2^63:=ac
 refine d49 p1 (by rw[b9];lia) ?_
 have hi:vJ (s1.heap.push {cls:= .type "reversed",data:= .fields #[.ref l,rawInt<|(its.toArray.size:Int)-1]}) s1.heap.objs.size l ((xs.length:Int)-1-((0:Nat):Int)):=⟨_,cZ _ rfl,rfl,by
  rw[b9,hl];simp⟩
 refine bA3 (s:={s1 with heap:=s1.heap.push {cls:= .type "reversed",data:= .fields #[.ref l,rawInt<|(its.toArray.size:Int)-1]},toks:=s1.toks+1+1}) hi ?_
 refine⟨_,[s1.heap.objs.size],_,_,H1,rfl,I1.kept (t':=s1.toks+1+1) λb o e=>bC _ e,d51 xs.length hz,hi,λb hb=> ?_,q⟩
 have e:b=s1.heap.objs.size:=by exists hb
 subst e;exact I1.fpOk (aD _) (I1.hok.fresh<|aD _)
end
end L2
namespace M
section
variable {X:Cx}{A:AS}{H:Hp}{K:PySem.W.Frag}{pos:Pos}{a:Expr}
theorem cU1 {l1:Addr}{vs:List V}{l:List D}(c1:SqA K A H true l1 vs)(r1:cD K A H l vs):cF0 K A H (Itv K l1 vs.length) l.length (λi=>l.getD (l.length-1-i) .non):=by
 have k1:=r1.length;refine⟨λA' H' i P hi=>⟨aa,vs,c1.sqv P,rfl⟩,λA' H' i x H'' P hA hi y=> ?_,λA' H' P=>k1⟩
 obtain⟨x1,e1,q1⟩:=r1.at (i:=l.length-1-i) aa
 obtain⟨e,ha⟩:=y;subst e;have ea:=ha vs (c1.sqv P);rw[<-k1,e1]at ea;cases ea;exact⟨.refl _,q1.mono P⟩
def cM8 (ta:UA):UI:=λρ Q=>ta ρ λds ρ1=>match ds with
 | [.tup l]=>Q l.length (λi=>l.getD (l.length-1-i) .non) ρ1
 | _=>False
theorem cM9 {ta:UA}(hg:Gl X "reversed")(hm:X.mg "reversed"=none)(ha:PUA X [a] ta)(hs:↥(starEach [a] X.env=[(false,eval a X.env)])) :
  PUI X tg (.Call (.Name "reversed" p) [a] [] pos) (cM8 ta):=
 b93 (dL8 hg hm ha hs) λσ H R ⟨C,ρ,Q0,I,h,k⟩=>⟨C,ρ,_,I,h,λds ρ1 vs H1 q f s r=>by
  split at q
  .rename_i l
   obtain⟨v,vr,rfl,rv,rr⟩:=r.uncons;have:=rr.unnil;subst this;simp only[Rep]at rv;obtain⟨a1,us,rfl,c1,s1⟩:=rv;have c2:SqA _ _ _ true a1 us:=c1;exact⟨a1,us,rfl,c2.sqv .self,k _ _ ρ1 _ H1 q f s<|cU1 c2 s1⟩
  .exact q.elim⟩
def cN0 (d e:D)(Q:B->Prop):Prop:=match d,e with
 | .tup l,.int k=>(l≠[]/\ -(2^63)<=k/\k<2^63/\l.length*k.toNat<=sizeLine)/\Q (.pu<|.tup (replicate k.toNat l).flatten)
 | _,_=>False
theorem dL9:OpU X (binaryOp .Mult) cN0:=by
 intro A H d e v w Q0 Q hA r1 r2 g k;unfold cN0 at g;split at g
 .rename_i l kk
  have:=bQ r2;subst this;simp only[Rep]at r1;obtain⟨a,vs,rfl,c1,rs1⟩:=r1;obtain⟨⟨h0,h1,h2,h3⟩,g⟩:=g;refine⟨_,dL5,a,kk,vs,rfl,rfl,c1.imp d7 id,λz=>h0 ?_,h1,h2,by rw[<-rs1.length];exact h3,λz=> ?_,λz p n=>k _ _ _ g (gF n _) (kF hA n<|rs1.rep _)⟩
  .have:=rs1.length;rw[z]at this;exact uG.mp this
  .subst z;refine k _ _ H g (.refl _) ?_;show Rep X.K A H (.tup _) (.ref a);simp only[Rep];exact⟨a,vs,rfl,c1,by exists rs1⟩
 .exact g.elim
end
section
variable {X:Cx}
theorem bA4 {K:PySem.W.Frag}{A:AS}{H:Hp}: ∀r:List Int,cD K A H (r.map D.int) (r.map V.int)
 | []=> .nil
 | a::r=> .cons (by simp only[Rep]) (bA4 r)
theorem dM0 {r:List Int}(hg:Gl X x)(hm:X.mg x=some (.ref a))(hk:KT X.K a (r.map V.int))(hd:⇑((x==("__debug__":Str))=false)):PU X (.Name x p) (uC<|.tup<|r.map .int):=
 bU9 (cL6 (v:= .ref a) hg hm rfl hd) λA H=>by
  simp only[Rep];exact⟨a,r.map V.int,rfl,.inr hk,bA4 r⟩
theorem kt_of {its:Array Value}{sl:Array (Option Value)}{vs:List V}(hl:K.lookup a=some ⟨.type "tuple",od,.seq its n,sl⟩)(hz:its.size<=sizeLine)(hv:Vals vs its.toList):KT K a vs:=
 ⟨_,its,n,hl,rfl,rfl,hz,hv⟩
end
end M
end
section
namespace L2
section
variable {X:Cx}
theorem cG1 (hc:X.calm=true):pE X (.builtin "any") (λxs H Q=> ∃(p:Addr) (bs:List Bool),xs=[.ref p]/\SqL X.K H p (bs.map V.bl)/\Q (.bl<|bs.any id) H):=by
 intro pins s σ H xs us Q I r h;obtain⟨p,bs,rfl,hq,q⟩:=h;obtain⟨u,rfl,rx⟩:=vals1 r;cases rx;obtain⟨its,rv,pl,hz⟩:=I.list hq;have ba:=cM6 rv;refine call_any_walk (a11 pl.isList ?_);have hne:p≠s.heap.objs.size:=by
  obtain⟨o,n,e,_⟩:=pl;exact bJ (aW e)
 refine⟨s.heap.objs.size,_,_,_,_,_,λi=>(bs[i]?).getD false,rfl,Walks.list (A:=X.A.in1) (I.ok.hd hc) s.heap.objs.size p (λz=>hne z) its.toArray,⟨⟨_,cZ _ rfl,rfl,rfl⟩,pl.isList.push _⟩,?_,λh' tk hk=> ?_⟩
 .intro i v s' Q' E' hP hQ;obtain⟨b,hb,rfl⟩:=ba.get i v (by exists hP)
  refine lH ?_
  dsimp only at hQ;rw[hb]at hQ;exact hQ
 .have e:=LSm.range_any bs;have hl:=ba.length;have e2:its.toArray.size=bs.length:=by rw[b9,hl]
  rw[e2,e];exact⟨.bl<|bs.any id,H,I.kept λb o e=>hk b o (by simpa using bJ (aW e)) (bC _ e),rfl,q⟩
end
end L2
namespace M
section
variable {X:Cx}
noncomputable def d52:List D->(B->Prop)->Prop:=g1 λd Q=>match d with
 | .lst l=>(match xV l with
  | some bs=>Q (.pu<|.bl<|bs.any id)
  | none=>False)
 | _=>False
theorem cG2 (hc:X.calm=true):vD X (.builtin "any") d52:=by
 intro A H ds vs Q0 Q hA r g k;obtain⟨d,v,rfl,rfl,rv,g⟩:=a39 g r;cases d with
 | lst l=>
  dsimp only at g;cases e:xV l with
  | none=>rw[e]at g;exact g.elim
  | some bs=>
   rw[e]at g;simp only[Rep]at rv;obtain⟨a,vs,rfl,n,c,rs⟩:=rv;rw[aN0 e rs]at c;exact⟨_,cG1 hc,a,bs,rfl,SqL.of c,k _ _ H g (.refl _) lX⟩
 | _=>exact(show False from g).elim
theorem cG3:bootBuiltins "any"=some (.builtin "any"):=af
end
end M
end
section
namespace L2
section
variable {X:Cx}
theorem cG4 (hc:X.calm=true):pE X (.builtin "max") (λxs H Q=> ∃(p:Addr) (ns:List Int),xs=[.ref p]/\SqL X.K H p (ns.map V.int)/\0<ns.length/\ ∀m:Int,m∈ns->(∀a∈ns,a<=m)->Q (.int m) H):=by
 intro pins s σ H xs us Q I r h;obtain⟨p,ns,rfl,hq,hne,q⟩:=h;obtain⟨u,rfl,rx⟩:=vals1 r;cases rx;obtain⟨its,rv,pl,hz⟩:=I.list hq;have hi:IntsAre its ns:=by simpa using intsAre_of rv
 obtain⟨xs,hx⟩:=hi.allInts.items;have hl':s.heap.IsList p (intItems xs):=hx▸pl.isList;have hns:ns=xs.toList.map (·.1):=by
  rw[<-nums_intItems,<-hx];exact(show numsOf its.toArray.toList=ns from hi.numsOf).symm
 have hsz:0<xs.size:=by
  have h3:=hne;rw[hns,aF,qQ]at h3;exact h3
 refine max_intList (I.ok.hd hc) hl' hsz λv h' tk hv hk=> ?_
 obtain⟨t,rfl⟩:=intItems_at hv;obtain⟨h1,h2⟩:=argBest_gt (numAt xs) (xs.size-1);refine⟨.int _,H,I.kept hk,⟨t,rfl⟩,q _ ?_ λa ha=> ?_⟩
 .rw[hns,numAt_eq];exact getD_mem (by rw[aF,qQ];omega)
 .rw[hns]at ha;obtain⟨j,hj,rfl⟩:=mem_getD ha;rw[aF,qQ]at hj;rw[<-numAt_eq];exact h2 j aa
end
end L2
namespace M
section
variable {X:Cx}{a:Expr}{pos:Pos}{ta:UE}
noncomputable def bP9:List D->(B->Prop)->Prop:=g1 λd Q=>match d with
 | .lst l=>(match aG9 l with
  | some ns=>0<ns.length/\ ∀m:Int,m∈ns->(∀a∈ns,a<=m)->Q (.pu<|.int m)
  | none=>False)
 | _=>False
theorem dM1 (hc:X.calm=true):vD X (.builtin "max") bP9:=by
 intro A H ds vs Q0 Q hA r g k;obtain⟨d,v,rfl,rfl,rv,g⟩:=a39 g r;cases d with
 | lst l=>
  dsimp only at g;cases e:aG9 l with
  | none=>rw[e]at g;exact g.elim
  | some ns=>
   rw[e]at g;simp only[Rep]at rv;obtain⟨a,vs,rfl,n,c,rs⟩:=rv;rw[aY8 e rs]at c;exact⟨_,cG4 hc,a,ns,rfl,SqL.of c,g.1,λm h1 h2=>k _ _ H (g.2 m h1 h2) (.refl _) a97⟩
 | _=>exact(show False from g).elim
noncomputable def D.isN:D->Bool
 | .non=>true
 | _=>false
theorem cN1 {K:PySem.W.Frag}{A:AS}{H:Hp}: ∀{d:D} {v:V},Rep K A H d v->decide (v= .non)=d.isN
 | .non,v,h=>by simp only[Rep]at h;subst h;rfl
 | .bl _,v,h=>by simp only[Rep]at h;subst h;rfl
 | .int _,v,h=>by simp only[Rep]at h;subst h;rfl
 | .str _,v,h=>by simp only[Rep]at h;subst h;rfl
 | .ty _,v,h=>by simp only[Rep]at h;subst h;rfl
 | .tup _,v,h=>by simp only[Rep]at h;obtain⟨a,vs,rfl,_⟩:=h;rfl
 | .lst _,v,h=>by simp only[Rep]at h;obtain⟨a,vs,rfl,_⟩:=h;rfl
 | .rol _,v,h=>by simp only[Rep]at h;obtain⟨a,vs,rfl,_⟩:=h;rfl
 | .obj _ _ _,v,h=>by simp only[Rep]at h;obtain⟨a,dx,vs,rfl,_⟩:=h;rfl
 | .adr _,v,h=>by simp only[Rep]at h;subst h;rfl
 | .xob _ _ _ _,v,h=>by simp only[Rep]at h;obtain⟨vs,rfl,_⟩:=h;rfl
def c51 (neg:Bool)(t:UE):UE:=λρ Q=>t ρ λb ρ1=>Q (.pu<|.bl<|neg ^^ b.d.isN) ρ1
theorem lIsN (σ:L2.St)(H:Hp)(Q:VK)(h:lE X.K (c51 false ta) σ H Q):tIsN (lE X.K ta) σ H Q:=by
 obtain⟨C,ρ,Q0,I,h,k⟩:=h;refine⟨C,ρ,_,I,h,λb ρ' v H' q f s r=> ?_⟩
 have e:=cN1 (r.rep λa z=>I.avF f z)
 refine k _ ρ' _ H' q f s ?_
 show Rep _ _ _ _ _
 simp only[Rep,lL];rw[e]
theorem lNotN (σ:L2.St)(H:Hp)(Q:VK)(h:lE X.K (c51 true ta) σ H Q):dS7 (lE X.K ta) σ H Q:=by
 obtain⟨C,ρ,Q0,I,h,k⟩:=h;refine⟨C,ρ,_,I,h,λb ρ' v H' q f s r=> ?_⟩
 have e:=cN1 (r.rep λa z=>I.avF f z)
 refine k _ ρ' _ H' q f s ?_
 show Rep _ _ _ _ _
 simp only[Rep,lM];rw[e]
theorem dM2 {j pos'}(ha:PU X a ta):PUT X (.Compare a [.Is] [.Constant .none j pos'] pos) (cO<|c51 false ta):=c37 (cZ2<|pc_isN ha) λσ H Q h=>lIsN σ H _ (dJ3 σ H Q h)
theorem c52 {j pos'}(ha:PU X a ta):PUT X (.Compare a [.IsNot] [.Constant .none j pos'] pos) (cO<|c51 true ta):=c37 (cZ2<|dH5 ha) λσ H Q h=>lNotN σ H _ (dJ3 σ H Q h)
end
noncomputable def ltL:List Int->List Int->Bool
 | [],[]=>false
 | [],_::_=>true
 | _::_,[]=>false
 | a::x,b::y=>if a=b then ltL x y else decide (a<b)
section
variable {prog:Program}{w:World}{A:Around}{E:Value->Shared->Prop}{s:Shared}
theorem d53 {lt:Bool}{P:PySem.Fin->Shared->Prop}(ho:s.heap.get? a=some (seqObj "list" [u,v].toArray n))
  (hy: ∀h':Heap,(∀b o,b≠a->s.heap.get? b=some o->h'.get? b=some o)-> ∃κ:SortKind,
   (∀Q:SortKind->Shared->Prop,Q κ {s with heap:=h'}->wpAny (model prog w) A (keyKind' [u,v].toArray) Q (λ_ _=>False) {s with heap:=h'})/\
   (∀Q:Bool->Shared->Prop,Q lt {s with heap:=h'}->wpAny (model prog w) A (keyLt' κ v u) Q (λ_ _=>False) {s with heap:=h'}))
  (fi:P (.done<|.ret .none) {s with heap:=sortedHeap s.heap a [u,v] (if lt=true then [v,u].toArray else [u,v].toArray)}) :
  wpAny (model prog w) A (Builtin.«list.sort» ⟨[.ref a],[]⟩) P E s:=by
 rw[list_sort_plain];have la:a<s.heap.objs.size:=aW ho;refine a9 (listItems_at ho rfl ?_);refine a9 (listUpdate_at ho rfl ?_ (show 2<=sizeLine by decide) (gA _))
 obtain⟨c1,h1⟩: ∃c1,(s.heap.update a<|Obj.mapSeq λ_=> #[]).get? a=some (seqObj "list" #[] c1):=⟨_,get?_update_seq ho λ_=> #[]⟩
 refine a9 (seqEpoch_at h1 rfl ?_)
 refine a9 (wpAny_newTuple ?_<|show 2<=sizeLine by decide)
 refine a9 (wpAny_newList ?_<|gA _)
 refine iJ ?_
 have h6:(((s.heap.update a<|Obj.mapSeq λ_=> #[]).push<|seqObj "tuple" [u,v].toArray 0).push<|seqObj "list" #[] 0).get? a=some (seqObj "list" #[] c1):=by
  rw[qW _ _ _ (by rw[size_push',uS];exact bJ (lJ la))]
  rw[qW _ _ _ (by rw[uS];exact bJ la)]
  exact h1
 have kp: ∀b o,b≠a->s.heap.get? b=some o->(((s.heap.update a<|Obj.mapSeq λ_=> #[]).push<|seqObj "tuple" [u,v].toArray 0).push<|seqObj "list" #[] 0).get? b=some o:=λb o ne q=>by
  have lb:b<s.heap.objs.size:=aW q;rw[qW _ _ _ (by rw[size_push',uS];exact bJ (lJ lb))]
  rw[qW _ _ _ (by rw[uS];exact bJ lb),a08 _ _ _ _ ne]
  exact q
 obtain⟨κ,y1,y2⟩:=hy _ kp;show wpAny (model prog w) A _ P E {s with heap:=((s.heap.update a<|Obj.mapSeq λ_=> #[]).push<|seqObj "tuple" [u,v].toArray 0).push (seqObj "list" #[] 0)}
 right;have n2: ¬[u,v].toArray.size<2:=show ¬2<2 by decide
 rw[a6 n2,a6 n2];refine a9 (bK (y1 (λk s'=>k=κ/\s'={s with heap:=((s.heap.update a<|Obj.mapSeq λ_=> #[]).push<|seqObj "tuple" [u,v].toArray 0).push (seqObj "list" #[] 0)}) ⟨rfl,rfl⟩) ?_ λ_ _ z=>z.elim)
 rintro k s' ⟨rfl,rfl⟩;refine a9 (bK (PySem.W.kat_run (ks:=[u,v]) (vs:=[u,v]) (Q:=λst' s'=>s'={s with heap:=((s.heap.update a<|Obj.mapSeq λ_=> #[]).push<|seqObj "tuple" [u,v].toArray 0).push (seqObj "list" #[] 0)}/\failedOf st'=none/\(arrOf st').map (·.2)=(if lt=true then [v,u].toArray else [u,v].toArray))
  (G:=λp s'=>s'={s with heap:=((s.heap.update a<|Obj.mapSeq λ_=> #[]).push<|seqObj "tuple" [u,v].toArray 0).push (seqObj "list" #[] 0)}/\p=(if lt=true then #[1,0]else #[0,1]))
  rfl (show 2<=2 by decide) (show 2<64 by decide) (λp st' s' _ e2 e3 ⟨e4,e5⟩=>⟨e4,e3,?_⟩) ?_) ?_ λ_ _ z=>z)
 .rw[PySem.W.kat_snds rfl e2,e5];cases lt<;>rfl
 .show wpAny (model prog w) A (keyLt' k v u) _ (λ_ _=>False) _
  refine y2 _ ?_
  cases lt
  .exact⟨rfl,rfl⟩
  .refine⟨rfl,?_⟩
   rw[a7 rfl];dsimp only[List.length_cons,List.length_nil]
   decide +kernel
 .rintro⟨⟨⟩,st'⟩ s' ⟨rfl,e3,e4⟩;right;rw[e4];refine a9 (seqEpoch_at h6 rfl ?_);refine a9 (listUpdate_at h6 rfl ?_ (gA _) (by cases lt<;>exact(show 2<=sizeLine+1 by decide)))
  rw[e3];simp only[bne_self_eq_false,uN,dL];exact aN fi
theorem cG5 {lt:Bool}(hl:s.heap.IsList l [u,v].toArray)
  (hy: ∀(h':Heap) (A:Around),(∀b o,s.heap.get? b=some o->h'.get? b=some o)-> ∃κ:SortKind,
   (∀Q:SortKind->Shared->Prop,Q κ {s with heap:=h'}->wpAny (model prog w) A (keyKind' [u,v].toArray) Q (λ_ _=>False) {s with heap:=h'})/\
   (∀Q:Bool->Shared->Prop,Q lt {s with heap:=h'}->wpAny (model prog w) A (keyLt' κ v u) Q (λ_ _=>False) {s with heap:=h'}))
  (fi:Q (.ref<|s.heap.objs.size+1) {s with heap:=sortedAll s.heap [u,v] (if lt=true then [v,u].toArray else [u,v].toArray)}) :
  wpAny (model prog w) A (call (.builtin "sorted") [.ref l]) Q E s:=by
 refine Calls.call_function_entry kind_sorted plain_sorted entry_sorted (args_sorted1 _) ?_
 unfold Builtin.«sorted»;refine a9 (m:=checkCount "sorted" 1 1 _) (aN ?_);refine a9 (collect_list hl ?_<|show 2<=sizeLine by decide)
 refine a9 (wpAny_newList ?_<|show 2<=sizeLine by decide)
 have hz:((s.heap.push<|seqObj "list" #[] 0).update s.heap.objs.size (Obj.mapSeq (· ++[u,v].toArray))).objs.size=s.heap.objs.size+1:=by rw[uS,size_push']
 have hL:(((s.heap.push<|seqObj "list" #[] 0).update s.heap.objs.size (Obj.mapSeq (· ++[u,v].toArray))).push<|seqObj "list" [u,v].toArray 0).get? (s.heap.objs.size+1)=some (seqObj "list" [u,v].toArray 0):=by
  rw[<-hz];exact cZ _ rfl
 have kp: ∀b o,s.heap.get? b=some o->(((s.heap.push<|seqObj "list" #[] 0).update s.heap.objs.size (Obj.mapSeq (· ++[u,v].toArray))).push<|seqObj "list" [u,v].toArray 0).get? b=some o:=λb o q=>by
  have lb:b<s.heap.objs.size:=aW q;rw[qW _ _ _ (by rw[hz];exact bJ (lJ lb))]
  rw[a08 _ _ _ _<|bJ lb,qW _ _ _<|bJ lb];exact q
 show wpAny _ _ _ _ _ {s with heap:=((s.heap.push<|seqObj "list" #[] 0).update s.heap.objs.size (Obj.mapSeq (· ++[u,v].toArray))).push (seqObj "list" [u,v].toArray 0)}
 rw[hz];refine a9 (iJ<|lK slot_list_sort ⟨_,hL,rfl⟩ entry_list_sort (d53 (lt:=lt) hL (λh' k=> ?_) ⟨_,rfl,?_⟩)<|args_list_sort _)
 .exact hy h' _ λb o q=>k b o (bJ<|lJ<|aW q) (kp b o q)
 .exact aN ⟨_,rfl,fi⟩
theorem c53 {Q:Bool->Shared->Prop}{fin:Bool}: ∀(us ws:List Int) (x y:List Value) (i:Nat),Vals (us.map V.int) x->Vals (ws.map V.int) y->fin=decide (us.length<ws.length)->Q (ltL us ws) s->PySem.W.KatLex prog w A true fin Q (x.zip y) i s
 | [],[],x,y,i,hx,hy,hf,q=>by
  cases hx;cases hy;rw[hf];exact q
 | [],b::ws,x,y,i,hx,hy,hf,q=>by
  cases hx;rw[hf];exact q
 | a::us,[],x,y,i,hx,hy,hf,q=>by
  cases hx;cases hy;rw[hf];exact q
 | a::us,b::ws,x,y,i,hx,hy,hf,q=>by
  rw[fM]at hx hy;cases hx with
  | cons r1 hx=>
   cases hy with
   | cons r2 hy=>
    obtain⟨t1,rfl⟩:=r1;obtain⟨t2,rfl⟩:=r2;rw[aL3];refine PySem.W.kat_cons (wpAny_eqBool_int ?_)
    by_cases c:a=b
    .subst c;rw[aM4];refine PySem.W.kat_yes (c53 us ws _ _ (i+1) hx hy (by rw[hf];simp) ?_)
     unfold ltL at q;rw[a7 rfl]at q;exact q
    .rw[show(a==b)=false by simpa using c]
     refine PySem.W.kat_no ?_
     unfold ltL at q;rw[a6 c]at q;cases e:(true&&i==0)
     .exact PySem.W.kat_one _ _ (lt_int q)
     .exact oneLt_int q
end
section
variable {X:Cx}
theorem cG6:pE X (.builtin "sorted") (λxs H Q=> ∃(p a1 a2:Addr) (i j:Int) (us ws:List Int),xs=[.ref p]/\SqL X.K H p [.ref a1,.ref a2]/\SqT X.K H a1 ((i::us).map V.int)/\SqT X.K H a2 ((j::ws).map V.int)/\
  ∀l,H l=none->Q (.ref l) (upd H l<|.lst<|if ltL (j::ws) (i::us)=true then [.ref a2,.ref a1]else [.ref a1,.ref a2])):=by
 intro pins s σ H xs us' Q I r h;obtain⟨p,a1,a2,i,j,us,ws,rfl,hq,t1,t2,q⟩:=h;obtain⟨u,rfl,rx⟩:=vals1 r;cases rx;obtain⟨its,rv,pl,hz⟩:=I.list hq;obtain⟨x1,r1,k1,z1⟩:=I.tuple t1;obtain⟨x2,r2,k2,z2⟩:=I.tuple t2;cases rv with
 | cons g1 rv=>
 cases rv with
 | cons g2 rv=>
 cases rv;cases g1;cases g2;refine cG5 (lt:=ltL (j::ws) (i::us)) pl.isList (λh' A kp=> ?_) ?_
 .obtain⟨o1,ho1,hc1,n1,hd1⟩:=k1;obtain⟨o2,ho2,hc2,n2,hd2⟩:=k2;rw[fM]at r1 r2;cases r1 with
  | cons f1 r1=>
  cases r2 with
  | cons f2 r2=>
  have v1:Vals ((i::us).map V.int) _:= .cons f1 r1;have v2:Vals ((j::ws).map V.int) _:= .cons f2 r2;obtain⟨t1,rfl⟩:=f1;obtain⟨t2,rfl⟩:=f2;refine⟨tuples'<|Value.type "int" != Value.type "tuple",λQ' q'=> ?_,λQ' q'=> ?_⟩
  .refine PySem.W.kat_kind (fs:=[.int i t1,.int j t2]) (T:= .type "int") (.cons (kp _ _ ho1) hc1 hd1 rfl (.cons (kp _ _ ho2) hc2 hd2 rfl .nil)) (cN _) (λv hv=> ?_) ac q'
   rcases bB.mp hv with rfl|hv
   .exact .now
   .rw[iH.mp hv];exact .now
  .have e:(Value.type "int" != Value.type "tuple")=true:=ac
   rw[e];refine PySem.W.kat_lt (kp _ _ ho2) hd2 (kp _ _ ho1) hd1 (c53 _ _ _ _ 0 (by exists v2) (by exists v1) ?_ q')
   have l1:=v1.length;have l2:=v2.length;simp only[aF]at l1 l2;simp only[b9];rw[<-l1,<-l2]
 .refine⟨.ref<|s.heap.objs.size+1,_,?_,rfl,q (s.heap.objs.size+1)<|I.hok.fresh<|a33 _⟩
  obtain⟨c,hc⟩:=sortedAll_at s.heap [Value.ref a1,Value.ref a2] (if ltL (j::ws) (i::us)=true then [Value.ref a2,Value.ref a1].toArray else [Value.ref a1,Value.ref a2].toArray);refine I.laid (t':=s.toks) (λb o e=>sortedAll_old e) (a33 _) ?_
  by_cases e:ltL (j::ws) (i::us)=true
  .rw[a7 e]at hc⊢;exact⟨show 2<=sizeLine by decide,[.ref a2,.ref a1],c,.cons rfl (.cons rfl .nil),by rw[a7 e];exact hc⟩
  .rw[a6 e]at hc⊢;exact⟨show 2<=sizeLine by decide,[.ref a1,.ref a2],c,.cons rfl (.cons rfl .nil),by rw[a6 e];exact hc⟩
noncomputable def cG7:List D->(B->Prop)->Prop:=g1 λd Q=> ∃(i j:Int) (us ws:List Int),d= .lst [.tup<|(i::us).map D.int,.tup<|(j::ws).map D.int]/\
 Q (.ow<|if ltL (j::ws) (i::us)=true then [.tup<|(j::ws).map D.int,.tup<|(i::us).map D.int]else [.tup<|(i::us).map D.int,.tup<|(j::ws).map D.int])
theorem d54:vD X (.builtin "sorted") cG7:=by
 intro A H ds vs Q0 Q hA r g k;obtain⟨d,v,rfl,rfl,rv,i,j,us,ws,rfl,g'⟩:=a39 g r;simp only[Rep]at rv;obtain⟨p,xs,rfl,np,hp,rl⟩:=rv;obtain⟨y1,yr,rfl,s1,rl⟩:=rl.uncons;obtain⟨y2,yr,rfl,s2,rl⟩:=rl.uncons;have:=rl.unnil;subst this;have s1':=s1;have s2':=s2;simp only[Rep]at s1 s2;obtain⟨a1,w1,rfl,c1,q1⟩:=s1;obtain⟨a2,w2,rfl,c2,q2⟩:=s2;have e1:=cD.unints q1;have e2:=cD.unints q2;subst e1 e2
 refine⟨_,cG6,p,a1,a2,i,j,us,ws,rfl,.inl<|.inl hp,c1.imp d7 id,c2.imp d7 id,λl hl=>k _ _ _ g' (gF hl _) ?_⟩
 cases ltL (j::ws) (i::us)
 .exact iT (.refl _) hl (.cons s1'<|.cons s2' .nil)
 .exact iT (.refl _) hl (.cons s2'<|.cons s1' .nil)
end
end M
end
section
namespace L2
end L2
namespace M
end M
end
section
namespace L2
end L2
namespace M
end M
end
section
namespace L2
end L2
namespace M
section
variable {X:Cx}{e:Expr}{es:List Expr}{pos:Pos}{te:UE}
theorem ilB (h:Nat.ble (i+1) X.N.length=true): ∀pins σ H s,Inv X pins σ H s->i<σ.length:=il rfl (Nat.le_of_ble_eq_true h)
theorem aK (i:Nat){pos:Pos}(h:PE X (.Name x pos) (aG0 i):=by exact pv _):PU X (.Name x pos) (aB i):=fT i h
theorem bX (i:Nat){pos:Pos}(h:PE X (.Name x pos) (aG0 i):=by exact pv _):PUV X (.Name x pos) (aS i):=nF i h
theorem a87 (i:Nat)(hN:X.N.Nodup)(he:PU X e te)(hi:↥(X.N[i]? =some x))(hx:Loc X.env.scope x:=by walk_at "z")(hs:↥(swapsWith e (some<|.Name x pos') pos.line X.env=pure false))(hf:X.fn x=true\/X.env.scope.names.lookup x=some .local:=by walk_at "z")
  (hl: ∀pins σ H s,Inv X pins σ H s->i<σ.length:=by exact ilB rfl):PUS X (.Assign [.Name x pos'] e pos) (bN i te):=xU i hN hi hx he hs hf hl
theorem us_g {op:Operator}{g:D->D->(B->Prop)->Prop}(i:Nat)(hN:X.N.Nodup)(he:PU X e te)(ho:IpU X op g)(hi:↥(X.N[i]? =some x))(hx:Loc X.env.scope x:=by walk_at "z")(hf:X.fn x=true\/X.env.scope.names.lookup x=some .local:=by walk_at "z")
  (hl: ∀pins σ H s,Inv X pins σ H s->i<σ.length:=by exact ilB rfl):PUS X (.AugAssign (.Name x pos') op e pos) (c41 i g te):=d22 i hN hi hx he ho hf hl
theorem eK {a b:Expr}{ti:UE}{t:UV}(ha:PUV X a t)(hb:PU X b ti)(hs:bU1 b:=by exact λ_ _=>rfl):PU X (.Subscript a b pos) (uIx t ti):=a96 ha hb hs
theorem gH {ps:List Str}{t:UA}(F:Fn X.prog X.w X.K X.mg X.base x ps k φ)(hr:jB k' X.A)(ha:PUA X (e::es) t)(hk:⇑(k<=k'))(hg:↥(Gl X x))(hdb:⇑((x==("__debug__":Str))=false))
  (he:↥(starEach (e::es) X.env=(false,eval e X.env)::starEach es X.env)) (hpl:↥((backTo pos<|starEach es X.env).any (·.1)=false)):PU X (.Call (.Name x p) (e::es) [] pos) (aV φ t):=aG7 F hr hk hg ha hdb he hpl
end
section
variable {X:Cx}{es:List Expr}{t:UA}
theorem cF {i:Int}{j}(h:PUA X es t):PUA X (.Constant (.int i) j p::es) (a8 (uC<|.int i) t):=aH aC h rfl
theorem tT {fs:List Expr}{j}{ta:UE}(a:PU X (.Tuple fs j p) ta)(h:PUA X es t):PUA X (.Tuple fs j p::es) (a8 ta t):=aH a h rfl
theorem aH1 {o:UnaryOp}{ta:UE}(a:PU X (.UnaryOp o e p) ta)(h:PUA X es t):PUA X (.UnaryOp o e p::es) (a8 ta t):=aH a h rfl
theorem aT (i:Nat)(h:PUA X es t)(a:PE X (.Name x p) (aG0 i):=by exact pv _):PUA X (.Name x p::es) (a8 (aB i) t):=aH (fT i a) h rfl
structure WA (X:Cx)(es:List Expr)(t:UA):Prop where
 out:PUA X es t
theorem aN1:WA X [] aP:=⟨aA⟩
theorem aR2 {i:Int}{j}(h:WA X es t):WA X (.Constant (.int i) j p::es) (a8 (uC<|.int i) t):=⟨cF h.out⟩
theorem bW0 {i:Int}{j}{q:Pos}(h:WA X es t):WA X (.UnaryOp .USub (.Constant (.int i) j p) q::es) (a8 (sJ<|uC<|.int i) t):=⟨aH1 (oH aC) h.out⟩
theorem cU2 {fs:List Expr}{j}{tf:UA}(a:WA X fs tf)(h:WA X es t):WA X (.Tuple fs j p::es) (a8 (jD tf) t):=⟨tT (eN a.out) h.out⟩
structure WS (X:Cx)(sts:List Stmt)(t:US):Prop where
 out:pG X sts t
theorem ws_of {sts:List Stmt}{u:US}(h:pG X sts u):WS X sts u:=⟨h⟩
theorem ws_lw {sts:List Stmt}{u:US}(h:WA X es t)(r:WS X sts u)(hN:X.N.Nodup)(hi:↥(X.N[i]? =some x))(hx:Loc X.env.scope x:=by walk_at "z")(hf:X.fn x=true\/X.env.scope.names.lookup x=some .local:=by walk_at "z")
  (hl: ∀pins σ H s,Inv X pins σ H s->i<σ.length:=by exact ilB rfl):WS X (.Assign [.Name x pos'] (.List es p) pos::sts) (aQ (bN i<|lY t) u):=⟨bD (xU i hN hi hx (gB h.out) rfl hf hl) r.out⟩
end
abbrev GL:=List (Addr×List Int)
end M
end
section
namespace L2
end L2
namespace M
end M
end
section
namespace L2
end L2
namespace M
section
variable {X:Cx}{e a b:Expr}{te ta tb:UE}{t u:US}{sts:List Stmt}{pos:Pos}
theorem fN {g:D->D->(B->Prop)->Prop}(ho:OpU X (compareOp op) g)(ha:PU X a ta)(hb:PU X b tb)(hm:behindInMarks op b=false:=by exact b88 _):PUT X (.Compare a [op] [b] pos) (cO<|uOp g ta tb):=aQ2 ho ha hb hm
theorem bW1 {g:D->D->(B->Prop)->Prop}(ho:OpU X (compareOp op) g)(ha:PU X a ta)(hb:PU X b tb)(hm:behindInMarks op b=false:=by exact b88 _):PU X (.Compare a [op] [b] pos) (uOp g ta tb):=pu_cmp ho ha hb hm
theorem bO (i:Nat)(hN:X.N.Nodup)(he:PU X e te)(r:pG X sts u)(hi:↥(X.N[i]? =some x))(hx:Loc X.env.scope x:=by walk_at "z")(hs:↥(swapsWith e (some<|.Name x pos') pos.line X.env=pure false))(hf:X.fn x=true\/X.env.scope.names.lookup x=some .local:=by walk_at "z")
  (hl: ∀pins σ H s,Inv X pins σ H s->i<σ.length:=by exact ilB rfl):pG X (.Assign [.Name x pos'] e pos::sts) (aQ (bN i te) u):=bD (a87 i hN he hi hx hs hf hl) r
theorem eW (h:PU X e te):pG X [.Return (some e) pos] (d6 te):=b4 (cE9 h)
theorem a42 {tc:UT}(hc:PUT X c tc)(ha:pG X sts t):PUS X (.If c sts [] pos) (fE tc t cX):=bO6 hc ha bV1
theorem iU {tc:UT}{r:List Stmt}(hc:PUT X c tc)(ha:pG X sts t)(hr:pG X r u):pG X (.If c sts [] pos::r) (aQ (fE tc t cX) u):=bD (a42 hc ha) hr
theorem pB {ui:UI}(i:Nat)(hN:X.N.Nodup)(hi:PUI X (.Name x p) iter ui)(hb:pG X sts t)(hp:PassesOwn (model X.prog X.w) X.A X.env X.xe:=by exact kP)(hc:↥(X.calm=true))(hx:↥(X.N[i]? =some x))(hl:Loc X.env.scope x:=by walk_at "z")
  (hs: ∀x,foldedSetIterable iter X.env x=pure x:=by intro _;rfl) (hf:X.fn x=true\/X.env.scope.names.lookup x=some .local:=by walk_at "z"):PUS X (.For (.Name x p) iter sts [] pos) (jI ui (cE i) t):=aY4 hp hc hi (a38 i<|cU hN hx hl hf) hb hs
theorem nB (N:List Str)(esc:List (Str×NameKind))(XN:List Str){ui:UI}{tt:UT}(hi:PUI X (.Name x p) iter ui)(ht: ∀cl C s H fp pins,PTs (cS X N scope cl C s H fp pins) ifs<|lT X.K tt)(he: ∀cl C s H fp pins,PU (cS X N scope cl C s H fp pins) elt te)
  (he0:↥(X.env.scope.names=esc)) (hx0:↥(X.N=XN)) (lk:yZ esc XN N cap scope last=true:=by decide +kernel) (hl:⇑(last<cap.length)) (hT:⇑(last ∉ [i])) (hc:↥(X.calm=true)) (hN:N.Nodup:=by decide +kernel) (hx:↥(N[i]? =some x)) (hy: ∀cl C s H fp pins,Loc (cS X N scope cl C s H fp pins).env.scope x:=by intro _ _ _ _ _ _;first|exact Or.inl rfl|exact Or.inr rfl)
  (hs: ∀x,foldedSetIterable iter X.env x=pure x:=by intro _;rfl) (hf: ∀cl C s H fp pins,(cS X N scope cl C s H fp pins).fn x=true\/(cS X N scope cl C s H fp pins).env.scope.names.lookup x=some .local:=by intro _ _ _ _ _ _;first|exact .inl rfl|exact .inr rfl|assumption):PU X (.ListComp elt [⟨.Name x p,iter,ifs,0⟩] scope pos) (fJ js cap last ui (cE i) tt te):=
 b99 he0 hx0 lk hl hT hc hi (λ_ _ _ _ _ _=>a38 i (cU hN hx (hy ..)<|hf ..)) ht he hs
end
section
variable {X:Cx}{K:PySem.W.Frag}{ρ ρ':Ev}{σ σ':L2.St}{H H':Hp}
variable {o e e2:Expr}{te te2:UE}{x y:Str}{px py py2 apos cpos bpos fpos apos2 cpos2 epos:Pos}
end
end M
end
section
namespace L2
end L2
namespace M
section
variable {X:Cx}{K:PySem.W.Frag}{last:Nat}{ui ui2:UI}{g g2:UG}{T T2:List Nat}{tt tt2:UT}{te:UE}
variable {elt iter tg iter2 tg2:Expr}{ifs ifs2:List Expr}{scope:Scope}{pos spos py:Pos}{y:Str}{esc:List (Str×NameKind)}{N XN:List Str}{js:List Nat}{cap:List (Option Nat)}
end
abbrev GP:=List (Addr×List V)
end M
end
section
namespace L2
end L2
namespace M
end M
namespace L2
end L2
namespace M
end M
end
namespace L2
def Calm (f:Obj->Obj):Prop:= ∀o,(f o).dict=o.dict/\(o.isFreed=false->(f o).isFreed=false)
def pZ {α:Type}:Sem α->Prop
 | .pure _=>True
 | .raise _=>True
 | .unsupported _=>True
 | .finish _=>True
 | .rule _ k=>pZ (k ())
 | .at _ k=>pZ (k ())
 | .load _ _ k=> ∀o,pZ (k o)
 | .update _ _ f k=>Calm f/\pZ (k ())
 | .alloc _ k=> ∀a,pZ (k a)
 | .loadIfAlive _ k=> ∀o,pZ (k o)
 | .point _ k=>pZ (k ())
 | .register _ _=>True
 | .stack k=> ∀l,pZ (k l)
 | _=>False
def DK (h h':Heap):Prop:= ∀b o,h.get? b=some o-> ∃o',h'.get? b=some o'/\o'.dict=o.dict
theorem DK.refl (h:Heap):DK h h:=λb o q=>⟨o,q,rfl⟩
theorem DK.trans {h'':Heap}(a:DK h h')(b:DK h' h''):DK h h'':=λc o q=>by
 obtain⟨o',q',e⟩:=a c o q;obtain⟨o'',q'',e'⟩:=b c o' q';exact⟨o'',q'',e'.trans e⟩
theorem DK.update {f:Obj->Obj}(c:Calm f):DK h (h.update a f):=λb o q=>by
 by_cases e:a=b
 .subst e;exact⟨f o,qI f q<|(c o).2 (Heap.get?_some_iff.mp q).2,(c o).1⟩
 .exact⟨o,(aK1 _ _ e).trans q,rfl⟩
theorem dM3 {M:Model}{Γ:PySem.Ctx}: ∀{t:Sem α} {Q:α->Pos->Shared->Prop} {E:Value->Pos->Shared->Prop} {p:Pos} {s:Shared},pZ t->Sem.wp M Γ t Q E p s->Sem.wp M Γ t (λa p' s'=>Q a p' s'/\DK s.heap s'.heap) (λe p' s'=>E e p' s'/\DK s.heap s'.heap) p s:=by
 intro t
 induction t with
 | pure a=>intro Q E p s _ h;exact⟨h,.refl _⟩
 | raise e=>intro Q E p s _ h;exact⟨h,.refl _⟩
 | rule _ k ih=>intro Q E p s t h;exact ih () t h
 | «at» _ k ih=>intro Q E p s t h;exact ih () t h
 | load a _ k ih=>intro Q E p s t ⟨o,q,h⟩;exact⟨o,q,ih o (t o) h⟩
 | update a _ f k ih=>
  intro Q E p s t ⟨q,h⟩;refine⟨q,?_⟩;have:=ih () t.2 h;exact Sem.wp_mono _ _ _ (λa p' s' z=>⟨z.1,(DK.update t.1).trans z.2⟩) (λa p' s' z=>⟨z.1,(DK.update t.1).trans z.2⟩) _ _ this
 | alloc o k ih=>
  intro Q E p s t h;have:=ih _ (t _) h;have pu:DK s.heap (s.heap.push o):=λb o' q=>⟨o',bC _ q,rfl⟩
  exact Sem.wp_mono _ _ _ (λa p' s' z=>⟨z.1,pu.trans z.2⟩) (λa p' s' z=>⟨z.1,pu.trans z.2⟩) _ _ this
 | loadIfAlive a k ih=>intro Q E p s t h;exact ih _ (t _) h
 | point _ k ih=>intro Q E p s t h;exact ih () t h
 | stack k ih=>intro Q E p s t h;exact ih _ (t _) h
 | unsupported _=>intro Q E p s _ h;exact h.elim
 | finish _=>intro Q E p s _ h;exact h.elim
 | register _ _=>intro Q E p s _ h;exact h.elim
 | _=>intro Q E p s t h;exact False.elim t
theorem cV {β:Type}{f:α->Sem β}: ∀{t:Sem α},pZ t->(∀a,pZ<|f a)->pZ (t.bind f):=by
 intro t
 induction t with
 | pure a=>intro _ h;exact h a
 | raise e=>intro _ _;exact trivial
 | unsupported _=>intro _ _;exact trivial
 | finish _=>intro _ _;exact trivial
 | rule _ k ih=>intro t h;exact ih () t h
 | «at» _ k ih=>intro t h;exact ih () t h
 | load a _ k ih=>intro t h o;exact ih o (t o) h
 | update a _ f k ih=>intro t h;exact⟨t.1,ih () t.2 h⟩
 | alloc o k ih=>intro t h a;exact ih a (t a) h
 | loadIfAlive a k ih=>intro t h o;exact ih o (t o) h
 | point _ k ih=>intro t h;exact ih () t h
 | register _ _=>intro _ _;exact trivial
 | stack k ih=>intro t h l;exact ih l (t l) h
 | _=>intro t _;exact False.elim t
theorem a43 {M:Model}{t:Sem α}{Q:α->Shared->Prop}(c:pZ t)(h:wpAny M A t Q E s):wpAny M A t (λa s'=>Q a s'/\DK s.heap s'.heap) (λe s'=>E e s'/\DK s.heap s'.heap) s:=λΓ p hin=>dM3 c (h Γ p hin)
theorem bQ0 {part:Option Value}:pZ (loadPart a part):=λ_=>trivial
theorem c54 (v:Value):pZ (fieldsOf v):=by
 unfold fieldsOf;split
 .refine cV bQ0 λo=> ?_
  split<;>exact trivial
 .exact trivial
theorem a44 (v:Value)(i:Nat):pZ (PySem.field v i):=cV (c54 v) λvs=>by
 split<;>exact trivial
theorem c55 (f:Array Value->Array Value):Calm (Obj.mapFields f):=λo=>by
 obtain⟨c,d,dt,sl⟩:=o;cases dt<;>exact⟨rfl,λh=>h⟩
theorem xW (v:Value)(i:Nat)(x:Value):pZ (setField v i x):=by
 unfold setField;split
 .unfold updateField;refine cV bQ0 λo=> ?_
  split
  .split
   .exact⟨c55 _,trivial⟩
   .exact trivial
  .exact trivial
 .exact trivial
theorem aA3 (e:Value)(f:Option Addr):pZ (setFlight e f):=cV (a44 _ _) λtb=>by
 split
 .exact xW _ _ _
 .exact trivial
theorem aN2:pZ stack:=λ_=>trivial
theorem cG8 (f:Addr)(b:Bool):pZ (entryPlaceOf f b):=cV aN2 λl=>by
 split<;>exact trivial
theorem d55 (cls:Value)(data:Data)(d:Option Addr):pZ (newObj cls data d):=by
 have as:pZ (newObjAsIs cls data d):=by
  unfold newObjAsIs;refine cV (λ_=>trivial) λa=> ?_
  split
  .refine cV ?_ λb=> ?_
   .unfold classHasDel;refine cV (λ_=>trivial) λo=> ?_
    split<;>exact trivial
   .split<;>exact trivial
  .exact trivial
 unfold newObj;split<;>first|exact as| (split<;>first|exact as|exact trivial| (refine cV trivial λ_=>as))
theorem cG9 (a b c d e:Value)(pl:List Value):pZ (EntryCells.newEntry a b c d e pl):=by
 unfold EntryCells.newEntry newFields;exact d55 _ _ _
theorem bA5: ∀l:List Env,pZ (readyFrames l)
 | []=>trivial
 | env::outer=>by
  unfold readyFrames;split
  .refine cV (λ_=>trivial) λo=> ?_
   split
   .exact trivial
   .refine cV ?_ λb=> ?_
    .unfold behindIsImport;split
     .exact trivial
     .split
      .exact trivial
      .exact cV (a44 _ _) λ_=>trivial
    .refine cV ?_ λv=> ?_
     .unfold keptBack;split
      .split
       .exact trivial
       .exact cV (cV aN2 λ_=>trivial) λ_=>trivial
      .exact trivial
     .exact⟨λo=>⟨rfl,λh=>by obtain⟨c,d,dt,sl⟩:=o;cases dt<;>exact h⟩,bA5 outer⟩
  .exact trivial
theorem cH0 (env:Env):pZ (PySem.frameOf env):=by
 unfold PySem.frameOf;refine cV (cV aN2 λ_=>trivial) λl=>cV ?_ λo=> ?_
 .unfold frameObject;split
  .exact trivial
  .exact cV (bA5 _) λ_=>trivial
 .split<;>exact trivial
theorem bQ1 (e:Value)(env:Env):pZ (noteFrame e env):=by
 have last: ∀h f,pZ (do setField e 1 (<-EntryCells.newEntry h (<-PySem.frameOf env) .none (rawInt f) .none (<-entryPlaceOf f (h != .none)))):=λh f=>
  cV (cH0 env) λa=>cV (cG8 _ _) λb=>cV (cG9 _ _ _ _ _ _) λc=>xW _ _ _
 unfold noteFrame;split
 .refine cV (a44 _ _) λh=> ?_
  split
  .refine cV (a44 _ _) λx=> ?_
   split
   .exact trivial
   .exact cV (xW _ _ _) λ_=>last _ _
  .exact last _ _
 .exact trivial
theorem aR3 (env:Env)(e:Value):pZ (leaving env e):=cV (bQ1 e env) λ_=>aA3 e none
def Tr (h:Heap)(e T:Addr):Prop:= ∃oe vs,h.get? e=some oe/\oe.data= .fields vs/\vs[1]? =some (.ref T)
theorem Tr.one {e T T':Addr}(a:Tr h e T)(b:Tr h e T'):T=T':=by
 obtain⟨o,vs,h1,h2,h3⟩:=a;obtain⟨o',vs',g1,g2,g3⟩:=b;rw[h1]at g1;cases g1;rw[h2]at g2;cases g2;rw[h3]at g3;cases g3;rfl
structure aH2 (fs:List Addr)(e:Addr)(h h':Heap):Prop where
 keep: ∀b o,h.get? b=some o->b ∉ fs->b≠e-> ¬Tr h e b->h'.get? b=some o
 slot:h.UpToSlots h'
 tr: ∀T,Tr h' e T->T∈fs\/T=e\/Tr h e T\/h.get? T=none
 rcd: ∀T,Tr h' e T-> ∃o vs,h'.get? T=some o/\o.data= .fields vs
structure bL0 (fs:List Addr)(e:Addr)(h h':Heap):Prop extends aH2 fs e h h' where
 dk:DK h h'
theorem bW2 {e:Addr}{cls a0:Value}(t:h.TracedAtW base e cls a0 fl): ∃T,Tr h e T/\base.get? T=none/\T≠e/\ ∃o vs,h.get? T=some o/\o.data= .fields vs:=by
 obtain⟨oe,vs,T,oT,ts,he,_,hd,h1,hb,hne,hT,hdT,_⟩:=t;exact⟨T,⟨oe,vs,he,hd,h1⟩,hb,hne,oT,ts,hT,hdT⟩
theorem rL {B:Heap}{e T:Addr}{cls a0:Value}(t:h.TracedAtW base e cls a0 fl)(x:Tr h e T)(hn:B.get? T=none):h.TracedAtW B e cls a0 fl:=by
 obtain⟨oe,vs,T',oT,ts,he,hc,hd,h1,hb,hne,hT,hdT,h3⟩:=t;obtain rfl:=x.one ⟨oe,vs,he,hd,h1⟩;exact⟨oe,vs,T,oT,ts,he,hc,hd,h1,hn,hne,hT,hdT,h3⟩
section
variable {base h:Heap}{l:List Env}{e T:Addr}{cls a0 fl:Value}
noncomputable def hid (h:Heap)(l:List Env)(e T:Addr):Heap:=PySem.W.hideAll h (frs l++[e,T])
theorem zB (hb:b∈frs l\/b=e\/b=T):(hid h l e T).get? b=none:=PySem.W.hideAll_none _ (by
 rcases hb with z|z|z
 .exact bU.mpr (.inl z)
 .exact bU.mpr (.inr<|by simp[z])
 .exact bU.mpr (.inr<|by simp[z]))
theorem aR4 (q:h.get? b=some o)(h1:b ∉ frs l)(h2:b≠e)(h3:b≠T):(hid h l e T).get? b=some o:=PySem.W.hideAll_get _ q (by
 intro z;rcases bU.mp z with z|z
 .exact h1 z
 .simp at z
  exact z.elim h2 h3)
theorem a45 (f:h.FunFrames base l):h.FunFrames (hid h l e T) l:=PySem.W.funFrames_hide f λenv he b hb=>bU.mpr (.inl<|aL2.mpr ⟨env,he,hb⟩)
theorem aF1 (st:base.StaysIn h)(f:h.FunFrames base l)(he:base.get? e=none)(hT:base.get? T=none):base.StaysIn (hid h l e T):=λb o q=>aR4 (st b o q) (λz=>by rw[(f.mem z).1]at q;cases q) (λz=>by rw[z,he]at q;cases q) λz=>by rw[z,hT]at q;cases q
theorem zC {B h':Heap}(st:base.StaysIn B): ∀{l:List Env},h'.FunFrames B l->h'.FunFrames base l
 | [],_=>trivial
 | env::_,⟨hk,⟨L,o,hf,hn,ho,hd⟩,hr⟩=>⟨hk,⟨L,o,hf,(by
   cases q:base.get? L with
   | none=>rfl
   | some u=>have:=st L u q;rw[hn]at this;cases this),ho,hd⟩,zC st hr⟩
theorem b72 {B:Heap}(st:base.StaysIn B)(q:B.get? b=none):base.get? b=none:=by
 cases z:base.get? b with
 | none=>rfl
 | some u=>have:=st b u z;rw[q]at this;cases this
theorem bW3 {l':List Env}(x:Tr h e T)(st:(hid h l e T).StaysIn h')(t:h'.TracedAtW (hid h l e T) e cls a0 fl)(up:h.UpToSlots h'):aH2 (frs l) e h h':=by
 refine⟨λb o q h1 h2 h3=>st b o (aR4 q h1 h2 λz=>h3 (by rw[z];exact x)),up,λT' x'=> ?_,λT' x'=> ?_⟩
 .obtain⟨T2,y,hn,_,_⟩:=bW2 t;obtain rfl:=x'.one y
  by_cases c1:T'∈frs l
  .exact .inl c1
  by_cases c2:T'=e
  .exact .inr (.inl c2)
  by_cases c3:T'=T
  .exact .inr (.inr<|.inl (by rw[c3];exact x))
  refine .inr (.inr<|.inr ?_)
  cases q:h.get? T' with
  | none=>rfl
  | some o=>rw[aR4 q c1 c2 c3]at hn;cases hn
 .obtain⟨T2,y,_,_,z⟩:=bW2 t;obtain rfl:=x'.one y;exact z
end
section
variable {M:Model}{A:Around}{E:Value->Shared->Prop}{s:Shared}{base:Heap}{env:Env}{outer:List Env}{L e:Addr}{cls a0:Value}{Q:Unit->Shared->Prop}
theorem cH1 (hfr:A.frames=some (env::outer))(hf:env.frame=some L)(F:FlyingW base (env::outer) e cls a0 s.heap)
  (hQ: ∀h',FlyingW base outer e cls a0 h'->aH2 (frs (env::outer)) e s.heap h'->Q () {s with heap:=h'}):wpAny M A (leaving env<|.ref e) Q E s:=by
 obtain⟨f1,f2,f3,f4⟩:=F;obtain⟨T,x,hT,_,_⟩:=bW2 (fl:= .none) f4;have stB:=aF1 (T:=T) f1 f3 f2 hT;refine wpAny_leaves_onW (base:=hid s.heap (env::outer) e T) hfr hf ⟨λb o q=>uL _ q,zB<|.inr<|.inl rfl,a45 f3,rL (fl:= .none) f4 x<|zB<|.inr<|.inr rfl⟩ λh' F' up=> ?_
 obtain⟨g1,g2,g3,g4⟩:=F';obtain⟨T',x',hT',_,_⟩:=bW2 (fl:= .none) g4;exact hQ h' ⟨λb o q=>g1 b o (stB b o q),f2,zC stB g3,rL (fl:= .none) g4 x'<|b72 stB hT'⟩ (bW3 (l':=outer) x g1 g4 up)
theorem cU3 (hfr:A.frames=some (env::outer))(hf:env.frame=some L)(F:FlyingW base (env::outer) e cls a0 s.heap)
  (hQ: ∀h',HeldW base (env::outer) e cls a0 L h'->aH2 (frs (env::outer)) e s.heap h'->Q () {s with heap:=h'}):wpAny M A (noteFrame (.ref e) env) Q E s:=by
 obtain⟨f1,f2,f3,f4⟩:=F;obtain⟨T,x,hT,_,_⟩:=bW2 (fl:= .none) f4;have stB:=aF1 (T:=T) f1 f3 f2 hT;refine wpAny_looks_onW (base:=hid s.heap (env::outer) e T) hfr hf ⟨λb o q=>uL _ q,zB<|.inr<|.inl rfl,a45 f3,rL (fl:= .none) f4 x<|zB<|.inr<|.inr rfl⟩ λh' F' up=> ?_
 obtain⟨g1,g2,g3,g4⟩:=F';obtain⟨T',x',hT',_,_⟩:=bW2 g4;exact hQ h' ⟨λb o q=>g1 b o (stB b o q),f2,zC stB g3,rL g4 x'<|b72 stB hT'⟩ (bW3 (l':=outer) x g1 g4 up)
theorem cU4 {l:List Env}(F:base.StaysIn s.heap/\base.get? e=none/\s.heap.FunFrames base l/\s.heap.TracedAtW base e cls a0 fl)
  (hQ: ∀h',FlyingW base l e cls a0 h'->aH2 (frs l) e s.heap h'->Q () {s with heap:=h'}):wpAny M A (setFlight (.ref e) none) Q E s:=by
 obtain⟨f1,f2,f3,f4⟩:=F;obtain⟨T,x,hT,_,_⟩:=bW2 f4;have stB:=aF1 (T:=T) f1 f3 f2 hT;refine wpAny_setFlight_noneW (base:=hid s.heap l e T) (λb o q=>uL _ q) (a45 f3) (rL f4 x<|zB<|.inr<|.inr rfl) λh' g1 g3 g4 up=> ?_
 obtain⟨T',x',hT',_,_⟩:=bW2 (fl:= .none) g4;exact hQ h' ⟨λb o q=>g1 b o (stB b o q),f2,zC stB g3,rL (fl:= .none) g4 x'<|b72 stB hT'⟩ (bW3 (l':=l) (fl:= .none) x g1 g4 λb o q n=>⟨o.slots,up b o q n⟩)
theorem bW4 (hfr:A.frames=some (env::outer))(hl:s.heap.FunFrames base (env::outer))(hf:env.frame=some L)(he:s.heap.get? e=some oe)(hkb:base.StaysIn s.heap)(hen:base.get? e=none)(hd:oe.data= .fields vs)(h1:vs[1]? =some .none)(h0:vs[0]? =some a0)
  (hQ: ∀h',FlyingW base outer e oe.cls a0 h'->aH2 (frs (env::outer)) e s.heap h'->Q () {s with heap:=h'}):wpAny M A (leaving env<|.ref e) Q E s:=by
 have stB:=aF1 (e:=e) (T:=e) hkb hl hen hen;have nt: ∀T,¬Tr s.heap e T:=by
  rintro T ⟨o,ws,k1,k2,k3⟩;rw[he]at k1;cases k1;rw[hd]at k2;cases k2;rw[h1]at k3;cases k3
 refine wpAny_leaving_firstW (base:=hid s.heap (env::outer) e e) hfr (a45 hl) hf he (λb o q=>uL _ q) (zB<|.inr<|.inl rfl) hd h1 h0 λh' F'=> ?_
 obtain⟨g1,⟨_,_,g3⟩,g4,up⟩:=F';obtain⟨T',x',hT',hne,hrec⟩:=bW2 (fl:= .none) g4;refine hQ h' ⟨λb o q=>g1 b o (stB b o q),hen,zC stB g3,rL (fl:= .none) g4 x'<|b72 stB hT'⟩ ⟨λb o q k1 k2 _=>g1 b o (aR4 q k1 k2 k2),up,λT x2=> ?_,λT x2=> ?_⟩
 .obtain rfl:=x2.one x'
  by_cases c1:T∈frs (env::outer)
  .exact .inl c1
  refine .inr (.inr<|.inr ?_)
  cases q:s.heap.get? T with
  | none=>rfl
  | some o=>rw[aR4 q c1 hne hne]at hT';cases hT'
 .obtain rfl:=x2.one x';exact hrec
theorem cU5 (hfr:A.frames=some (env::outer))(hf:env.frame=some L)(F:FlyingW base (env::outer) e cls a0 s.heap)
  (hQ: ∀h',FlyingW base outer e cls a0 h'->bL0 (frs (env::outer)) e s.heap h'->Q () {s with heap:=h'}):wpAny M A (leaving env<|.ref e) Q E s:=
 bK (a43 (aR3 env<|.ref e)<|cH1 (Q:=λ_ s'=> ∃h',s'={s with heap:=h'}/\FlyingW base outer e cls a0 h'/\aH2 (frs (env::outer)) e s.heap h') hfr hf F λh' a b=>⟨h',rfl,a,b⟩) (λ_ s' ⟨⟨h',q,a,b⟩,dk⟩=>by subst q;exact hQ h' a ⟨b,dk⟩) λ_ _ z=>z.1
theorem d56 (hfr:A.frames=some (env::outer))(hf:env.frame=some L)(F:FlyingW base (env::outer) e cls a0 s.heap)
  (hQ: ∀h',HeldW base (env::outer) e cls a0 L h'->bL0 (frs (env::outer)) e s.heap h'->Q () {s with heap:=h'}):wpAny M A (noteFrame (.ref e) env) Q E s:=
 bK (a43 (bQ1 (.ref e) env)<|cU3 (Q:=λ_ s'=> ∃h',s'={s with heap:=h'}/\HeldW base (env::outer) e cls a0 L h'/\aH2 (frs (env::outer)) e s.heap h') hfr hf F λh' a b=>⟨h',rfl,a,b⟩) (λ_ s' ⟨⟨h',q,a,b⟩,dk⟩=>by subst q;exact hQ h' a ⟨b,dk⟩) λ_ _ z=>z.1
theorem bA6 {l:List Env}(F:base.StaysIn s.heap/\base.get? e=none/\s.heap.FunFrames base l/\s.heap.TracedAtW base e cls a0 fl)
  (hQ: ∀h',FlyingW base l e cls a0 h'->bL0 (frs l) e s.heap h'->Q () {s with heap:=h'}):wpAny M A (setFlight (.ref e) none) Q E s:=
 bK (a43 (aA3 (.ref e) none)<|cU4 (Q:=λ_ s'=> ∃h',s'={s with heap:=h'}/\FlyingW base l e cls a0 h'/\aH2 (frs l) e s.heap h') F λh' a b=>⟨h',rfl,a,b⟩) (λ_ s' ⟨⟨h',q,a,b⟩,dk⟩=>by subst q;exact hQ h' a ⟨b,dk⟩) λ_ _ z=>z.1
theorem c56 (hfr:A.frames=some (env::outer))(hl:s.heap.FunFrames base (env::outer))(hf:env.frame=some L)(he:s.heap.get? e=some oe)(hkb:base.StaysIn s.heap)(hen:base.get? e=none)(hd:oe.data= .fields vs)(h1:vs[1]? =some .none)(h0:vs[0]? =some a0)
  (hQ: ∀h',FlyingW base outer e oe.cls a0 h'->bL0 (frs (env::outer)) e s.heap h'->Q () {s with heap:=h'}):wpAny M A (leaving env<|.ref e) Q E s:=
 bK (a43 (aR3 env<|.ref e)<|bW4 (Q:=λ_ s'=> ∃h',s'={s with heap:=h'}/\FlyingW base outer e oe.cls a0 h'/\aH2 (frs (env::outer)) e s.heap h') hfr hl hf he hkb hen hd h1 h0 λh' a b=>⟨h',rfl,a,b⟩) (λ_ s' ⟨⟨h',q,a,b⟩,dk⟩=>by subst q;exact hQ h' a ⟨b,dk⟩) λ_ _ z=>z.1
end
structure Fly (base:Heap)(l:List Env)(e C:Addr)(H:Hp)(h:Heap):Prop where
 fl: ∃a0,FlyingW base l e (.ref C) a0 h
 he:H e=none
 ht: ∀T,Tr h e T->H T=none
structure bQ2 (g:Heap)(e:Addr)(h:Heap):Prop where
 he:g.get? e=none
 ht: ∀T,Tr h e T->g.get? T=none
def XAt (h:Heap)(a:Addr)(o:Option Addr):Prop:= ∀d,o=some d-> ∃oe,h.get? a=some oe/\oe.dict=some d
theorem XAt.dk {o:Option Addr}(x:XAt h a o)(k:DK h h'):XAt h' a o:=λd q=>by
 obtain⟨oe,e1,e2⟩:=x d q;obtain⟨o',e3,e4⟩:=k a oe e1;exact⟨o',e3,e4.trans e2⟩
noncomputable def CXr (P:Program)(w:World)(base:Heap):CXT:=λouter H s E e s'=> ∃a C o H',e= .ref a/\s'.os=s.os/\AllBare s'.gens/\Un (frs outer) [] H H' s.heap s'.heap/\HOk P w H' s'.heap/\Fly base outer a C H' s'.heap/\bQ2 s.heap a s'.heap/\XAt s'.heap a o/\E (.ref C) o H'
section
variable {P:Program}{w:World}{H H0:Hp}{h h':Heap}{fs:List Addr}{e:Addr}
theorem HOk.past (x:HOk P w H h)(p:bL0 fs e h h')(hf: ∀b∈fs,H b=none)(he:H e=none)(ht: ∀T,Tr h e T->H T=none):HOk P w H h':=λa o q=>
 (x a o q).stay (λb u hb r=>by
  have tracked:H b≠none:=by
   rcases hb with rfl|hb
   .rw[q];simp
   .rw[hb];simp
  exact p.keep b u r (λz=>tracked (hf b z)) (λz=>tracked (by rw[z];exact he)) λz=>tracked (ht b z)) (λ_ q=>q) λ_ _ q=>q
theorem HOk.there (x:HOk P w H h)(n:h.get? b=none):H b=none:=by
 cases q:H b with
 | none=>rfl
 | some o=>
  exfalso
  have hh: ∃ob,h.get? b=some ob:=by
   have y:=x b o q;cases o with
   | lst xs=>obtain⟨_,_,_,_,e⟩:=y;exact⟨_,e⟩
   | tup xs=>obtain⟨_,_,_,ob,e,_⟩:=y;exact⟨_,e⟩
   | dK kvs=>obtain⟨_,_,_,_,o,_,_,e,_⟩:=y;exact⟨_,e⟩
   | dT kvs=>obtain⟨_,_,_,_,o,_,_,e,_⟩:=y;exact⟨_,e⟩
   | set S n=>obtain⟨o,_,_,_,e,_⟩:=y;exact⟨_,e⟩
   | ins C dx fs=>obtain⟨_,_,_,e,_⟩:=y;exact⟨_,e⟩
   | own y'=>exact y
   | xd fs=>obtain⟨_,⟨_,_,_,e,_⟩,_⟩:=y;exact⟨_,e⟩
   | rng lo hi=>obtain⟨_,_,_,e⟩:=y;exact⟨_,e⟩
   | frz ob u=>obtain⟨e,_⟩:=y;exact⟨_,e⟩
   | tbl ps=>exact⟨_,(show h.get? b=some _ from y)⟩
   | met f y'=>exact⟨_,(show h.get? b=some _ from y)⟩
   | ext φ=>obtain⟨_,e,_⟩:=y;exact e
  obtain⟨ob,e⟩:=hh;rw[n]at e;cases e
theorem b73 (x:HOk P w H h)(p:bL0 fs e h h')(hf: ∀b∈fs,H b=none)(he:H e=none)(ht: ∀T,Tr h e T->H T=none): ∀T,Tr h' e T->H T=none:=λT q=>by
 rcases p.tr T q with z|z|z|z
 .exact hf T z
 .rw[z];exact he
 .exact ht T z
 .exact x.there z
end
section
variable {X:Cx}{pins:List (Addr×Obj)}{σ:St}{H:Hp}{s:Shared}{h':Heap}{e:Addr}
theorem Un.past {fs fs':List Addr}{H0:Hp}{L:Addr}(u:Un fs [] H0 H g s.heap)(p:bL0 fs' e s.heap h')(hfs: ∀b∈fs',b=L\/b∈fs)(hL:g.get? L=none)(ne:g.get? e=none)(nt: ∀T,Tr s.heap e T->g.get? T=none)(hd: ∀b∈fs,∀o,s.heap.get? b=some o-> ∀vs,o.data≠ .fields vs):Un fs [] H0 H g h' where
 keep:=λb o q n hb hx=>p.keep b o (u.keep b o q n hb hx) (λz=>by
  rcases hfs b z with z|z
  .rw[z,hL]at q;cases q
  .exact hb z) (λz=>by rw[z,ne]at q;cases q) λz=>by rw[nt b z]at q;cases q
 slot:=λb o q n hb hx=>by
  obtain⟨sl,e1⟩:=u.slot b o q n hb hx;obtain⟨sl',e2⟩:=p.slot b _ e1 (hd b hb _ e1);exact⟨sl',e2⟩
 free:=u.free
 there:=λb o q hx=>by
  obtain⟨o',e1⟩:=u.there b o q hx
  by_cases c:b∈fs
  .obtain⟨sl,e2⟩:=p.slot b _ e1 (hd b c _ e1);exact⟨_,e2⟩
  .exact⟨o',p.keep b o' e1 (λz=>by
    rcases hfs b z with z|z
    .rw[z,hL]at q;cases q
    .exact c z) (λz=>by rw[z,ne]at q;cases q) λz=>by rw[nt b z]at q;cases q⟩
 tups:=u.tups
 frzs:=u.frzs
 tbls:=u.tbls
end
section
variable {P:Program}{w:World}{K:PySem.W.Frag}{mg:Str->Option Value}{base:Heap}{N:List Str}{qual:Str}{scope:Scope}{f:Addr}{cd:Value}{A:Around}{outer:List Env}{s0:Shared}{H0:Hp}{E:XK}{CX:CXT}
theorem d57 {σ:St}{H:Hp}{o:Option Addr}(I:Inv (vB (CXr P w base) P w K mg base N qual scope f cd A outer s0 H0 E) pins σ H s')(F:Fly base (envOfC qual scope s0.heap.objs.size f cd::outer) a C H s'.heap)(nw:bQ2 s0.heap a s'.heap)(xa:XAt s'.heap a o)(hE:E (.ref C) o H) :
  (vB (CXr P w base) P w K mg base N qual scope f cd A outer s0 H0 E).xe (.ref a) s':=by
 obtain⟨⟨a0,fl⟩,he,ht⟩:=F;have fr:(A.deeper<|envOfC qual scope s0.heap.objs.size f cd).frames=some (envOfC qual scope s0.heap.objs.size f cd::outer):=I.ok.frames;have sf: ∀b∈frs (envOfC qual scope s0.heap.objs.size f cd::outer),H b=none:=I.stkFree;have fm: ∀b∈frs (envOfC qual scope s0.heap.objs.size f cd::outer),b=s0.heap.objs.size\/b∈frs outer:=λb hb=>by
  unfold frs at hb⊢;rw[jO]at hb;have e:(envOfC qual scope s0.heap.objs.size f cd).frame=some s0.heap.objs.size:=rfl;rw[e]at hb;exact bB.mp hb
 show wpAny _ _ (leaving _<|.ref a) _ _ s'
 refine cU5 fr (L:=s0.heap.objs.size) rfl fl λh' fl' p=> ?_
 have hd: ∀b∈frs outer,∀o,s'.heap.get? b=some o-> ∀vs,o.data≠ .fields vs:=λb hb o q=>by
  obtain⟨_,o',q',n⟩:=fl.2.2.1.mem (b:=b) (by
   unfold frs at hb;rw[jO];have e:(envOfC qual scope s0.heap.objs.size f cd).frame=some s0.heap.objs.size:=rfl;rw[e];exact bB.mpr (.inr hb))
  rw[q]at q';cases q';exact n
 have un:Un (frs outer) [] H0 H s0.heap h':=I.base.past p fm (lF<|aD _) nw.he nw.ht hd;refine⟨a,C,o,H,rfl,I.os,I.bare,un,I.hok.past p sf he ht,⟨⟨a0,fl'⟩,he,b73 I.hok p sf he ht⟩,⟨nw.he,λT q=> ?_⟩,xa.dk p.dk,hE⟩
 rcases p.tr T q with z|z|z|z
 .rcases fm T z with z|z
  .rw[z];exact lF (aD _)
  .exfalso
   obtain⟨o,vs,q1,q2⟩:=p.rcd T q;obtain⟨_,o',q',n⟩:=fl'.2.2.1.mem (b:=T) z;rw[q1]at q';cases q';exact n vs q2
 .rw[z];exact nw.he
 .exact nw.ht T z
 .cases r:s0.heap.get? T with
  | none=>rfl
  | some o=>
   obtain⟨o',q'⟩:=I.base.there T o r (show T ∉ ([]:List Addr)by simp)
   rw[z]at q';cases q'
theorem dT6:aM8 (CXr P w base) (vB (CXr P w base) P w K mg base N qual scope f cd A outer s0 H0 E) E:=by
 rintro pins σ H s e s' I ⟨a,C,o,H',rfl,ho,hb,un,hok,F,nw,xa,hE⟩;have I':=I.call' (s':=s') ho un hok hb (λb z=>absurd z ae)
 refine d57 I' F ⟨?_,λT q=> ?_⟩ xa hE
 .cases r:s0.heap.get? a with
  | none=>rfl
  | some o=>
   obtain⟨o',q'⟩:=I.base.there a o r (show a ∉ ([]:List Addr)by simp)
   rw[nw.he]at q';cases q'
 .have:=nw.ht T q;cases r:s0.heap.get? T with
  | none=>rfl
  | some o=>
   obtain⟨o',q'⟩:=I.base.there T o r (show T ∉ ([]:List Addr)by simp)
   rw[this]at q';cases q'
end
inductive XO (h:Heap) (C N:Addr) (bm:List Value) (newId:String):Prop
 | mk (nm q:Str) (bs:List Value) (hd:Bool) (sn:List Str) (sub:List Value) (ab:Bool) (col:Option Bool) (dd:Option Addr) (k0 k1 k2 k3 k5:Option Value) (o:h.get? C=some (excClassObj nm q C N bs bm hd sn sub ab col dd k0 k1 k2 k3 k5 newId)):XO h C N bm newId
inductive XCls (h:Heap) (C:Addr) (bmB bm:List Value) (newId:String):Prop
 | mk (N:Addr) (mN:Str->Option Value) (o:XO h C N bm newId) (n:h.Ns N mN) (i:mN "__init__"=none) (t:OwnTail h bmB bm):XCls h C bmB bm newId
theorem bW5 (X:K.In h)(q:excIn K C bmB newId=true): ∃bm,XCls h C bmB bm newId:=by
 unfold excIn at q;split at q
 .rename_i od ck slots look
  split at q
  .rename_i C2 tail a0 a1 a2 a3 nid a5 em es
   simp only[iI,iN,aL9]at q;obtain⟨⟨⟨⟨⟨rfl,rfl⟩,nodel⟩,tk⟩,nk⟩,ni⟩:=q;obtain⟨c1,c2,c3,c4,c5,c6,c7,c8,c9,c10,c11⟩:=ck;dsimp only at em nodel nk ni;subst em nodel;obtain⟨sll⟩:=slots;simp only at es;subst es;exact⟨tail,_,_,⟨_,_,_,_,_,_,_,_,_,_,_,_,_,_,X _ _ look⟩,.of_isNs<|PySem.W.isNs_of_in X nk,PySem.W.nsMap_none_of_in X nk ni,PySem.W.tail_of_in X tk⟩
  .cases q
 .cases q
section
variable {X:Cx}{E:XK}{C:Addr}
def bA7 (X:Cx)(E:XK)(C:Addr):Prop:= ∀(pins:List (Addr×Obj)) (σ:St) (H:Hp) (s:Shared) (a:Addr) (oe:Obj) (vs:Array Value) (a0:Value) (o:Option Addr),Inv X pins σ H s->s.heap.get? a=some oe->oe.cls= .ref C->oe.data= .fields vs->vs[0]? =some a0->vs[1]? =some .none->H a=none->X.s₀.heap.get? a=none->XAt s.heap a o->E (.ref C) o H->X.xe (.ref a) s
theorem cH2 {cd:Value}{s0:Shared}{H0:Hp} :
  bA7 (vB (CXr P w base) P w K mg base N qual scope f cd A outer s0 H0 E) E C:=by
 intro pins σ H s a oe vs a0 o I he hc hd h0 h1 nH n0 xa hE;have fr:(A.deeper<|envOfC qual scope s0.heap.objs.size f cd).frames=some (envOfC qual scope s0.heap.objs.size f cd::outer):=I.ok.frames;have sf: ∀b∈frs (envOfC qual scope s0.heap.objs.size f cd::outer),H b=none:=I.stkFree;have fl0:s.heap.FunFrames base (envOfC qual scope s0.heap.objs.size f cd::outer):=I.stack
 have fe:(envOfC qual scope s0.heap.objs.size f cd).frame=some s0.heap.objs.size:=rfl;have fm: ∀b∈frs (envOfC qual scope s0.heap.objs.size f cd::outer),b=s0.heap.objs.size\/b∈frs outer:=λb hb=>by
  unfold frs at hb⊢;rw[jO,fe]at hb;exact bB.mp hb
 have nt: ∀T,¬Tr s.heap a T:=by
  rintro T ⟨o,ws,k1,k2,k3⟩;rw[he]at k1;cases k1;rw[hd]at k2;cases k2;rw[h1]at k3;cases k3
 have nb:base.get? a=none:=by
  cases q:base.get? a with
  | none=>rfl
  | some o=>rw[(I.ok.bs a o q).1]at n0;cases n0
 have st:base.StaysIn s.heap:=I.bk;show wpAny _ _ (leaving _<|.ref a) _ _ s;refine c56 fr fl0 (L:=s0.heap.objs.size) rfl he st nb hd h1 h0 λh' fl' p=> ?_
 rw[hc]at fl';have hdf: ∀b∈frs outer,∀o,s.heap.get? b=some o-> ∀vs,o.data≠ .fields vs:=λb hb o q=>by
  obtain⟨_,o',q',n⟩:=fl0.mem (b:=b) (by
   unfold frs at hb;rw[jO,fe];exact bB.mpr (.inr hb))
  rw[q]at q';cases q';exact n
 have un:Un (frs outer) [] H0 H s0.heap h':=I.base.past p fm (lF<|aD _) n0 (λT q=>absurd q (nt T)) hdf
 have ht: ∀T,Tr s.heap a T->H T=none:=λT q=>absurd q (nt T)
 refine⟨a,C,o,H,rfl,I.os,I.bare,un,I.hok.past p sf nH ht,⟨⟨a0,fl'⟩,nH,b73 I.hok p sf nH ht⟩,⟨n0,λT q=> ?_⟩,xa.dk p.dk,hE⟩
 rcases p.tr T q with z|z|z|z
 .rcases fm T z with z|z
  .rw[z];exact lF (aD _)
  .exfalso
   obtain⟨o,ws,q1,q2⟩:=p.rcd T q;obtain⟨_,o',q',n⟩:=fl'.2.2.1.mem (b:=T) z;rw[q1]at q';cases q';exact n ws q2
 .rw[z];exact n0
 .exact absurd z (nt T)
 .cases r:s0.heap.get? T with
  | none=>rfl
  | some o=>
   obtain⟨o',q'⟩:=I.base.there T o r (show T ∉ ([]:List Addr)by simp)
   rw[z]at q';cases q'
def d58 (C:Addr)(E:XK)(ta:TA):TS:=λ_ σ H=>ta σ H λvs H1=>vs.length<=sizeLine/\E (.ref C) none H1
theorem d59 {ta:TA}{B:String}(FB:ExcBaseFacts B newId initId bmB)(q:excIn X.K C bmB newId=true)(hg:Gl X x)(hm:X.mg x=some (.ref C))(hc:X.calm=true)(ha:PA X (e::es) ta)(th:bA7 X E C)
  (he:↥(starEach (e::es) X.env=(false,eval e X.env)::starEach es X.env)) (hpl:↥((backTo cpos<|starEach es X.env).any (·.1)=false)) (hd:⇑((x==("__debug__":Str))=false)) (hex:↥(X.ex=[])) :
  PS X (.Raise (some<|.Call (.Name x np) (e::es) [] cpos) none pos) (d58 C E ta):=by
 intro pins s σ H D I h;obtain⟨bm,N,mN,⟨nm,qn,bs,hdd,sn,sub,ab,col,dd,k0,k1,k2,k3,k5,hC⟩,hN,hni,tl⟩:=bW5 I.mod.kin q;have keepS: ∀{pins:List (Addr×Obj)} {σ:St} {H:Hp} {s2:Shared},Inv X pins σ H s2-> ∀b o,X.base.get? b=some o->s2.heap.get? b=some o:=λJ=>J.bk
 refine wpAny_Raise_call_subT (C:=C) (nm:=nm) (q:=qn) (N:=N) (bs:=bs) (bm:=bm) (hdct:=hdd) (sn:=sn) (sub:=sub) (ab:=ab) (col:=col) (dd:=dd) (k0:=k0) (k1:=k1) (k2:=k2) (k3:=k3) (k5:=k5) FB (mN:=mN) (tl.hasType FB.hasBase) (I.ok.hd hc) ?_ hni (nP I hg hm ⟨rfl,?_⟩ hd)
 .rw[he];show(false||(backTo cpos<|starEach es X.env).any (·.1))=false;rw[hpl];rfl
 .have hh:=ha cpos pins s σ H _ I h;rw[he]at hh⊢;refine aK7 (bK hh (λus s2 ⟨vs,H1,I1,r1,q1⟩=>⟨rfl,by rw[<-r1.length];exact q1.1,keepS I1 _ _ hC,hN.keeps<|keepS I1,tl.keeps<|keepS I1,λh' a mk=> ?_⟩) λ_ _ y=>y)
  obtain⟨t,m1,m2,m3⟩:=mk.there;have I2:Inv X pins σ H1 {s2 with heap:=h'}:=I1.kept mk.keeps;refine th pins σ H1 _ a _ _ (.ref t) none I2 m1 rfl rfl rfl rfl (I1.hok.there mk.new) ?_ (λd z=>by cases z) q1.2
  cases r:X.s₀.heap.get? a with
  | none=>rfl
  | some o=>
   obtain⟨o',q'⟩:=I1.base.there a o r (by rw[hex];simp)
   rw[mk.new]at q';cases q'
end
section
variable {prog:Program}{w:World}{A:Around}{E:Value->Shared->Prop}{hp:Heap}{gn:Array GenState}{dr:Drawn}{tn:Nat}{os:OsState}
variable {nm qn:Str}{C N:Addr}{bs bm bmB:List Value}{hdd:Bool}{sn:List Str}{sub:List Value}{ab:Bool}{col:Option Bool}{dd:Option Addr}{k0 k1 k2 k3 k5:Option Value}{B newId initId:String}
theorem cH3 (F:ExcBaseFacts B newId initId bmB)(T:OwnTail hp bmB bm){mN:Str->Option Value}{oI:Obj}{Q:Fin->Shared->Prop}
  (hC:hp.get? C=some (excClassObj nm qn C N bs bm hdd sn sub ab col dd k0 k1 k2 k3 k5 newId)) (hN:hp.Ns N mN) (hini:mN "__init__"=some (.ref fI)) (hfun:hp.get? fI=some oI) (hcls:oI.cls= .type "function")
  (hgo: ∀h' e,MadeExcOf hp h' e (.ref C) us->wpAny (model prog w) A (call (.ref fI) (.ref e::us)) (λr s'=>r= .none/\Q (.done<|.ret<|.ref e) s') E ⟨h',gn,dr,tn,os⟩) (hus:us.length<=sizeLine) :
  wpAny (model prog w) A (Builtin.«type.__call__» ⟨.ref C::us,[]⟩) Q E ⟨hp,gn,dr,tn,os⟩:=by
 repeat (first
  | with_reducible refine o8 hC ?_
  | with_reducible refine wpAny_madeBy_exc hC ?_
  | wp_step)
 refine codeAny_call_builtin_code (Code.quiet_builtin _ F.quiet) (wpAny_check_new_subT F T hC ?_)
 refine codeAny_exc_new_subT F T hC ?_ hus
 show wpAny _ _ _ _ _ _
 generalize ea:({cls:= .type "tuple",data:= .seq us.toArray}:Obj)=oa;generalize eb:({cls:= .ref C,data:= .fields #[.ref hp.objs.size,.none,.none,.none,.bool false,.none]}:Obj)=ob;have up: ∀b o,hp.get? b=some o->((hp.push oa).push ob).get? b=some o:=λb o q=>bC _ (bC _ q)
 have g1:=up _ _ hC;have g2:=up _ _ hfun;have g3:=hN.keeps up;have g4:((hp.push oa).push ob).get? (hp.objs.size+1)=some ob:=by
  subst ea eb
  heap_get
 have g5:((hp.push oa).push ob).get? hp.objs.size=some oa:=by
  subst ea;exact bC _ (Heap.get?_push_at rfl rfl)
 have g6:=T.keeps up;have me:(Value.ref C::bm).contains (.ref C)=true:=ae
 have ec:ob.cls= .ref C:=by rw[<-eb]
 unfold isInstance
 repeat (first
  | (with_reducible refine o8 g4 ?_;rw[ec])
  | (with_reducible refine a09 g1 ?_;rw[me])
  | wp_step)
 show wpAny _ _ (typeLookup (.ref C) _) _ _ _
 refine wpAny_typeLookup_tail g1 g3 g6 F.mroIs F.init.lookup ?_
 rw[hini];refine iJ (a9 ?_);unfold bindSpecial;refine a9 (a25 (T:="function") ⟨_,g2,hcls⟩ ?_);rw[a7 ac]
 have mk:MadeExcOf hp ((hp.push oa).push ob) (hp.objs.size+1) (.ref C) us:=⟨up,lF<|a33 _,hp.objs.size,by rw[g4,<-eb],lF<|aD _,by rw[g5,<-ea]⟩
 refine aN (a9<|bK (hgo _ _ mk) (λr s' z=> ?_) λ_ _ z=>z)
 obtain⟨rfl,z⟩:=z
 wp_walk
 exact z
theorem xcall (F:ExcBaseFacts B newId initId bmB)(T:OwnTail hp bmB bm){mN:Str->Option Value}{oI:Obj}
  (hC:hp.get? C=some (excClassObj nm qn C N bs bm hdd sn sub ab col dd k0 k1 k2 k3 k5 newId)) (hN:hp.Ns N mN) (hini:mN "__init__"=some (.ref fI)) (hfun:hp.get? fI=some oI) (hcls:oI.cls= .type "function")
  (hgo: ∀h' e,MadeExcOf hp h' e (.ref C) us->wpAny (model prog w) (A.under<|.builtin "type.__call__" ⟨.ref C::us,[]⟩) (call (.ref fI) (.ref e::us)) (λr s'=>r= .none/\Q (.ref e) s') E ⟨h',gn,dr,tn,os⟩) (hus:us.length<=sizeLine) :
  wpAny (model prog w) A (call (.ref C) us) Q E ⟨hp,gn,dr,tn,os⟩:=by
 have t1:=tc_lookup;have t2:=tc_bind (.ref C);have t3:(⟨hp,gn,dr,tn,os⟩:Shared).TypeIs (.ref C) "type":=⟨_,hC,rfl⟩;refine v9 (codeAny_of_tree ?_);show wpAny _ _ (callAny (.ref C) _) _ _ _
 repeat (any_goals (first
  | assumption
  | with_reducible refine o8 hC ?_
  | wp_step))
 refine⟨rfl,?_⟩
 exact codeAny_call_builtin_at (Code.quiet_builtin _ af) entry_typeCall (wpAny_check_type_call_sub hC<|cH3 F T hC hN hini hfun hcls (λh' e mk=>hgo h' e mk) hus)
end
open Builtin Builtin.ObjectAttr
noncomputable def veMro:List Value:=[.type "ValueError",.type "Exception",.type "BaseException",.type "object"]
noncomputable def vK:List Value->Bool
 | []=>false
 | v::r=>(v::r)==veMro||match v with
  | .ref _=>vK r
  | _=>false
theorem b33 (self:Value): ∀{l:List Value},vK l=true->refuseLoop self "__setattr__" l=pure ()
 | v::r,e=>by
  unfold vK at e;rcases Bool.or_eq_true_iff.mp e with q|q
  .rw[iN.mp q];exact PySem.F.store_ValueError.passes self
  .split at q
   .rw[refuseLoop_ref];exact b33 self q
   .cases q
theorem bA8: ∀{l:List Value},vK l=true->l.contains (.type "object")=true/\l.isEmpty=false
 | v::r,e=>by
  refine⟨?_,rfl⟩
  unfold vK at e;rcases Bool.or_eq_true_iff.mp e with q|q
  .rw[iN.mp q];decide
  .split at q
   .rw[aL4,(bA8 q).1,Bool.or_true]
   .cases q
section
variable {K:PySem.W.Frag}{prog:Program}{w:World}{A:Around}{E:Value->Shared->Prop}{s:Shared}{x C:Addr}{mA:Str->Option Value}{ns:List Str}{name:Str}{v:Value}{cd:ClassData}
theorem xosa {R:Result->Shared->Prop}{tk:Tok}(X:K.In s.heap)(hc:PySem.W.clsIn K C=some cd)(hm:vK cd.mro=true)(hdct:cd.hasDict=true)(ht:PySem.W.findIn K (.ref C) name=some none)
  (I:s.heap.Inst x C mA) (hw:Within mA ns) (hsz:ns.length<=100) {od:Option Obj} {o:Obj} (hx:s.heap.get? x=some o) (J:PySem.W.InstAt s.heap x o C od)
  (hq: ∀h' tk,h'.Inst x C (λy=>if y=name then some v else mA y)->(∀b o,b≠x->(∀o0 dx,s.heap.get? x=some o0->o0.dict=some dx->b≠dx)->s.heap.get? b=some o->h'.get? b=some o)->
   (∀o0,s.heap.get? x=some o0-> ∃o1,h'.get? x=some o1/\o1.cls=o0.cls/\o1.data=o0.data/\ ∀dx,o1.dict=some dx->o0.dict=some dx\/(s.heap.objs.size<=dx))->R (.ok<|.ret .none) {s with heap:=h',toks:=tk}) :
  codeAny (model prog w) A (.call (.builtin "object.__setattr__") ⟨[.ref x,.str name tk,v],[]⟩) R s:=by
 have SF:=PySem.F.store_ValueError;have sub:PySem.W.Looks (model prog w) s.heap (isInstance (.ref x)<|.type "object") true:=J.type.andThen (PySem.W.looks_mroIn X (by unfold PySem.W.mroIn;rw[hc,bind_some,a6 (by rw[(bA8 hm).2];decide),(bA8 hm).1]))
 refine codeAny_call_builtin SF.slot.plain SF.entry (@PySem.W.check_slot (model prog w) _ _ s "object.__setattr__" "object" "__setattr__" (.ref x) [.str name tk,v] [] _ SF.kind SF.split sub (SF.args (.ref x) (.str name tk) v) ?_)
 have hmr:PySem.W.Looks (model prog w) s.heap (mroOf<|.ref C) cd.mro:=(aL1 X hc).andThen .now;rw[PySem.W.osa_eq,refuse_eq];refine a9 (a9<|J.type.here<|a9<|hmr.here ?_);rw[b33 _ hm];refine aN (a9<|J.type.here<|a9<|(PySem.W.looks_findIn X ht).here<|a9<|aN ?_);have lc:=aL1 (M:=model prog w) X hc;obtain⟨o',hx',hcl,hnc,hdd⟩:=I;rw[hx]at hx';cases hx';refine a9 (aN ?_);refine a9 ?_
 show wpAny _ _ (instanceDict x true) _ _ s
 unfold instanceDict;refine a9 (wpAny_loadPart hx ?_);rw[hcl];right;refine a9 (lc.here ?_);rw[hdct];rw[a6 ac]
 clear sub hmr lc;obtain⟨hp,gn,dr,tn,os⟩:=s;dsimp only at *;have put: ∀(h1:Heap) (dx:Addr) (o1:Obj),h1.get? x=some o1->o1.cls= .ref C->(∀c,o1.data≠ .cls c)->o1.dict=some dx->dx≠x->h1.Ns1 dx mA->o1.data=o.data->(∀b ob,b≠x->hp.get? b=some ob->h1.get? b=some ob)->(o.dict=some dx\/hp.objs.size<=dx)->
   wpAny (model prog w) A.in1 (storeInDict dx (.str name tk) name v) (λfin s'=>match fin with| .done f=>R (.ok f) s'| .again c'=>c'.quiet=true/\codeAny (model prog w) A c' R s') (λe s'=>R (.error e) s') ⟨h1,gn,dr,tn,os⟩:=by
  intro h1 dx o1 g1 g2 g3 g4 g5 g6 g7 g8 g9;unfold storeInDict newKeyGuard;refine a9 (aN<|a9<|wpAny_nsSet1 g6 λh' n' sb=> ?_)
  obtain⟨oD,eD,pD,q1,q2,q3⟩:=n'.count (Within.cons name v hw);have few:eD.size<=sizeLine:=by
   refine aI q3 ?_
   rw[jP,sizeLine_eq]
   lia
  refine a9 (wpAny_lookBehind q1 (by rw[q2];exact pastItsLine_dict (aM0 few)) ?_)
  have gx:h'.get? x=some o1:=(sb.2 x<|Ne.symm g5).trans g1;refine aN (hq h' _ ⟨o1,gx,g2,g3,.inr ⟨dx,g4,g5,n'⟩⟩ (λb ob k1 k2 k3=> ?_) λo0 k1=> ?_)
  .have nb:b≠dx:=by
    rcases g9 with z|z
    .exact k2 o dx hx z
    .intro q;have:=aW k3;rw[q]at this;exact absurd (aZ this z) (dI _)
   exact(sb.2 b nb).trans (g8 b ob k1 k3)
  .rw[hx]at k1;cases k1;exact⟨o1,gx,by rw[g2,hcl],g7,λdx' z=>by rw[g4]at z;cases z;exact g9⟩
 rcases hdd with⟨hn,hmA⟩| ⟨dx,hdx,hne,hns⟩
 .rw[hn];right;rw[a6<|by simp[typeHasDict]]
  have ex: ∀d':Data,d'=o.data->wpAny (model prog w) A.in1 (match d' with
     | .cls c=>pure none
     | _=>do
      let d<-alloc {cls:=Value.type "dict",data:=Data.dict #[]}
      update x λo=>{cls:=o.cls,dict:=some d,data:=o.data,slots:=o.slots}
      dictMade (Value.ref C) x d) (λa s'=>wpAny (model prog w) A.in1 (match a with|some d=>storeInDict d (.str name tk) name v|none=>noDictFor (.ref x) (.ref C) name (none:Option Value).isSome) (λfin s'=>match fin with| .done f=>R (.ok f) s'| .again c'=>c'.quiet=true/\codeAny (model prog w) A c' R s') (λe s'=>R (.error e) s') s') (λe s'=>R (.error e) s') ⟨hp,gn,dr,tn,os⟩:=by
   intro d' ed;split
   .rename_i c
    exact absurd ed.symm (hnc c)
   .have x1:(hp.push {cls:= .type "dict",data:= .dict #[]}).get? x=some o:=bC _ hx;have xs:x≠hp.objs.size:=bJ (aW hx);refine a9 (wpAny_alloc'<|a9<|wpAny_update' x1<|aN ?_);have alive:Obj.isFreed {cls:=o.cls,dict:=some hp.objs.size,data:=o.data,slots:=o.slots}=false:=by
     have:=(Heap.get?_some_iff.mp hx).2;obtain⟨c1,c2,c3,c4⟩:=o;cases c3<;>first|rfl|exact this
    have gd:((hp.push {cls:= .type "dict",data:= .dict #[]}).update x λo=>{cls:=o.cls,dict:=some hp.objs.size,data:=o.data,slots:=o.slots}).get? hp.objs.size=some {cls:= .type "dict",data:= .dict #[]}:=
     (a08 _ _ _ _<|Ne.symm xs).trans (Heap.get?_push_at rfl rfl)
    refine put _ hp.objs.size {cls:=o.cls,dict:=some hp.objs.size,data:=o.data,slots:=o.slots} (qI _ x1 alive) hcl hnc rfl (Ne.symm xs) ?_ rfl (λb ob k1 k2=>(a08 _ _ _ _ k1).trans (bC _ k2)) (.inr<|aD _)
    have e0:mA=λ_=>none:=funext hmA
    rw[e0];exact Heap.Ns1.of_empty ⟨_,#[],_,gd,rfl,λe he=>absurd he ae,λ_=>rfl⟩
  exact ex o.data rfl
 .rw[hdx];exact aN (put hp dx o hx hcl hnc hdx hne hns rfl (λb ob _ k=>k) (.inl hdx))
theorem xset {Q:Unit->Shared->Prop}(X:K.In s.heap)(hc:PySem.W.clsIn K C=some cd)(hm:vK cd.mro=true)(hdct:cd.hasDict=true)(hsa:PySem.W.findIn K (.ref C) "__setattr__"=some (some<|.builtin "object.__setattr__"))(ht:PySem.W.findIn K (.ref C) name=some none)
  (I:s.heap.Inst x C mA) (hw:Within mA ns) (hsz:ns.length<=100)
  (hq: ∀h' tk,h'.Inst x C (λy=>if y=name then some v else mA y)->(∀b o,b≠x->(∀o0 dx,s.heap.get? x=some o0->o0.dict=some dx->b≠dx)->s.heap.get? b=some o->h'.get? b=some o)->
   (∀o0,s.heap.get? x=some o0-> ∃o1,h'.get? x=some o1/\o1.cls=o0.cls/\o1.data=o0.data/\ ∀dx,o1.dict=some dx->o0.dict=some dx\/(s.heap.objs.size<=dx))->Q () {s with heap:=h',toks:=tk}) :
  wpAny (model prog w) A (setAttr (.ref x) name v) Q E s:=by
 have I':=I;obtain⟨o,hx,hcl,hnc,hdd⟩:=I;have J: ∃od,PySem.W.InstAt s.heap x o C od:=by
  rcases hdd with⟨e,_⟩| ⟨dx,e,_,od,es,ep,ge,_⟩
  .exact⟨none,hx,hcl,(by unfold notCls;split<;>first|rfl| (rename_i c q;exact absurd q (hnc c))),by rw[e];trivial⟩
  .exact⟨some od,hx,hcl,(by unfold notCls;split<;>first|rfl| (rename_i c q;exact absurd q (hnc c))),by rw[e];exact ge⟩
 obtain⟨od,J⟩:=J;refine PySem.W.set_plain X J hsa ?_;exact xosa (s:={s with toks:=s.toks+1}) X hc hm hdct ht I' hw hsz hx J λh' tk a b c=>hq h' tk a b c
end
inductive dT7 (K:PySem.W.Frag) (fI:Addr) (fd:FuncData) (f1 f2:Str):Prop
 | mk (oc:Value) (od:Option Addr) (nm qual:Str) (params:Arguments) (scope:Scope) (kV doc pm:Value) (an:Option Addr) (cdv ct:Value) (osl:Array (Option Value)) (x0 x1 x2:Str) (p1 p2 p3 p4 p5 p6 p7 p8:Pos)
  (_:fd=fnOf nm qual params [.Assign [.Attribute (.Name x0 p1) f1 p2] (.Name x1 p3) p4,.Assign [.Attribute (.Name x0 p5) f2 p6] (.Name x2 p7) p8] scope .none kV doc pm an cdv ct)
  (_:K.lookup fI=some ⟨oc,od,.func fd,osl⟩) (_:oc= .type "function") (_:codeIn K cdv qual=true) (_:aY [x0,x1,x2] [x0,x1,x2] scope)
  (_:scope.names.lookup x0=some .local) (_:scope.names.lookup x1=some .local) (_:scope.names.lookup x2=some .local) (_:(x0==("__debug__":Str))=false) (_:(x1==("__debug__":Str))=false) (_:(x2==("__debug__":Str))=false) (_:Binds K fd [x0,x1,x2] []):dT7 K fI fd f1 f2
structure bL1 (K:PySem.W.Frag)(C fI:Addr)(fd:FuncData)(f1 f2:Str):Prop where
 ex:dT7 K fI fd f1 f2
 cls: ∃cd,PySem.W.clsIn K C=some cd/\vK cd.mro=true/\cd.hasDict=true
 sa:PySem.W.findIn K (.ref C) "__setattr__"=some (some<|.builtin "object.__setattr__")
 n1:PySem.W.findIn K (.ref C) f1=some none
 n2:PySem.W.findIn K (.ref C) f2=some none
inductive Laid (C e:Addr) (f1 f2:Str) (v1 v2:V) (s s':Shared):Prop
 | mk (_:s'.os=s.os) (_:AllBare s'.gens) (_: ∀b o,s.heap.get? b=some o->s'.heap.get? b=some o) (oe:Obj) (t d:Addr) (w1 w2:Value) (_:s'.heap.get? e=some oe) (_:oe.cls= .ref C) (_:oe.data= .fields #[.ref t,.none,.none,.none,.bool false,.none]) (_:oe.dict=some d) (_:d≠e) (_:s.heap.get? d=none) (_:RelV v1 w1) (_:RelV v2 w2) (_:s'.heap.Ns1 d (λy=>if y=f2 then some w2 else if y=f1 then some w1 else none)):Laid C e f1 f2 v1 v2 s s'
section
variable {X:Cx}{pins:List (Addr×Obj)}{σ:St}{H:Hp}{s:Shared}{C fI e:Addr}{fd:FuncData}{f1 f2:Str}{h1:Heap}{u1 u2:Value}{v1 v2:V}{E:Value->Shared->Prop}{k:Nat}
theorem cU6 (T:bL1 X.K C fI fd f1 f2)(I:Inv X pins σ H s)(hr:jB (k+1) X.A)(mk:MadeExcOf s.heap h1 e (.ref C) [u1,u2])(r1:RelV v1 u1)(r2:RelV v2 u2) :
  wpAny (model X.prog X.w) (X.A.under<|.builtin "type.__call__" ⟨.ref C::[u1,u2],[]⟩) (call (.ref fI) (.ref e::[u1,u2])) (λr s'=>r= .none/\Laid C e f1 f2 v1 v2 s s') E {s with heap:=h1}:=by
 obtain⟨oc,od,nm,qual,params,scope,kV,doc,pm,an,cdv,ct,osl,x0,x1,x2,p1,p2,p3,p4,p5,p6,p7,p8,rfl,lk,_,hcd,S,l0,l1,l2,d0,d1,d2,hb⟩:=T.ex;obtain⟨cd,hc,hm,hdct⟩:=T.cls;have I1:Inv X pins σ H {s with heap:=h1}:=I.kept mk.keeps;have e0:=I1.env0.make C [u1,u2] [];have rm:=hr.make C [u1,u2] [];have KX:=I1.kIn;have lim:=I1.nolimit
 have us:Vals [V.ref e,v1,v2] [Value.ref e,u1,u2]:= .cons rfl (.cons r1<|.cons r2 .nil);have hkind: ∀y∈[x0,x1,x2].zip [Value.ref e,u1,u2],scope.names.lookup y.1=some .local\/(scope.names.lookup y.1=some .cell/\((cellsFrom (h1.objs.size+1) scope.names []).lookup y.1).isSome=true):=λ⟨n,v⟩ hy=>by
  have:=(a19 hy).1;simp at this;rcases this with rfl|rfl|rfl
  .exact .inl l0
  .exact .inl l1
  .exact .inl l2
 refine v9 ?_
 have bd:=hb {s with heap:=h1} [Value.ref e,u1,u2] KX rfl;rw[kO]at bd;refine codeAny_call_function rm.depth (KX _ _ lk) rfl S.co S.gen rfl (PySem.W.codeRec_of KX hcd) (bd _ _ _ _ ?_);refine wpAny_newFunctionEnv_cells S.kind hkind λenv he s2 x=> ?_
 subst he;refine⟨lim.keeps x.toInCall.keep,codeAny_func ?_⟩;have J:Inv (vB CX0 X.prog X.w X.K X.mg X.base [x0,x1,x2] qual scope fI cdv (X.A.under<|.builtin "type.__call__" ⟨.ref C::[u1,u2],[]⟩) X.stack {s with heap:=h1} H E0) [] (start [x0,x1,x2] [V.ref e,v1,v2]) H s2:=bO2 S rm.hd e0 rfl us x;obtain⟨m,hn,hl⟩:=J.loc
 have look: ∀(i:Nat) (y:Str) (v:V),[x0,x1,x2][i]? =some y->(start [x0,x1,x2] [V.ref e,v1,v2])[i]? =some (some v)->scope.names.lookup y=some .local-> ∃u,RelV v u/\m y=some u:=λi y v q1 q2 q3=>by
  obtain⟨u,r,lo⟩:=hl i y v q1 q2 (.inl q3);rcases lo with⟨_,hm⟩| ⟨z,_⟩
  .exact⟨u,r,hm⟩
  .have z':scope.names.lookup y=some .cell\/scope.names.lookup y=some .free:=z;rw[q3]at z';rcases z' with z'|z'<;>cases z'
 obtain⟨w0,q0,m0⟩:=look 0 x0 (.ref e) rfl rfl l0;obtain⟨w1,q1,m1⟩:=look 1 x1 v1 rfl rfl l1;obtain⟨w2,q2,m2⟩:=look 2 x2 v2 rfl rfl l2;obtain rfl:w0=Value.ref e:=q0;have kk:=J.ok.kind;have kin:X.K.In s2.heap:=KX.keeps x.toInCall.keep;obtain⟨t,t1,t2,t3⟩:=mk.there;have ge:s2.heap.get? e=some {cls:= .ref C,data:= .fields #[.ref t,.none,.none,.none,.bool false,.none]}:=x.toInCall.keep _ _ t1
 have eL:e≠h1.objs.size:=bJ (aW t1);have in0:s2.heap.Inst e C (λ_=>none):=⟨_,ge,rfl,(λc z=>by cases z),.inl ⟨rfl,λ_=>rfl⟩⟩
 refine uP (aI6<|oG (qN kk l1 hn m1<|oG (qN kk l0 hn m0 ?_) d0) d1)
 refine xset kin hc hm hdct T.sa T.n1 in0 (ns:=[]) (λn z=>absurd rfl z) ae λh3 tk3 in3 kp3 ob3=> ?_
 obtain⟨o3,g3,c3,dt3,dd3⟩:=ob3 _ ge;have keep3: ∀b o,b≠e->s2.heap.get? b=some o->h3.get? b=some o:=λb o n q=>kp3 b o n (λo0 dx z1 z2=>by rw[ge]at z1;cases z1;cases z2) q
 have hn3:h3.Ns h1.objs.size m:=by
  obtain⟨o,es,ep,z1,z2⟩:=hn;exact⟨o,es,ep,keep3 _ _ (Ne.symm eL) z1,z2⟩
 have keep3': ∀b o,s.heap.get? b=some o->h3.get? b=some o:=λb o q=>keep3 b o (λz=>by rw[z,mk.new]at q;cases q) (x.toInCall.keep _ _<|mk.keeps b o q)
 have kin3:X.K.In h3:=I.kIn.keeps keep3';refine uP (aI6<|oG (qN kk l2 hn3 m2<|oG (qN kk l0 hn3 m0 ?_) d0) d2);refine xset kin3 hc hm hdct T.sa T.n2 in3 (ns:=[f1]) (λn z=> ?_) ae λh4 tk4 in4 kp4 ob4=> ?_
 .by_cases c:n=f1
  .simp[c]
  .rw[a6 c]at z;exact absurd rfl z
 obtain⟨o4,g4,c4,dt4,dd4⟩:=ob4 _ g3;refine qY ?_;obtain⟨o5,g5,_,_,dd5⟩:=in4;rw[g4]at g5;cases g5;rcases dd5 with⟨_,no⟩| ⟨d,ed,de,nd⟩
 .have:=no f2;simp at this
 have dn:s.heap.get? d=none:=by
  cases q:s.heap.get? d with
  | none=>rfl
  | some o=>
   exfalso
   have a3:=aW (keep3' d o q);have a2:=aW (x.toInCall.keep _ _<|mk.keeps d o q);rcases dd4 d ed with z|z
   .rcases dd3 d z with z|z
    .cases z
    .exact absurd (aZ a2 z) (dI _)
   .exact absurd (aZ a3 z) (dI _)
 refine⟨rfl,J.os,J.bare,λb o q=> ?_,o4,t,d,w1,w2,g4,?_,?_,ed,de,dn,q1,q2,nd⟩
 .refine kp4 b o (λz=>by rw[z,mk.new]at q;cases q) (λo0 dx z1 z2=> ?_) (keep3' b o q)
  rw[g3]at z1;cases z1;rcases dd3 dx z2 with z|z
  .cases z
  .intro z';have:=aW (x.toInCall.keep _ _<|mk.keeps b o q);rw[z']at this;exact absurd (aZ this z) (dI _)
 .rw[c4,c3]
 .rw[dt4,dt3]
end
noncomputable def wW (K:PySem.W.Frag)(C fI:Addr)(bmB:List Value)(newId:String):Bool:=match K.lookup C with
 | some ⟨.type "type",_,.cls ck,sl⟩=>(match ck.mro,sl.toList with
  | .ref C2::tail,[_,_,_,_,some<|.builtin nid,_]=>C2==C&&nid==newId&& !ck.hasDel&&PySem.W.tailIn K bmB tail&&PySem.W.nsOkIn K ck.ns&&nsIn K ck.ns "__init__"==some (some<|.ref fI)
  | _,_=>false)
 | _=>false
theorem dM4 {N:Addr}{n:Str}(X:K.In h)(G:h.Ns N mg)(e:nsIn K N n=some (some v)):mg n=some v:=by
 obtain⟨ob,ents,np,look0,dat,_,find0⟩:=G;unfold nsIn at e;split at e
 .rename_i look
  have same:=X _ _ look;rw[look0]at same;cases same;cases dat;split at e
  .rename_i en found
   cases e;rw[<-find0];unfold nsFind findBy;rw[<-Array.find?_toList,found];rfl
  .split at e<;>cases e
 .cases e
inductive dT8 (h:Heap) (C fI:Addr) (bmB bm:List Value) (newId:String):Prop
 | mk (N:Addr) (mN:Str->Option Value) (o:XO h C N bm newId) (n:h.Ns N mN) (i:mN "__init__"=some (.ref fI)) (t:OwnTail h bmB bm):dT8 h C fI bmB bm newId
theorem bA9 (X:K.In h)(q:wW K C fI bmB newId=true): ∃bm,dT8 h C fI bmB bm newId:=by
 unfold wW at q;split at q
 .rename_i od ck slots look
  split at q
  .rename_i C2 tail a0 a1 a2 a3 nid a5 em es
   simp only[iI,iN,aL9]at q;obtain⟨⟨⟨⟨⟨rfl,rfl⟩,nodel⟩,tk⟩,nk⟩,ni⟩:=q;obtain⟨c1,c2,c3,c4,c5,c6,c7,c8,c9,c10,c11⟩:=ck;dsimp only at em nodel nk ni;subst em nodel;obtain⟨sll⟩:=slots;simp only at es;subst es;have nsk:h.Ns c4 (h.nsMap c4):= .of_isNs (PySem.W.isNs_of_in X nk);exact⟨tail,_,_,⟨_,_,_,_,_,_,_,_,_,_,_,_,_,_,X _ _ look⟩,nsk,dM4 X nsk ni,PySem.W.tail_of_in X tk⟩
  .cases q
 .cases q
section
variable {M:Model}{A:Around}{E:Value->Shared->Prop}{s:Shared}{env:Env}
variable {nm qn:Str}{C N:Addr}{bs bm:List Value}{hdd:Bool}{sn:List Str}{sub:List Value}{ab:Bool}{col:Option Bool}{dd:Option Addr}{k0 k1 k2 k3 k5:Option Value}{newId:String}
theorem xraise {x:Sem Value}{Q:Flow->Shared->Prop}(hbase:bm.contains (.type "BaseException")=true)(hh:A.handled=none)
  (h:wpAny M A x (λv s1=> ∃e oe vs,v= .ref e/\s1.heap.get? C=some (excClassObj nm qn C N bs bm hdd sn sub ab col dd k0 k1 k2 k3 k5 newId)/\s1.heap.get? e=some oe/\oe.cls= .ref C/\oe.data= .fields vs/\vs[1]? =some .none/\E (.ref e) s1) E s) :
  wpAny M A (raiseStmt env (some x) none) Q E s:=by
 have has:(Value.ref C::bm).contains (.type "BaseException")=true:=by rw[aL4,hbase,Bool.or_true]
 unfold raiseStmt;refine a9 (bK h (λv s1 z=> ?_) λ_ _ y=>y)
 obtain⟨e,oe,vs,rfl,hC,he,hcl,hdt,h1,hE⟩:=z;obtain⟨hp,gn,dr,tn,os⟩:=s1;obtain⟨oc,od,odt,osl⟩:=oe;dsimp only at hcl hdt;subst hcl hdt
 repeat (first
  | with_reducible refine o8 he ?_
  | with_reducible refine o8 hC ?_
  | (with_reducible refine a09 hC ?_;rw[has])
  | wp_step)
 rw[h1];refine aN (aN ?_);exact wpAny_raiseNew_none hh hE
end
section
variable {P:Program}{w:World}{H:Hp}{h h':Heap}{a:Addr}{o:HO}{fs ex:List Addr}
theorem HOk.laidN (x:HOk P w H h)(k: ∀b u,h.get? b=some u->h'.get? b=some u)(hn:H a=none)(new:qA P w (upd H a o) h' a o):HOk P w (upd H a o) h':=λb u e=>by
 by_cases hb:b=a
 .subst hb;rw[jH]at e;cases e;exact new
 .rw[cW hb]at e;exact(x b u e).stay (λc v _ q=>k c v q) (λc q=>by rw[cW<|dN q hn];exact q) λc xs q=>by rw[cW<|dN q hn];exact q
theorem Un.laidN (k: ∀b u,h.get? b=some u->h'.get? b=some u)(hp:h.get? a=none)(hn:H a=none):Un fs ex H (upd H a o) h h' where
 keep:=λb u q _ _ _=>k b u q
 slot:=λb u q _ _ _=>⟨u.slots,k b u q⟩
 free:=λb u q n _=>by rw[cW (λz=>by rw[z,hp]at q;cases q)];exact n
 there:=λb u q _=>⟨u,k b u q⟩
 tups:=λb xs q=>by rw[cW<|dN q hn];exact q
 frzs:=λb u xs q=>by rw[cW<|dN q hn];exact q
 tbls:=λb ps q=>⟨#[],by rw[cW<|dN q hn,q];simp⟩
end
theorem d60 {w1 w2:V}(r:Vals [w1,w2] us): ∃u1 u2,us=[u1,u2]/\RelV w1 u1/\RelV w2 u2:=by
 cases r with
 | cons a r=>
  cases r with
  | cons b r=>
   cases r;exact⟨_,_,rfl,a,b⟩
section
variable {X:Cx}{E:XK}{C fI:Addr}
def dM5 (C:Addr)(f1 f2:Str)(E:XK)(ta:TA):TS:=λ_ σ H=>ta σ H λvs H1=> ∃v1 v2,vs=[v1,v2]/\ ∀d,H1 d=none->E (.ref C) (some d) (upd H1 d<|.xd [(f1,v1),(f2,v2)])
theorem cU7 {x:Str}{np cpos pos:Pos}{e1 e2:Expr}{ta:TA}{B newId initId:String}{bmB:List Value}{fd:FuncData}{f1 f2:Str}{k:Nat}(FB:ExcBaseFacts B newId initId bmB)(q:wW X.K C fI bmB newId=true)(T:bL1 X.K C fI fd f1 f2)(hr:jB (k+1) X.A)(hg:Gl X x)(hm:X.mg x=some (.ref C))(hc:X.calm=true)(ha:PA X [e1,e2] ta)(th:bA7 X E C)(hne:f1≠f2)
  (he:↥(starEach [e1,e2] X.env=(false,eval e1 X.env)::starEach [e2] X.env)) (hpl:↥((backTo cpos<|starEach [e2] X.env).any (·.1)=false)) (hd:⇑((x==("__debug__":Str))=false)) (hex:↥(X.ex=[])) :
  PS X (.Raise (some<|.Call (.Name x np) [e1,e2] [] cpos) none pos) (dM5 C f1 f2 E ta):=by
 intro pins s σ H D I h;obtain⟨bm,N,mN,⟨nm,qn,bs,hdd,sn,sub,ab,col,dd,k0,k1,k2,k3,k5,hC⟩,hN,hni,tl⟩:=bA9 I.mod.kin q;have keepS: ∀{pins:List (Addr×Obj)} {σ:St} {H:Hp} {s2:Shared},Inv X pins σ H s2-> ∀b o,X.base.get? b=some o->s2.heap.get? b=some o:=λJ=>J.bk
 rw[arm_exec_Raise];refine a9 (rF<|xraise (C:=C) (nm:=nm) (qn:=qn) (N:=N) (bs:=bs) (bm:=bm) (hdd:=hdd) (sn:=sn) (sub:=sub) (ab:=ab) (col:=col) (dd:=dd) (k0:=k0) (k1:=k1) (k2:=k2) (k3:=k3) (k5:=k5) (newId:=newId) (tl.hasType FB.hasBase) (I.ok.hd hc) ?_);refine a9 (bK (wpAny_Call_ofName<|nP I hg hm ?_ hd) (λv s3 h3=>a9 (rF<|aN h3)) λ_ _ z=>z)
 have plain:(backTo cpos<|starEach [e1,e2] X.env).any (·.1)=false:=by
  rw[he];show(false||(backTo cpos<|starEach [e2] X.env).any (·.1))=false;rw[hpl];rfl
 have hh:=ha cpos pins s σ H _ I h;unfold callWith;rw[he]at hh plain⊢;refine a9 (iJ<|aK7<|bK hh (λus s2 z=>a9 (rF ?_)) λ_ _ z=>z)
 obtain⟨vs,H1,I1,r1,w1,w2,rfl,hE⟩:=z;simp only[plain];have hC2:=keepS I1 _ _ hC;obtain⟨u1,u2,rfl,q1,q2⟩:=d60 r1;obtain⟨oc,od,_,_,_,_,_,_,_,_,_,_,osl,_,_,_,_,_,_,_,_,_,_,_,efd,lk,oce,_⟩:=T.ex;have gf:=I1.kIn _ _ lk;obtain⟨hp,gn,dr,tn,os⟩:=s2;refine a9 (wpAny_keeperOf_exc hC2 ?_);refine a9 (xcall FB (tl.keeps<|keepS I1) hC2 (hN.keeps<|keepS I1) hni gf oce (λh' a mk=> ?_) (by simp;decide))
 refine bK (cU6 T I1 hr mk q1 q2) (λr s' z=> ?_) λ_ _ z=>z
 obtain⟨rfl,z1,z2,z3,oe,t,d,y1,y2,z4,z5,z6,ed,de,dn,x1,x2,nd⟩:=z;refine⟨rfl,a9<|iJ<|wpAny_point<|aN ?_⟩;have dH:H1 d=none:=I1.hok.there dn;have I2:Inv X pins σ (upd H1 d<|.xd [(f1,w1),(f2,w2)]) s':=by
  obtain⟨hp',gn',dr',tn',os'⟩:=s';obtain rfl:os'=os:=z1;refine I1.call (h':=hp') (g':=gn') (d':=dr') (t':=tn') (ch:=[]) (Un.laidN z3 dn dH) (I1.hok.laidN z3 dH ?_) z2 (λb z=>absurd z ae)
  refine⟨_,nd,λf=> ?_⟩
  simp only[dG,List.lookup_nil]
  by_cases c1:f=f1
  .subst c1;rw[aM4,a6 hne,a7 rfl];exact x1
  .rw[show(f==f1)=false from qP.mpr c1]
   by_cases c2:f=f2
   .subst c2;rw[aM4,a7 rfl];exact x2
   .rw[show(f==f2)=false from qP.mpr c2,a6 c2,a6 c1]
    exact trivial
 refine⟨a,oe,_,rfl,z3 _ _ hC2,z4,z5,z6,rfl,?_⟩
 refine th pins σ _ s' a oe _ (.ref t) (some d) I2 z4 z5 z6 rfl rfl (by rw[cW<|Ne.symm de];exact I1.hok.there mk.new) ?_ (λd' e=>by cases e;exact⟨oe,z4,ed⟩) (hE d dH)
 cases r:X.s₀.heap.get? a with
 | none=>rfl
 | some o=>
  obtain⟨o',q'⟩:=I1.base.there a o r (by rw[hex];simp)
  rw[mk.new]at q';cases q'
end
end L2
namespace M
abbrev XP:=Str->List D->Prop
abbrev ΦX:=List D->(B->Prop)->XP->Prop
noncomputable def aA4 (n:Str):List Str:=if n="FallsApart" then ["left","right"]else if n="NotWhole" then ["prime","number"]else []
noncomputable def XR (K:PySem.W.Frag)(A:AS)(H:Hp)(n:Str)(ds:List D):Option Addr->Prop
 | none=>aA4 n=[]
 | some d=> ∃vs,¬A d/\H d=some (.xd<|(aA4 n).zip vs)/\(aA4 n).length=vs.length/\cD K A H ds vs
theorem XR.mono {K:PySem.W.Frag}{A A':AS}{H H':Hp}{n:Str}{ds:List D}(p:nE A H A' H'): ∀{o:Option Addr},XR K A H n ds o->XR K A' H' n ds o
 | none,h=>h
 | some d,⟨vs,h1,h2,h3,h4⟩=>⟨vs,(p d _ h1 h2).1,(p d _ h1 h2).2,h3,h4.mono p⟩
noncomputable def spX (K:PySem.W.Frag)(mg:Str->Option Value)(φ:ΦX):Sp:=λvs H Q E=> ∃A ds Q0 Ex,(∀a,A a->H a≠none)/\cD K A H ds vs/\φ ds Q0 Ex/\(∀b v H',Q0 b->iV H H'->rK K A H H' b v->Q v H')/\ ∀n C es o H',Ex n es->mg n=some (.ref C)->iV H H'->XR K A H' n es o->E (.ref C) o H'
structure FnX (P:Program)(w:World)(K:PySem.W.Frag)(mg:Str->Option Value)(base:Heap)(x:Str)(ps:List Str)(k:Nat)(φ:ΦX):Prop where
 ex: ∃f fd,wS P w K mg base (CXr P w base) k f fd ps (spX K mg φ)/\Binds K fd ps []/\keepIn K (.ref f)=true/\mg x=some (.ref f)
abbrev USX:=XP->US
def lSX (K:PySem.W.Frag)(mg:Str->Option Value)(E:XK)(t:USX):TS:=λD σ H=> ∃C ρ D0 Ex,EOk K C ρ σ H/\t Ex D0 ρ/\DOk K C D0 D/\ ∀n Cl es o H',Ex n es->mg n=some (.ref Cl)->iV C.H0 H'->XR K C.A0 H' n es o->E (.ref Cl) o H'
def bW6 (X:Cx)(E:XK)(st:Stmt)(t:USX):Prop:=PS X st (lSX X.K X.mg E t)
def a77 (X:Cx)(E:XK)(sts:List Stmt)(t:USX):Prop:=PSs X sts (lSX X.K X.mg E t)
section
variable {X:Cx}{E:XK}{st:Stmt}{sts:List Stmt}{t u:USX}{e:Expr}{es:List Expr}{pos:Pos}
theorem aR5 {t:US}(h:PUS X st t):bW6 X E st (λ_=>t):=tO h λD σ H ⟨C,ρ,D0,Ex,I,h,k,_⟩=>⟨C,ρ,D0,I,h,k⟩
theorem d61 {t:US}(h:pG X sts t):a77 X E sts (λ_=>t):=b91 h λD σ H ⟨C,ρ,D0,Ex,I,h,k,_⟩=>⟨C,ρ,D0,I,h,k⟩
theorem bW7 (h1:bW6 X E st t)(h2:a77 X E sts u):a77 X E (st::sts) (λEx=>aQ (t Ex) (u Ex)):=
 b91 (yW h1 h2) λD σ H ⟨C,ρ,D0,Ex,I,h,k,kx⟩=>⟨C,ρ,{D0 with nx:=u Ex D0},Ex,I,h,⟨λρ' σ' H' q I'=>⟨C,ρ',D0,Ex,I',q,k,kx⟩,k.rt,k.bk,k.ct⟩,kx⟩
theorem bB0 (h1:bW6 X E st t):a77 X E [st] t:=bT7 h1
theorem cH4:a77 X E [] (λ_=>cX):=d61 bV1
theorem d62 {a b:List Stmt}{tc:UT}(hc:PUT X c tc)(ha:a77 X E a t)(hb:a77 X E b u):bW6 X E (.If c a b pos) (λEx=>fE tc (t Ex) (u Ex)):=
 tO (dS8 hc ha hb) λD σ H ⟨C,ρ,D0,Ex,I,h,k,kx⟩=>⟨C,ρ,_,I,h,λc ρ1 H1 q f s=>by
  have I1:=(I.frz f).same s;cases c with
  | true=>
   dsimp only at q⊢;rw[a7 rfl]at q⊢;exact⟨C,ρ1,D0,Ex,I1,q,k,kx⟩
  | false=>
   dsimp only at q⊢;rw[a6 ac]at q⊢
   exact⟨C,ρ1,D0,Ex,I1,q,k,kx⟩⟩
def bW8 (φ:ΦX)(t:UA)(Ex:XP):UE:=λρ Q=>t ρ λds ρ1=>φ ds (λb=>Q b ρ1) Ex
theorem spX_of {φ:ΦX}{C:C0}{ρ ρ1:Ev}{σ:L2.St}{H H1:Hp}{ds:List D}{vs:List V}{Q0:B->Prop}{Ex:XP}{Q:VK}(I:EOk X.K C ρ σ H)(f:Frz ρ ρ1)(s:iV H H1)(r:cD X.K (Av C ρ1 σ) H1 ds vs)(q:φ ds Q0 Ex)(kq: ∀b v H',Q0 b->iV H1 H'->rK X.K (Av C ρ1 σ) H1 H' b v->Q v H')(kx: ∀n Cl es o H',Ex n es->X.mg n=some (.ref Cl)->iV C.H0 H'->XR X.K C.A0 H' n es o->E (.ref Cl) o H'):spX X.K X.mg φ (vs++[]) H1 Q E:=by
 have I1:=(I.frz f).same s;rw[kO];exact⟨Av C ρ1 σ,ds,Q0,Ex,λa z=>I1.avSome z,r,q,kq,λn Cl es o H' ex hm s' x=>kx n Cl es o H' ex hm (I1.ext.trans s') (x.mono<|.sub (.refl _) λa z=> .inl z)⟩
theorem cN2 {ps:List Str}{φ:ΦX}{t:UA}(F:FnX X.prog X.w X.K X.mg X.base x ps k φ)(hr:jB k' X.A)(hk:k<=k')(hp:aM8 (CXr X.prog X.w X.base) X E)(hg:Gl X x)(ha:PUA X (e::es) t)(hdb:⇑((x==("__debug__":Str))=false))
  (he:↥(starEach (e::es) X.env=(false,eval e X.env)::starEach es X.env)) (hpl:↥((backTo cpos<|starEach es X.env).any (·.1)=false)) (hs:↥(swapsWith (.Call (.Name x p) (e::es) [] cpos) none pos.line X.env=pure false)) :
  bW6 X E (.Expr (.Call (.Name x p) (e::es) [] cpos) pos) (λEx=>aQ9 (bW8 φ t Ex)):=by
 obtain⟨f,fd,G,b,kp,m⟩:=F.ex;exact tO (bT8 (cM0 G (hr.mono hk) hg m kp b .nil hp ha hdb he hpl) hs) λD σ H ⟨C,ρ,D0,Ex,I,h,k,kx⟩=>⟨C,ρ,_,I,h,λds ρ1 vs H1 q f s r=>spX_of I f s r q (λb v H' q' s' r'=>k.nx _ _ _ q' (((I.frz f).same s).same s')) kx⟩
def bW9 (x:Str)(t:UA)(Ex:XP):US:=λ_ ρ=>t ρ λds _=>ds.length<=sizeLine/\Ex x []
theorem lRaise {t:UA}(hm:X.mg x=some (.ref C))(hk:aA4 x=[])(D:aX8)(σ:L2.St)(H:Hp)(h:lSX X.K X.mg E (λEx=>bW9 x t Ex) D σ H):d58 C E (lA X.K t) D σ H:=by
 obtain⟨C0,ρ,D0,Ex,I,h,k,kx⟩:=h;exact⟨C0,ρ,_,I,h,λds ρ1 vs H1 q f s r=>⟨by rw[<-r.length];exact q.1,kx x C [] none H1 q.2 hm (I.ext.trans s) hk⟩⟩
def aR6 (x:Str)(t1 t2:UE)(Ex:XP):US:=λ_ ρ=>t1 ρ λa ρ1=>t2 ρ1 λb _=>Ex x [a.d,b.d]
theorem d63 {t:UA}{B:String}(FB:ExcBaseFacts B newId initId bmB)(q:excIn X.K C bmB newId=true)(hg:Gl X x)(hm:X.mg x=some (.ref C))(hc:X.calm=true)(ha:PUA X (e::es) t)(th:bA7 X E C)(hk:aA4 x=[])
  (he:↥(starEach (e::es) X.env=(false,eval e X.env)::starEach es X.env)) (hpl:↥((backTo cpos<|starEach es X.env).any (·.1)=false)) (hd:⇑((x==("__debug__":Str))=false)) (hex:↥(X.ex=[])) :
  bW6 X E (.Raise (some<|.Call (.Name x np) (e::es) [] cpos) none pos) (λEx=>bW9 x t Ex):=tO (d59 FB q hg hm hc ha th he hpl hd hex) (lRaise hm hk)
theorem bQ3 {e1 e2:Expr}{t1 t2:UE}{B:String}(FB:ExcBaseFacts B newId initId bmB)(q:wW X.K C fI bmB newId=true)(T:bL1 X.K C fI fd f1 f2)(hr:jB (k+1) X.A)(hg:Gl X x)(hm:X.mg x=some (.ref C))(hc:X.calm=true)(ha:PUA X [e1,e2] (a8 t1<|a8 t2 aP))(th:bA7 X E C)(hk:aA4 x=[f1,f2])(hne:f1≠f2)
  (he:↥(starEach [e1,e2] X.env=(false,eval e1 X.env)::starEach [e2] X.env)) (hpl:↥((backTo cpos<|starEach [e2] X.env).any (·.1)=false)) (hd:⇑((x==("__debug__":Str))=false)) (hex:↥(X.ex=[])) :
  bW6 X E (.Raise (some<|.Call (.Name x np) [e1,e2] [] cpos) none pos) (λEx=>aR6 x t1 t2 Ex):=by
 refine tO (cU7 FB q T hr hg hm hc ha th hne he hpl hd hex) λD σ H ⟨C0,ρ,D0,Ex,I,h,k,kx⟩=> ?_
 refine⟨C0,ρ,λds _=> ∃a b,ds=[a,b]/\Ex x ds,I,?_,λds ρ' vs H' ⟨a,b,q1,q2⟩ f s r=> ?_⟩
 .have e9: ∀(z y:M.B) (ρ2:Ev),(∃a b,[z.d,y.d]=[a,b]/\Ex x [z.d,y.d])=Ex x [z.d,y.d]:=λz y ρ2=>propext ⟨λ⟨_,_,_,w⟩=>w,λw=>⟨_,_,rfl,w⟩⟩
  show t1 ρ λz ρ1=>t2 ρ1 λy ρ2=> ∃a b,[z.d,y.d]=[a,b]/\Ex x [z.d,y.d]
  have:=h;unfold aR6 at this;simp only[e9 _ _ ρ];exact this
 .subst q1;obtain⟨v1,vr,rfl,r1,r2⟩:=r.uncons;obtain⟨v2,vr2,rfl,r3,r4⟩:=r2.uncons;cases r4.unnil;refine⟨v1,v2,rfl,λd hd=> ?_⟩
  have I1:=(I.frz f).same s;have s2:iV H' (upd H' d<|.xd [(f1,v1),(f2,v2)]):=λb o z=>by rw[cW<|dN z hd];exact z
  have na: ∀a,C0.A0 a->a≠d:=λa z e=>I1.avSome (.inl z) (by rw[e];exact hd)
  refine kx x C _ (some d) _ q2 hm (I1.ext.trans s2) ⟨[v1,v2],λz=>na d z rfl,?_,by rw[hk];rfl,(cD.cons r1<|.cons r3 .nil).mono λb o n z=>⟨λw=>n (.inl w),s2 b o z⟩⟩
  rw[jH,hk];rfl
theorem d64 {st:Stmt}{ps:List Str}{φ:ΦX}(F:Fun K x qual st f fd)(S:aY N ps (aG st))
  (len: ∀ds Q Ex,φ ds Q Ex->ds.length=ps.length) {t:USX}
  (der: ∀(cdv:Value) (A:Around) (outer:List Env) (s:Shared) (H:Hp) (E:XK),jB k (A.deeper<|envOfC qual (aG st) s.heap.objs.size f cdv)->a77 (vB (CXr P w base) P w K mg base N qual (aG st) f cdv A outer s H E) E (eX st) t)
  (rd: ∀ds Q Ex,φ ds Q Ex->t Ex {nx:=λ_=>Q (.pu .non),rt:=Q} (init N ds)) :
  wS P w K mg base (CXr P w base) (k+1) f fd ps (spX K mg φ):=by
 obtain⟨oc,od,kV,doc,pm,an,cdv,ct,osl,rfl,lk,hcd⟩:=F.ex;refine d11 lk hcd S (λvs H Q E h=> ?_) λA outer s H vs Q E hr h=> ?_
 .obtain⟨A,ds,Q0,Ex,_,r,h,_⟩:=h;rw[<-r.length];exact len ds Q0 Ex h
 .obtain⟨A',ds,Q0,Ex,hA,r,h,q,qx⟩:=h;refine⟨_,der cdv A outer s H E hr,⟨H,A'⟩,init N ds,_,Ex,bV5 hA r,rd ds Q0 Ex h,⟨λρ σ H' z I=> ?_,λb v H' z s r=>q b v H' z s r,λ_ _ _ z=>z.elim,λ_ _ _ z=>z.elim⟩,qx⟩
  exact q _ _ H' z I.ext (show Rep _ _ _ _ _ by simp only[Rep])
theorem FnX.mk' {st:Stmt}{ps:List Str}{φ:ΦX}(F:Fun K x qual st f fd)(m:mg x=some (.ref f))(b:Binds K fd ps [])(S:aY N ps (aG st))
  (len: ∀ds Q Ex,φ ds Q Ex->ds.length=ps.length) {t:USX}
  (der: ∀(cdv:Value) (A:Around) (outer:List Env) (s:Shared) (H:Hp) (E:XK),jB k (A.deeper<|envOfC qual (aG st) s.heap.objs.size f cdv)->a77 (vB (CXr P w base) P w K mg base N qual (aG st) f cdv A outer s H E) E (eX st) t)
  (rd: ∀ds Q Ex,φ ds Q Ex->t Ex {nx:=λ_=>Q (.pu .non),rt:=Q} (init N ds)):FnX P w K mg base x ps (k+1) φ:=
 ⟨f,fd,d64 F S len der rd,b,F.kp,m⟩
end
end M
section
namespace L2
section
variable {X:Cx}{pins:List (Addr×Obj)}{σ:St}{H:Hp}{s:Shared}{h':Heap}{e:Addr}
theorem Inv.past (I:Inv X pins σ H s)(p:bL0 (frs X.stack) e s.heap h')(hstk:X.stack=X.env::X.outer)(hfr:X.env.frame=some X.env.locals)(hex:X.ex=[])(gs: ∀b o,X.s₀.heap.get? b=some o-> ∃o',g.get? b=some o')(gp: ∀q∈X.pn++pins,∃o',g.get? q.1=some o')(ne:g.get? e=none)(nt: ∀T,Tr s.heap e T->g.get? T=none)(he:H e=none)(ht: ∀T,Tr s.heap e T->H T=none):Inv X pins σ H {s with heap:=h'}:=by
 have none0: ∀b,g.get? b=none->X.s₀.heap.get? b=none:=λb q=>by
  cases r:X.s₀.heap.get? b with
  | none=>rfl
  | some o=>obtain⟨o',q'⟩:=gs b o r;rw[q]at q';cases q'
 have fm: ∀b∈frs X.stack,b=X.env.locals\/b∈X.fs:=λb hb=>by
  rw[hstk]at hb;unfold Cx.fs;unfold frs at hb⊢;rw[jO,hfr]at hb;exact bB.mp hb
 have hL:X.s₀.heap.get? X.env.locals=none:=lF I.ok.above;have hd: ∀b∈X.fs,∀o,s.heap.get? b=some o-> ∀vs,o.data≠ .fields vs:=λb hb o q=>by
  have fl:=I.stack;rw[hstk]at fl;obtain⟨_,o',q',n⟩:=fl.mem (b:=b) (by
   unfold Cx.fs frs at hb;rw[jO,hfr];exact bB.mpr (.inr hb))
  rw[q]at q';cases q';exact n
 have hb0:=I.base;rw[hex]at hb0;have un:=hb0.past p fm hL (none0 e ne) (λT q=>none0 T (nt T q)) hd
 have cellS: ∀c v,s.heap.IsCell c v->h'.IsCell c v:=λc v ⟨o,q1,q2⟩=>by
  obtain⟨sl,q3⟩:=p.slot c o q1 (λvs z=>by rw[q2]at z;cases z)
  exact⟨_,q3,q2⟩
 refine⟨I.ok,I.os,I.bare,by rw[hex];exact un,?_,λx c q=> ?_,I.free,I.freeC,λq hq=> ?_,I.hok.past p I.stkFree he ht,I.len⟩
 .obtain⟨m,hn,hl⟩:=I.loc;refine⟨m,p.slot.ns hn,λi x v a b c=> ?_⟩
  obtain⟨u,r,lo⟩:=hl i x v a b c;refine⟨u,r,?_⟩;rcases lo with z| ⟨z1,c,z2,z3⟩
  .exact .inl z
  .exact .inr ⟨z1,c,z2,cellS c _ z3⟩
 .obtain⟨v,z⟩:=I.cell x c q;exact⟨v,cellS c v z⟩
 .obtain⟨z1,z2,z3,z4,z5⟩:=I.pin q hq;obtain⟨o',g1⟩:=gp q hq;refine⟨p.keep q.1 q.2 z1 (λz=> ?_) (λz=>by rw[z,ne]at g1;cases g1) (λz=>by rw[nt _ z]at g1;cases g1),z2,z3,z4,z5⟩
  rcases fm _ z with y|y
  .exact z3 y
  .exact z4 y
end
noncomputable abbrev Cx.inX (X:Cx)(e:Addr):Cx:={X with A:=X.A.mark (some<|.ref e),calm:=false,xe:=λ_ _=>False}
theorem Cx.Ok.inX {X:Cx}(ok:X.Ok)(e:Addr):(X.inX e).Ok:=
 ⟨ok.mod,ok.kind,ok.glob,ok.blt,ok.above,ok.inj,ok.has,ok.cab,(λz=>by cases z),ok.frames,ok.stk,ok.exf,ok.bs,ok.bsz,ok.noex,ok.exfs,ok.funs,ok.frf⟩
section
variable {X:Cx}{pins:List (Addr×Obj)}{σ:St}{H:Hp}{s:Shared}{e:Addr}
theorem Inv.inX (I:Inv X pins σ H s)(e:Addr):Inv (X.inX e) pins σ H s:=⟨I.ok.inX e,I.os,I.bare,I.base,I.loc,I.cell,I.free,I.freeC,I.pin,I.hok,I.len⟩
theorem Cx.Ok.outX {X:Cx}{Y:Cx}(okY:Y.Ok){e:Addr}(ok:(X.inX e).Ok)(hd:X.calm=true->X.A.handled=none):X.Ok:=
 ⟨ok.mod,ok.kind,ok.glob,ok.blt,ok.above,ok.inj,ok.has,ok.cab,hd,ok.frames,ok.stk,ok.exf,ok.bs,ok.bsz,ok.noex,ok.exfs,ok.funs,ok.frf⟩
theorem Inv.outX (I:Inv (X.inX e) pins σ H s)(hd:X.calm=true->X.A.handled=none):Inv X pins σ H s:=⟨I.ok.outX I.ok hd,I.os,I.bare,I.base,I.loc,I.cell,I.free,I.freeC,I.pin,I.hok,I.len⟩
theorem SP.outX {D:aX8}{f:Flow}(h:SP (X.inX e) pins D f s')(hd:X.calm=true->X.A.handled=none):SP X pins D f s':=by
 cases f with
 | next=>obtain⟨σ',H',I,q⟩:=h;exact⟨σ',H',I.outX hd,q⟩
 | brk=>obtain⟨σ',H',I,q⟩:=h;exact⟨σ',H',I.outX hd,q⟩
 | cont=>obtain⟨σ',H',I,q⟩:=h;exact⟨σ',H',I.outX hd,q⟩
 | ret u=>obtain⟨v,σ',H',I,r,q⟩:=h;exact⟨v,σ',H',I.outX hd,r,q⟩
end
theorem bQ2.past {fs:List Addr}{e:Addr}(n:bQ2 g e h)(p:bL0 fs e h h')(gh: ∀b o,g.get? b=some o-> ∃o',h.get? b=some o')(hf: ∀b∈fs,∀o,h'.get? b=some o-> ∀vs,o.data≠ .fields vs):bQ2 g e h':=by
 refine⟨n.he,λT q=> ?_⟩
 rcases p.tr T q with z|z|z|z
 .obtain⟨o,vs,q1,q2⟩:=p.rcd T q;exact absurd q2 (hf T z o q1 vs)
 .rw[z];exact n.he
 .exact n.ht T z
 .cases r:g.get? T with
  | none=>rfl
  | some o=>obtain⟨o',q'⟩:=gh T o r;rw[z]at q';cases q'
theorem bB1 {fs:List Addr}{e:Addr}(n:bQ2 g e h)(p:bL0 fs e h h')(gh: ∀b o,g.get? b=some o-> ∃o',h.get? b=some o')(hf: ∀b∈fs,∀o,h.get? b=some o-> ∀vs,o.data≠ .fields vs): ∀b o,g.get? b=some o-> ∃o',h'.get? b=some o':=λb o q=>by
 obtain⟨o',q'⟩:=gh b o q
 by_cases c:b∈fs
 .obtain⟨sl,z⟩:=p.slot b o' q' (hf b c o' q');exact⟨_,z⟩
 .exact⟨o',p.keep b o' q' c (λz=>by rw[z,n.he]at q;cases q) λz=>by rw[n.ht b z]at q;cases q⟩
theorem dM6 {l:List Env}(f:h.FunFrames base l): ∀b∈frs l,∀o,h.get? b=some o-> ∀vs,o.data≠ .fields vs:=λb hb o q=>by
 obtain⟨_,o',q',n⟩:=f.mem (b:=b) hb;rw[q]at q';cases q';exact n
def aA5 (CX:CXT)(X:Cx)(E:XK)(pins:List (Addr×Obj))(σ:St):Prop:= ∀(H:Hp) (s:Shared) (e:Value) (s':Shared),Inv X pins σ H s->CX X.stack H s E e s'->X.xe e s'
def xX (K:PySem.W.Frag)(R C:Addr)(bmB:List Value)(newId:String):Prop:=(excIn K C bmB newId=true\/ ∃fI,wW K C fI bmB newId=true)/\ ∃cd,PySem.W.clsIn K C=some cd/\cd.mro.contains (.ref R)=true
def m8 (K:PySem.W.Frag)(R C:Addr)(bmB:List Value)(newId:String)(b:Bool):Prop:=(excIn K C bmB newId=true\/ ∃fI,wW K C fI bmB newId=true)/\ ∃cd,PySem.W.clsIn K C=some cd/\cd.mro.contains (.ref R)=b
theorem d65 {N:Addr}{bm:List Value}{cd:ClassData}(X:K.In h)
  (o:XO h C N bm newId) (hc:PySem.W.clsIn K C=some cd):cd.mro=Value.ref C::bm:=by
 cases o with|mk _ _ _ _ _ _ _ _ _ _ _ _ _ _ hC;unfold PySem.W.clsIn at hc;split at hc
 .rename_i look
  have same:=X _ _ look;rw[hC]at same;cases hc
  injection same with same
  injection same with _ _ same _
  injection same with same
  rw[<-same]
 .cases hc
theorem underB {R:Addr}{b:Bool}(X:K.In h)(u:m8 K R C bmB newId b): ∃N bm,XO h C N bm newId/\(Value.ref C::bm).contains (.ref R)=b:=by
 obtain⟨a,cd,hc,hr⟩:=u;rcases a with a| ⟨fI,a⟩
 .obtain⟨bm,N,_,o,_⟩:=bW5 X a;exact⟨N,bm,o,by rw[<-d65 X o hc];exact hr⟩
 .obtain⟨bm,N,_,o,_⟩:=bA9 X a;exact⟨N,bm,o,by rw[<-d65 X o hc];exact hr⟩
section
variable {X:Cx}{CX:CXT}{k:Nat}{f C:Addr}{fd:FuncData}{ps:List Str}{sp:Sp}{dvs:List V}{ds:List Value}{E:XK}{x:Str}{p pos:Pos}{e:Expr}{es:List Expr}{t:TA}
theorem cU8 {pins:List (Addr×Obj)}{σ:St}{H:Hp}{s:Shared}{Q:VK}{us:List Value}{vs:List V}(M:Mk X.K C f)(F:wS X.prog X.w X.K X.mg X.base CX k f fd ps sp)(hr:jB (k+1) X.A)(hb:Binds X.K fd ps [])
  (hx:aA5 CX X E pins σ) (I:Inv X pins σ H s) (r:Vals vs us)
  (h: ∀x dx,H x=none->H dx=none->dx≠x->sp (.ref x::vs) (upd (upd H dx<|.own x) x<|.ins C dx []) (λv H2=>v= .non/\Q (.ref x) H2) E) :
  wpAny (model X.prog X.w) X.A (call (.ref C) us) (EP X pins σ Q) X.xe s:=by
 have hq:=h (s.heap.objs.size+1) s.heap.objs.size (I.hok.fresh<|a33 _) (I.hok.fresh<|aD _) (bJ<|uQ _);have I2:=Inv.made (C:=C) I;have r2:Vals (V.ref (s.heap.objs.size+1)::vs) (Value.ref (s.heap.objs.size+1)::us):= .cons rfl r;have hl:(Value.ref (s.heap.objs.size+1)::us++[]).length=ps.length:=by
  have e:=r2.length;rw[F.len _ _ _ _ hq]at e;rw[kO];exact e.symm
 have bd:=hb (s:={s with heap:=(s.heap.push {cls:= .type "dict",data:= .dict #[]}).push (instObj C s.heap.objs.size)}) (Value.ref (s.heap.objs.size+1)::us) I2.kIn hl;rw[kO]at bd;refine v9 (d06 (f:=f) I.kIn M.makes M.init (iN.mp M.fn) (a24 (F.run _ X.stack _ _ ⟨Value.ref (s.heap.objs.size+1)::us,[]⟩ (Value.ref (s.heap.objs.size+1)::us) _ _ E (hr.make C us [])
  (I2.env0.make C us []) bd r2 hq) λr s' hq'=> ?_))
 cases r with
 | error e=>exact hx _ _ e s' I2 hq'
 | ok fl=>
  cases fl with
  | ret u=>
   obtain⟨v,H',I3,rv,ev,q3⟩:=I2.after hq';subst ev;exact⟨rv,⟨V.ref<|s.heap.objs.size+1,H',I3,rfl,q3⟩⟩
  | next=>exact False.elim hq'
  | brk=>exact False.elim hq'
  | cont=>exact False.elim hq'
theorem dM7 {σ:St}{H:Hp}{Q:VK}(M:Mk X.K C f)(F:wS X.prog X.w X.K X.mg X.base CX k f fd ps sp)(hr:jB (k+1) X.A)(hg:Gl X x)(hm:X.mg x=some (.ref C))(hb:Binds X.K fd ps [])(hx:aA5 CX X E pins σ)
  (ha:PA X (e::es) t) (I:Inv X pins σ H s) (h:dS9 C sp [] E t σ H Q) (hdb:(x==("__debug__":Str))=false) (he:starEach (e::es) X.env=(false,eval e X.env)::starEach es X.env) (hpl:(backTo pos<|starEach es X.env).any (·.1)=false) :
  wpAny (model X.prog X.w) X.A (eval (.Call (.Name x p) (e::es) [] pos) X.env) (EP X pins σ Q) X.xe s:=by
 refine uM (nP I hg hm ?_ hdb)
 refine PySem.W.callWith_K (h₀:=X.base) I.ok.mod.kin M.kp (thn (ha pos pins s σ H _ I h) λus s1 ⟨vs,H1,I1,r,q⟩=>⟨I1.kIn,?_⟩) he hpl
 exact cU8 M F hr hb hx I1 r λx dx a b c=>by have:=q x dx a b c;rw[kO]at this;exact this
end
end L2
namespace M
section
variable {X:Cx}{e:Expr}{es:List Expr}{pos:Pos}{te:UE}{K:PySem.W.Frag}{A:AS}{H:Hp}
def aZ2 (f:Str)(t:UE):UE:=λρ Q=>t ρ λb ρ1=>match b.d with
 | .obj _ ks l=>(match(ks.zip l).lookup f with
  | some d=>Q (.pu d) ρ1
  | none=>False)
 | _=>False
theorem cD.field {f:Str}{d:D}: ∀{ks:List Str} {l:List D} {vs:List V},cD K A H l vs->(ks.zip l).lookup f=some d-> ∃v,(ks.zip vs).lookup f=some v/\Rep K A H d v/\f∈ks
 | [],_,_,_,h=>by simp at h
 | _::_,[],_,_,h=>by simp at h
 | q::ks,a::l,vs,r,h=>by
  obtain⟨v,vr,rfl,r1,r2⟩:=r.uncons;rw[aL3,dG]at h;rw[aL3,dG];cases c:f==q with
  | true=>
   rw[c]at h;cases h;exact⟨v,rfl,r1,by rw[iN.mp c];simp⟩
  | false=>
   rw[c]at h;obtain⟨w,h1,h2,h3⟩:=cD.field r2 h;exact⟨w,h1,h2,bH _ h3⟩
theorem aZ3 {f:Str}(he:PU X e te)(hb:↥(attributeBase e f X.env (eval e X.env)=eval e X.env)):PU X (.Attribute e f pos) (aZ2 f te):=
 k6 (pe_fld he hb) λσ H Q ⟨C,ρ,Q0,I,h,k⟩=>⟨C,ρ,_,I,h,λb ρ1 v H1 q fz s r=>by
  have rr:=r.rep λa z=>I.avF fz z
  cases ed:b.d with
  | obj C' ks l=>
   rw[ed]at rr q;dsimp only at q;cases el:(ks.zip l).lookup f with
   | none=>rw[el]at q;exact q.elim
   | some d=>
    rw[el]at q;simp only[Rep]at rr;obtain⟨a,dx,vs,rfl,n,c,hl,rl,ok⟩:=rr;obtain⟨w,h1,h2,h3⟩:=rl.field el;exact⟨a,C',dx,ks.zip vs,w,rfl,c,ok.1,ok.2 f h3,h1,k _ ρ1 w H1 q fz s h2⟩
  | _=>rw[ed]at q;exact q.elim⟩
abbrev ΦM:=List D->(List D->Prop)->XP->Prop
noncomputable def spI (K:PySem.W.Frag)(mg:Str->Option Value)(C:Addr)(ks:List Str)(φ:ΦM):Sp:=λvs H Q E=> ∃(x dx:Addr) (vs':List V) (A:AS) (ds:List D) (Q0:List D->Prop) (Ex:XP),vs=V.ref x::vs'/\H x=some (.ins C dx [])/\H dx=some (.own x)/\ ¬A x/\ ¬A dx/\(∀a,A a->H a≠none)/\cD K (λb=>A b\/b=x) H ds vs'/\φ ds Q0 Ex/\
 (∀l ws H',Q0 l->(∀b o,b≠x->H b=some o->H' b=some o)->H' x=some (.ins C dx<|ks.zip ws)->ks.length=ws.length->cD K (λb=>A b\/b=x) H' l ws->Q .non H')/\
 ∀n Cl es o H',Ex n es->mg n=some (.ref Cl)->(∀b o,b≠x->H b=some o->H' b=some o)->XR K A H' n es o->E (.ref Cl) o H'
structure MkX (P:Program)(w:World)(K:PySem.W.Frag)(mg:Str->Option Value)(base:Heap)(x:Str)(k:Nat)(ks:List Str)(φ:ΦM):Prop where
 ex: ∃C f fd ps,Mk K C f/\OkC K C ks/\wS P w K mg base (CXr P w base) k f fd ps (spI K mg C ks φ)/\Binds K fd ps []/\mg x=some (.ref C)
theorem lMake {φ:ΦM}{t:UA}{E:XK}{C0:C0}{ρ:Ev}{σ:L2.St}{Q:VK}{Q0:Ev->List D->Prop}{Ex:Ev->XP}(ok:OkC X.K C ks)(I:EOk X.K C0 ρ σ H)(h:t ρ λds ρ1=>φ ds (Q0 ρ1) (Ex ρ1))
  (kq: ∀l ρ1 v H',Q0 ρ1 l->Frz ρ ρ1->iV H H'->Rep X.K (Av C0 ρ1 σ) H' (.obj C ks l) v->Q v H') (kx: ∀n Cl ρ1 es o H',Ex ρ1 n es->X.mg n=some (.ref Cl)->EOk X.K C0 ρ1 σ H'->XR X.K (Av C0 ρ1 σ) H' n es o->E (.ref Cl) o H') :
  dS9 C (spI X.K X.mg C ks φ) [] E (lA X.K t) σ H Q:=by
 refine⟨C0,ρ,_,I,h,λds ρ1 vs H1 q f s r x dx nx nd ne=> ?_⟩
 have I1:=(I.frz f).same s;have hA: ∀a,Av C0 ρ1 σ a->H1 a≠none:=λa z=>I1.avSome z
 have s3:iV H1 (upd (upd H1 dx<|.own x) x<|.ins C dx []):=λb o z=>by
  rw[cW<|dN z nx,cW<|dN z nd];exact z
 have back: ∀H',(∀b o,b≠x->upd (upd H1 dx<|.own x) x (.ins C dx []) b=some o->H' b=some o)->iV H1 H':=λH' z b o q'=>z b o (dN q' nx) (s3 b o q')
 rw[kO];refine⟨x,dx,vs,Av C0 ρ1 σ,ds,Q0 ρ1,Ex ρ1,rfl,jH,by rw[cW ne];exact jH,λz=>hA x z nx,λz=>hA dx z nd,λa z q'=> ?_,r.mono<|nE.fresh s3 nx,q,λl ws H' q0 kp hx hl rl=>⟨rfl,?_⟩,λn Cl es o H' ex hm kp xr=> ?_⟩
 .cases e':H1 a with
  | none=>exact hA a z e'
  | some o=>rw[s3 a o e']at q';cases q'
 .refine kq l ρ1 _ H' q0 f (s.trans<|back H' kp) ?_
  simp only[Rep];exact⟨x,dx,ws,rfl,λz=>hA x z nx,hx,hl,rl.mono<|.sub (.refl _) λa z=> .inl z,ok⟩
 .exact kx n Cl ρ1 es o H' ex hm (I1.same<|back H' kp) xr
end
section
variable {K:PySem.W.Frag}{C:C0}{ρ ρ':Ev}{σ:L2.St}{H H':Hp}
theorem EOk.poke {x:Addr}{o:HO}(I:EOk K C ρ σ H)(ax:C.A0 x)(hx: ∀vs,C.H0 x≠some (.lst vs)):EOk K ⟨λb=>if b=x then some o else C.H0 b,C.A0⟩ ρ σ (upd H x o):=by
 have ne: ∀a,C.H0 a=none->a≠x:=λa z e=>by subst e;exact I.a0 a ax z
 have P:nE (Av C ρ σ) H (Av ⟨λb=>if b=x then some o else C.H0 b,C.A0⟩ ρ σ) (upd H x o):=λb u nb e=>⟨nb,by rw[cW λz=>nb (by subst z;exact .inl ax)];exact e⟩
 refine⟨I.len,?_,?_,I.inj,?_,?_,?_⟩
 .intro i d h;obtain⟨v,h1,h2⟩:=I.pu i d h;exact⟨v,h1,h2.mono P⟩
 .intro i l h;obtain⟨a,vs,h1,h2,h3,h4⟩:=I.ow i l h;have na:=ne a h3;exact⟨a,vs,h1,by rw[cW na];exact h2,by show(if a=x then some o else C.H0 a)=none;rw[a6 na];exact h3,h4.mono P⟩
 .intro i l h;obtain⟨a,vs,h1,h2,h3,h4⟩:=I.bo i l h;have na:a≠x:=λz=>by subst z;exact hx vs h3
  exact⟨a,vs,h1,h2,by show(if a=x then some o else C.H0 a)=_;rw[a6 na];exact h3,h4.mono P⟩
 .intro b u h
  by_cases c:b=x
  .subst c;have h':(if b=b then some o else C.H0 b)=some u:=h;rw[a7 rfl]at h';rw[jH];exact h'
  .have h':(if b=x then some o else C.H0 b)=some u:=h;rw[a6 c]at h';rw[cW c];exact I.ext b u h'
 .intro a z;show(if a=x then some o else C.H0 a)≠none;split
  .simp
  .exact I.a0 a z
theorem bB2 {x Cl:Addr}{fs:List (Str×V)}{f:Str}{te:UE}{Q0:B->Ev->Prop}{D:aX8}(I:EOk K C ρ σ H)(ax:C.A0 x)(hx:H x=some (.ins Cl dx fs))(h0:ρ[0]? =some (some<|.pu<|.adr x))(cl:Cls K Cl)(na:a94 K Cl f)(hf:fs.length<1000)(h:te ρ Q0)
  (k: ∀b ρ1 w H',Q0 b ρ1->ρ1[0]? =some (some<|.pu<|.adr x)->(∀a o,a≠x->H a=some o->H' a=some o)->H' x=some (.ins Cl dx<|wR f w fs)->(∃C1:C0,C1.A0=C.A0/\EOk K C1 ρ1 σ H')->Rep K C.A0 H' b.d w->(∀d v,Rep K C.A0 H d v->Rep K C.A0 H' d v)->D.nx σ H') :
  d07 K (aG0 0) (lE K te) f D σ H:=by
 refine⟨C,ρ,Q0,I,h,λb ρ1 w H1 q fz s r=> ?_⟩
 have I1:=(I.frz fz).same s;have h1:ρ1[0]? =some (some<|.pu<|.adr x):=by
  rcases fz.2 0 with z| ⟨l,z,_⟩
  .rw[z];exact h0
  .rw[h0]at z;cases z
 obtain⟨v,e1,e2⟩:=I1.pu 0 _ h1;simp only[Rep]at e2;subst e2;have hx1:=s _ _ hx;have nl: ∀vs,C.H0 x≠some (.lst vs):=λvs z=>by
  have:=I.ext x _ z;rw[hx]at this;cases this
 have P:nE C.A0 H1 C.A0 (upd H1 x<|.ins Cl dx<|wR f w fs):=nE.upd ax;refine⟨.ref x,e1,x,Cl,dx,fs,rfl,hx1,cl,na,hf,k b ρ1 w _ q h1 (λa o ne e=>by rw[cW ne];exact s a o e) jH ⟨⟨λb=>if b=x then some (.ins Cl dx<|wR f w fs)else C.H0 b,C.A0⟩,rfl,I1.poke (o:= .ins Cl dx (wR f w fs)) ax nl⟩ ?_ λd v r'=> ?_⟩
 .exact((r.rep λa z=>I.avF fz z).mono<|.sub (.refl _) λa z=> .inl z).mono P
 .exact(r'.mono<|.same s).mono P
end
section
variable {X:Cx}{E:XK}{st:Stmt}{sts:List Stmt}{t u:USX}{tS:TS}
theorem dM8 (h1:bW6 X E st t)(h2:PSs X sts tS):PSs X (st::sts) (λD=>lSX X.K X.mg E t {D with nx:=tS D}):=yW h1 h2
theorem b74 (h1:bW6 X E st t)(h2:PSs X sts (λD=>lSX X.K X.mg E u {D with nx:=tS D})):PSs X (st::sts) (λD=>lSX X.K X.mg E (λEx=>aQ (t Ex) (u Ex)) {D with nx:=tS D}):=
 b91 (yW h1 h2) λD σ H ⟨C,ρ,D0,Ex,I,h,k,kx⟩=>⟨C,ρ,{D0 with nx:=u Ex D0},Ex,I,h,⟨λρ' σ' H' q I'=>⟨C,ρ',D0,Ex,I',q,k,kx⟩,k.rt,k.bk,k.ct⟩,kx⟩
def tS3 (K:PySem.W.Frag)(f1 f2 f3:Str)(t1 t2 t3:UE):TS:=tSeq (d07 K (aG0 0) (lE K t1) f1) (tSeq (d07 K (aG0 0) (lE K t2) f2)<|d07 K (aG0 0) (lE K t3) f3)
end
theorem d66 {Cl:Addr}{ps:List Str}{φ:ΦM}{f3:Str}{t1 t2 t3:UE}(F:Fun K x qual st f fd)(S:aY N ps (aG st))(ok:OkC K Cl [f1,f2,f3])(n1:f1≠f2)(n2:f1≠f3)(n3:f2≠f3)
  (len: ∀ds Q Ex,φ ds Q Ex->ds.length+1=ps.length) (hN:N≠[]) {t:USX}
  (der: ∀(cdv:Value) (A:Around) (outer:List Env) (s:Shared) (H:Hp) (E:XK),jB k (A.deeper<|envOfC qual (aG st) s.heap.objs.size f cdv)->
   PSs (vB (CXr P w base) P w K mg base N qual (aG st) f cdv A outer s H E) (eX st) (λD=>lSX K mg E t {D with nx:=tS3 K f1 f2 f3 t1 t2 t3 D}))
  (rd: ∀a ds Q Ex,φ ds Q Ex->t Ex {nx:=λρ=>ρ[0]? =some (some<|.pu<|.adr a)/\t1 ρ λb1 ρ1=>t2 ρ1 λb2 ρ2=>t3 ρ2 λb3 _=>Q [b1.d,b2.d,b3.d],rt:=λ_=>False} (init N (.adr a::ds))) :
  wS P w K mg base (CXr P w base) (k+1) f fd ps (spI K mg Cl [f1,f2,f3] φ):=by
 obtain⟨oc,od,kV,doc,pm,an,cdv,ct,osl,rfl,lk,hcd⟩:=F.ex;refine d11 lk hcd S (λvs H Q E h=> ?_) λA outer s H vs Q E hr h=> ?_
 .obtain⟨x,dx,vs',A,ds,Q0,Ex,rfl,_,_,_,_,_,r,h,_⟩:=h;have:=len ds Q0 Ex h;rw[jP,<-r.length];exact this
 .obtain⟨x,dx,vs',A',ds,Q0,Ex,rfl,hx,hdx,nx,nd,hA,r,h,q,qx⟩:=h;have hA2: ∀a,(A' a\/a=x)->H a≠none:=λa z=>by
   rcases z with z|rfl
   .exact hA a z
   .rw[hx];simp
  have r2:cD K (λb=>A' b\/b=x) H (.adr x::ds) (.ref x::vs'):= .cons (by simp only[Rep]) r
  refine⟨_,der cdv A outer s H E hr,⟨H,λb=>A' b\/b=x⟩,init N (.adr x::ds),_,Ex,bV5 hA2 r2,rd x ds Q0 Ex h,⟨λρ σ H' z I=> ?_,λ_ _ _ z=>z.elim,λ_ _ _ z=>z.elim,λ_ _ _ z=>z.elim⟩,λn Cl' es o H' ex hm sm xr=>qx n Cl' es o H' ex hm (λb o _ e=>sm b o e) (xr.mono<|.sub (.refl _) λa z=> .inl z)⟩
  obtain⟨z0,z⟩:=z;have hx':H' x=some (.ins Cl dx []):=I.ext x _ hx;refine bB2 (C:=⟨H,λb=>A' b\/b=x⟩) I (.inr rfl) hx' z0 ok.1 (ok.2 f1 ae) ac z ?_
  rintro b1 ρ1 w1 H1 z1 z0 k1 x1 ⟨C1,a1,I1⟩ r1 m1;refine bB2 (C:=C1) I1 (by rw[a1];exact .inr rfl) x1 z0 ok.1 (ok.2 f2 ae) (show 1<1000 by decide) z1 ?_
  rintro b2 ρ2 w2 H2 z2 z0 k2 x2 ⟨C2,a2,I2⟩ r2 m2;refine bB2 (C:=C2) I2 (by rw[a2,a1];exact .inr rfl) x2 z0 ok.1 (ok.2 f3 ae) (by simp[wR,n1]) z2 ?_
  rintro b3 ρ3 w3 H3 z3 z0 k3 x3 ⟨C3,a3,I3⟩ r3 m3;rw[a1]at m2 r2;rw[a2,a1]at m3 r3;refine q [b1.d,b2.d,b3.d] [w1,w2,w3] H3 z3 (λb o ne e=>k3 b o ne (k2 b o ne<|k1 b o ne<|I.ext b o e)) ?_ rfl (.cons (m3 _ _<|m2 _ _ r1)<|.cons (m3 _ _ r2)<|.cons r3 .nil)
  rw[x3];simp[wR,n1,n2,n3]
def bX0 (s:Stmt):List Stmt:=match s with
 | .ClassDef _ _ _ b _ _ _ _ _ _ _=>b
 | _=>[]
section
variable {P:Program}{w:World}{K:PySem.W.Frag}{mg:Str->Option Value}{base:Heap}
theorem cN3 {an:Option Addr}{osl:Array (Option Value)}{kV doc pm cdv ct:Value}{nm:Str}{x0 x1 x2:Str}{p1 p3 p4 p5 p6 p7 p8:Pos}
  (l:K.lookup fI=some ⟨.type "function",od,.func<|fnOf nm qual (jX st) (eX st) (aG st) .none kV doc pm an cdv ct,osl⟩) (c:codeIn K cdv qual=true) (k:keepIn K (.ref fI)=true)
  (hb:eX st=[.Assign [.Attribute (.Name x0 p1) f1 p2] (.Name x1 p3) p4,.Assign [.Attribute (.Name x0 p5) f2 p6] (.Name x2 p7) p8]) (S:aY [x0,x1,x2] [x0,x1,x2] (aG st))
  (l0:(aG st).names.lookup x0=some .local) (l1:(aG st).names.lookup x1=some .local) (l2:(aG st).names.lookup x2=some .local) (d0:(x0==("__debug__":Str))=false) (d1:(x1==("__debug__":Str))=false) (d2:(x2==("__debug__":Str))=false)
  (bd: ∀(kV doc pm:Value) (an:Option Addr) (cdv ct:Value) (us:List Value),us.length=[x0,x1,x2].length->bindArgs (fnOf nm qual (jX st) (eX st) (aG st) .none kV doc pm an cdv ct) ⟨us,[]⟩=pure ([x0,x1,x2].zip us))
  {cd:ClassData} (hc:PySem.W.clsIn K C=some cd) (hm:vK cd.mro=true) (hd:cd.hasDict=true) (sa:PySem.W.findIn K (.ref C) "__setattr__"=some (some<|.builtin "object.__setattr__")) (n1:PySem.W.findIn K (.ref C) f1=some none) (n2:PySem.W.findIn K (.ref C) f2=some none) :
  bL1 K C fI (fnOf nm qual (jX st) (eX st) (aG st) .none kV doc pm an cdv ct) f1 f2:=
 ⟨⟨_,od,nm,qual,jX st,aG st,kV,doc,pm,an,cdv,ct,osl,x0,x1,x2,p1,p2,p3,p4,p5,p6,p7,p8,by rw[hb],l,rfl,c,S,l0,l1,l2,d0,d1,d2,(aY2 (st:=st) l c k).binds bd⟩,⟨cd,hc,hm,hd⟩,sa,n1,n2⟩
theorem aZ4 {R:Addr}{cd:ClassData}(h:excIn K C bmB newId=true\/ ∃fI,wW K C fI bmB newId=true)(hc:PySem.W.clsIn K C=some cd)(hm:cd.mro.contains (.ref R)=true):xX K R C bmB newId:=⟨h,cd,hc,hm⟩
theorem Fn.mkA {ps:List Str}(F:Fun K y qual st f fd)(m:mg x=some (.ref f))(b:Binds K fd ps [])(S:aY N ps (aG st))
  (len: ∀ds Q,φ ds Q->ds.length=ps.length) {t:US}
  (der: ∀(cdv:Value) (A:Around) (outer:List Env) (s:Shared) (H:Hp) (E:XK),jB k (A.deeper<|envOfC qual (aG st) s.heap.objs.size f cdv)->pG (vB CX0 P w K mg base N qual (aG st) f cdv A outer s H E).nox (eX st) t)
  (rd: ∀ds Q,φ ds Q->t {nx:=λ_=>Q (.pu .non),rt:=Q} (init N ds)):Fn P w K mg base x ps (k+1) φ:=
 ⟨f,fd,bV6 F S len λcdv A outer s H E hr=>⟨t,der cdv A outer s H E hr,rd⟩,b,F.kp,m⟩
end
end M
end
section
namespace L2
open PySem PySem.Spec PySem.W PySem.Calls PyProof.Rows Builtin Builtin.ObjectAttr Builtin.Getset_descriptor
section
variable {prog:Program}{w:World}{A:Around}{E:Value->Shared->Prop}{s:Shared}{K:Frag}{x D:Addr}{ox:Obj}{a g:Value}{name:Str}
theorem x_attr {expr:Bool}{f:Str}{od:Obj}(X:K.In s.heap)(I:InstAt s.heap x ox D (some od))(hg:findIn K (.ref D) "__getattribute__"=some (some<|.builtin "BaseException.__getattribute__"))(hh:findIn K (.ref D) "__getattr__"=some none)(hd:hasDictIn K D=true)(ha:findIn K (.ref D) f=some none)
  (hl:lookIn f od=some (some v)) (hv:handedIn v=true) (hb:mroIn K D (.type "BaseException")=some true) (h:Q v {s with toks:=s.toks+1}):wpAny (model prog w) A (getAttr (.ref x) f expr) Q E s:=by
 obtain⟨hp,gn,dr,tn,os⟩:=s;have v0:=I.type (M:=model prog w);have v1:=looks_findIn (M:=model prog w) X hg;have v2:=looks_find (M:=model prog w) X I (findObj_own hd ha rfl hl);have v3:=looks_findIn (M:=model prog w) X hh;have v5:=looks_mroIn (M:=model prog w) X hb
 have v6:Looks (model prog w) hp (bindSpecial (.builtin "BaseException.__getattribute__")<|.ref x) (.builtin "BaseException.__getattribute__",[.ref x]):=Looks.of_pure (PySem.F.excAttr_ValueError.ga.bind<|.ref x);have v7:Looks (model prog w) hp (handedOut v) v:=Looks.of_pure (handedOut_of hv);have nx:(expr&&onTheHeap (Value.builtin "BaseException.__getattribute__"))=false:=by cases expr<;>rfl
 unfold getAttr;unfold getAttrBy;refine a9 (wpAny_mkText<|iJ<|a9<|v0.at<|a9<|v1.at ?_);show wpAny _ _ (getAttrByItsOwn _ _ _ _ _ _) _ _ _;unfold getAttrByItsOwn hookBefore;refine a9 (v3.at<|a9<|a22<|iJ ?_);unfold callGetattribute;rw[nx,a6 ac]
 unfold boundAndCalled;refine a9 (v6.at ?_);have bk:builtinKind "BaseException.__getattribute__"=some .slot:=af
 have hsp:splitId "BaseException.__getattribute__"=some ("BaseException","__getattribute__"):=af
 have har:=F.args_bexc_ga (.ref x) (.str f tn);refine v9 (codeAny_call_builtin PySem.F.excAttr_ValueError.ga.plain F.entry_bexc_ga ?_);simp only[checkBuiltinCall,bk,hsp];refine a9 ?_;unfold isInstance
 repeat (any_goals (first|assumption|with_reducible refine v0.at ?_|with_reducible refine v5.at ?_|with_reducible refine v2.at ?_|with_reducible refine v7.at ?_|wp_step))
structure XKit (K:Frag)(C:Addr):Prop where
 ci:(clsIn K C).isSome=true
 ga:findIn K (.ref C) "__getattribute__"=some (some<|.builtin "BaseException.__getattribute__")
 gh:findIn K (.ref C) "__getattr__"=some none
 ha:findIn K (.ref C) "__class__"=some (some<|.builtin "object.__class__")
 hn:specialIn K (.builtin "object.__class__") "__get__"=some (some<|.builtin "getset_descriptor.__get__")
 tk:takesIn K (.builtin "object.__class__")=some true
 hm:mroIn K C (.type "object")=some true
 hb:mroIn K C (.type "BaseException")=some true
structure d67 (K:Frag)(C:Addr)(fs:List Str):Prop extends XKit K C where
 dd:hasDictIn K C=true
 nf: ∀f∈fs,findIn K (.ref C) f=some none
end
end L2
namespace M
def XD (a:Addr)(oe:Obj)(x:D):Prop:=x= .adr a\/ ∃d ks l,x= .xob a d ks l/\oe.dict=some d/\ ∀c,oe.data≠ .cls c
end M
end
section
namespace L2
section
variable {X:Cx}{pins:List (Addr×Obj)}{σ:St}{H:Hp}{s:Shared}
theorem b75 {M:Model}{Q:Unit->Shared->Prop}(I:Inv X pins σ H s)(hN:X.N.Nodup)(hi:X.N[i]? =some y)(hy:X.env.scope.names.lookup y=some .local)
  (h: ∀s',Inv X pins (σ.set i none) H s'->Q () s'):wpAny M A (do bindName X.env y .none;unbindBehindTheSuite X.env y pos) Q E s:=by
 obtain⟨m,hn,hl⟩:=id I.loc;have lt: ∀{b:Addr} {o:Obj},X.s₀.heap.get? b=some o->b≠X.env.locals:=λe=>bJ (aZ (aW e) I.ok.above)
 have iσ:i<σ.length:=by rw[I.len];exact(kG.mp hi).1
 refine wpAny_nameGoes_keeps hy hn (by rw[I.ok.kind];rfl) λh' v hn' hs=>h _ ⟨I.ok,I.os,I.bare,⟨λb o e n hb hx=>(hs.2 b<|lt e).trans (I.base.keep b o e n hb hx),λb o e n hb hx=> ?_,I.base.free,λb o e hx=> ?_,I.base.tups,I.base.frzs,I.base.tbls⟩,⟨_,hn',λj z v' e1 e2 e3=> ?_⟩,λz c e=> ?_,I.free,I.freeC,λp hp=> ?_,λb ob e=> ?_,by exists I.len⟩
 .obtain⟨sl,e1⟩:=I.base.slot b o e n hb hx;exact⟨sl,(hs.2 b<|lt e).trans e1⟩
 .obtain⟨o',e1⟩:=I.base.there b o e hx;exact⟨o',(hs.2 b<|lt e).trans e1⟩
 .by_cases hj:j=i
  .subst hj;rw[a03 iσ]at e2;cases e2
  .rw[qM<|Ne.symm hj]at e2;obtain⟨u',r',q⟩:=hl j z v' e1 e2 e3;refine⟨u',r',?_⟩;rcases q with⟨k,e⟩| ⟨k,c,e,t⟩
   .have ne:z≠y:=λe=>hj (b86 hN e1<|e▸hi)
    exact .inl ⟨k,by simp[ne,e]⟩
   .exact .inr ⟨k,c,e,t.sameBut hs<|I.cne z c e⟩
 .obtain⟨w',t⟩:=I.cell z c e;exact⟨w',t.sameBut hs<|I.cne z c e⟩
 .obtain⟨e,n,ne,nf,d⟩:=I.pin p hp;exact⟨(hs.2 p.1 ne).trans e,n,ne,nf,d⟩
 .refine(I.hok b ob e).stay (λc w' hc q=>(hs.2 c ?_).trans q) (λ_ q=>q) λ_ _ q=>q
  intro z;subst z;have fr:=I.free;rcases hc with hc|hc
  .subst hc;rw[fr]at e;cases e
  .rw[fr]at hc;cases hc
def XOk (K:PySem.W.Frag)(C:Addr)(bmB:List Value)(newId:String):Prop:=excIn K C bmB newId=true\/ ∃fI,wW K C fI bmB newId=true
theorem xok_of (X:K.In h)(a:XOk K C bmB newId): ∃N bm,XO h C N bm newId/\OwnTail h bmB bm:=by
 rcases a with a| ⟨fI,a⟩
 .obtain⟨bm,N,_,o,_,_,tl⟩:=bW5 X a;exact⟨N,bm,o,tl⟩
 .obtain⟨bm,N,_,o,_,_,tl⟩:=bA9 X a;exact⟨N,bm,o,tl⟩
theorem aF2 {M:Model}{A:Around}{E:Value->Shared->Prop}{s:Shared}{e C R:Addr}{oe:Obj}{Q:Bool->Shared->Prop}{b:Bool}{K:PySem.W.Frag}{B newId initId:String}{bmB:List Value}(FB:ExcBaseFacts B newId initId bmB)(X:K.In s.heap)(u:m8 K R C bmB newId b)(hR:XOk K R bmB newId)
  (he:s.heap.get? e=some oe) (hcl:oe.cls= .ref C) (hq:Q b s):wpAny M A (excMatches (.ref e)<|.ref R) Q E s:=by
 obtain⟨N,bm,⟨_,_,_,_,_,_,_,_,_,_,_,_,_,_,hC⟩,hin⟩:=underB X u;obtain⟨_,bm',⟨_,_,_,_,_,_,_,_,_,_,_,_,_,_,hRo⟩,tl'⟩:=xok_of X hR;have hb:=tl'.hasType FB.hasBase;obtain⟨hp,gn,dr,tn,os⟩:=s;have t1:(Value.ref R::bm').contains (.type "BaseException")=true:=by rw[aL4,hb,Bool.or_true]
 have t2:=tc_notTuple;unfold excMatches
 repeat (first
  | (with_reducible refine o8 he ?_;rw[hcl])
  | with_reducible refine o8 hRo ?_
  | (with_reducible refine a09 hRo ?_;rw[t1])
  | (with_reducible refine a09 hC ?_;rw[hin])
  | wp_step)
 cases b with
 | true=>repeat (first|exact hq|wp_step)
 | false=>repeat (first|exact hq|wp_step)
end
section
variable {X:Cx}
noncomputable abbrev Cx.asX (X:Cx)(a:Addr)(oe:Obj):Cx:={X.inX a with pn:=(a,oe)::X.pn}
def aR7 (i:Nat)(D:aX8):aX8:={D with nx:=λσ H=>D.nx (σ.set i none) H,bk:=λσ H=>D.bk (σ.set i none) H,ct:=λσ H=>D.ct (σ.set i none) H}
end
end L2
namespace M
abbrev USY:=(Str->List D->Ev->Prop)->US
def lSY (K:PySem.W.Frag)(mg:Str->Option Value)(E:XK)(t:USY):TS:=λD σ H=> ∃C ρ D0 Ex,EOk K C ρ σ H/\t Ex D0 ρ/\DOk K C D0 D/\ ∀n Cl es o ρ1 H',Ex n es ρ1->mg n=some (.ref Cl)->EOk K C ρ1 σ H'->XR K (Av C ρ1 σ) H' n es o->E (.ref Cl) o H'
def PUY (X:Cx)(body:List Stmt)(t:USY):Prop:= ∀(xe:Value->Shared->Prop) (E:XK) (pins:List (Addr×Obj)) (s:Shared) (σ:L2.St) (H:Hp) (D:aX8),Inv (X.wish xe) pins σ H s->aA5 (CXr X.prog X.w X.base) (X.wish xe) E pins σ->lSY X.K X.mg E t D σ H->wpAny (model X.prog X.w) X.A (execs body X.env) (SP (X.wish xe) pins D) xe s
def cH5 (ks:List Str)(φ:ΦM)(t:UA)(Ex:Str->List D->Ev->Prop):UE:=λρ Q=>t ρ λds ρ1=>φ ds (λl=> ∀C,Q (.pu<|.obj C ks l) ρ1) λn es=>Ex n es ρ1
section
variable {X:Cx}{e c:Expr}{es:List Expr}{a b:List Stmt}{pos:Pos}{t u:USY}{tc:UT}{K:PySem.W.Frag}{C:C0}{ρ:Ev}{σ:L2.St}{H:Hp}
theorem EOk.gone (I:EOk K C ρ σ H)(i:Nat):EOk K C (ρ.set i none) (σ.set i none) H:=by
 have at_: ∀{j:Nat} {b:B},(ρ.set i none)[j]? =some (some b)->j≠i/\ρ[j]? =some (some b):=λ{j b} e=>by
  by_cases c:j=i
  .subst c
   by_cases l:j<ρ.length
   .rw[a03 l]at e;cases e
   .rw[kH (by rw[fY];omega)]at e;cases e
  .rw[qM<|Ne.symm c]at e;exact⟨c,e⟩
 have own: ∀a,Av C (ρ.set i none) (σ.set i none) a->Av C ρ σ a:=λa z=>by
  rcases z with z| ⟨j,l,e1,e2⟩
  .exact .inl z
  .obtain⟨n,e1⟩:=at_ e1;rw[qM<|Ne.symm n]at e2;exact .inr ⟨j,l,e1,e2⟩
 have pr:nE (Av C ρ σ) H (Av C (ρ.set i none)<|σ.set i none) H:=λb o n q=>⟨λz=>n (own b z),q⟩
 have sg: ∀{j:Nat},j≠i->(σ.set i none)[j]? =σ[j]? :=λn=>qM (Ne.symm n)
 refine⟨by simpa using I.len,λj d e=> ?_,λj l e=> ?_,λj j' l l' a e1 e2 e3 e4=> ?_,λj l e=> ?_,I.ext,I.a0⟩
 .obtain⟨n,e⟩:=at_ e;obtain⟨v,e1,r⟩:=I.pu j d e;exact⟨v,by rw[sg n];exact e1,r.mono pr⟩
 .obtain⟨n,e⟩:=at_ e;obtain⟨a,vs,e1,e2,e3,r⟩:=I.ow j l e;exact⟨a,vs,by rw[sg n];exact e1,e2,e3,r.mono pr⟩
 .obtain⟨n1,e1⟩:=at_ e1;obtain⟨n2,e2⟩:=at_ e2;rw[sg n1]at e3;rw[sg n2]at e4;exact I.inj j j' l l' a e1 e2 e3 e4
 .obtain⟨n,e⟩:=at_ e;obtain⟨a,vs,e1,e2,e3,r⟩:=I.bo j l e;exact⟨a,vs,by rw[sg n];exact e1,e2,e3,r.mono pr⟩
def bB3 (i:Nat)(E:UD):UD:={E with nx:=λρ=>E.nx (ρ.set i none),bk:=λρ=>E.bk (ρ.set i none),ct:=λρ=>E.ct (ρ.set i none)}
def mkX (n:Str)(mk:Addr->Addr->List D->D):Prop:=(aA4 n=[]/\mk=λa _ _=> .adr a)\/(aA4 n≠[]/\mk=λa d es=> .xob a d (aA4 n) es)
def cN4 (x:D)(i:Nat)(f:Str):UE:=λρ Q=>ρ[i]? =some (some<|.pu x)/\match x with
 | .xob _ _ ks l=>(match(ks.zip l).lookup f with
  | some d=>Q (.pu d) ρ
  | none=>False)
 | _=>False
theorem cN5 {x:Addr}{e0:D}{C:Addr}{f:Str}(i:Nat)(k:d67 X.K C ks)(hp:(x,oe)∈X.pn)(hc:oe.cls= .ref C)(h0:XD x oe e0)(hf:f∈ks)(hy:PE X (.Name y py) (aG0 i))(hb:↥(attributeBase (.Name y py) f X.env (eval (.Name y py) X.env)=eval (.Name y py) X.env)) :
  PU X (.Attribute (.Name y py) f pos) (cN4 e0 i f):=by
 intro pins s σ H Q I ⟨C0,ρ,Q0,I0,⟨h1,h2⟩,kk⟩;rcases h0 with rfl| ⟨d,ks',l,rfl,hd,hno⟩
 .exact h2.elim
 dsimp only at h2;cases el:(ks'.zip l).lookup f with
 | none=>rw[el]at h2;exact h2.elim
 | some dd=>
  rw[el]at h2;obtain⟨v,g1,g2⟩:=I0.pu i _ h1;simp only[Rep]at g2;obtain⟨vs,rfl,nA,hx,hl,rl⟩:=g2;obtain⟨w,w1,w2,_⟩:=rl.field el;refine cL9 hb (hy pins s σ H (λv H1=>v= .ref x/\H1=H) I ⟨_,g1,rfl,rfl⟩ |> λz=>thn z λu s1 ⟨v,H1,I1,rv,e1,e2⟩=> ?_)
  subst e1;subst e2;obtain rfl:u=Value.ref x:=rv;obtain⟨mA,nd,rel⟩:=(show qA X.prog X.w H1 s1.heap d (.xd<|ks'.zip vs)from I1.hok d _ hx)
  obtain⟨u,hu,ru⟩:=c28.some_of (v:=w) (o:=mA f) (by rw[<-w1];exact rel f)
  obtain⟨od,ho,hlk⟩:=bN6 nd;have pin:=I1.pin (x,oe) (bU.mpr<|.inl hp);refine x_attr (ox:=oe) (od:=od) I1.kIn ⟨pin.1,hc,?_,by rw[hd];exact ho⟩ k.ga k.gh k.dd (k.nf f hf) (by rw[hlk,hu]) (bN7 ru) k.hb ⟨w,H1,I1.tok _,ru,kk _ ρ w H1 h2 (.refl _) (.refl _) w2⟩
  unfold notCls;split<;>first|rfl| (rename_i c q;exact absurd q (hno c))
end
end M
end
section
namespace L2
section
variable {X:Cx}
def tTry4 (C1 C2 C3:Addr)(i:Nat)(tb:XK->TS)(th1 th2:TS)(th3:Addr->Option Addr->TS):TS:=λD σ H=> ∃E,tb E D σ H/\ ∀C o H',E (.ref C) o H'->
 (C=C1/\th1 D σ H')\/(C=C2/\th2 D σ H')\/(C=C3/\ ∀a,th3 a o (aR7 i D) (σ.set i<|some<|.ref a) H')
theorem dM9 {body:List Stmt}{a0 b0 c0:Stmt}{suite1 suite2 suite3:List Stmt}{hrest:List ExceptHandler}{r1 r2 r3 y:Str}{rp1 rp2 rp3 hp1 hp2 hp3 pos:Pos}{C1 C2 C3:Addr}{B newId initId:String}{bmB:List Value}{tb:XK->TS}{th1 th2:TS}{th3:Addr->Option Addr->TS}{i:Nat}(FB:ExcBaseFacts B newId initId bmB)(hstk:X.stack=X.env::X.outer)(hfr:X.env.frame=some X.env.locals)(hex:X.ex=[])(hc:X.calm=true)
  (hbody: ∀(xe:Value->Shared->Prop) (E:XK) (pins:List (Addr×Obj)) (s:Shared) (σ:St) (H:Hp) (D:aX8),Inv (X.wish xe) pins σ H s->aA5 (CXr X.prog X.w X.base) (X.wish xe) E pins σ->tb E D σ H->wpAny (model X.prog X.w) X.A (execs body X.env) (SP (X.wish xe) pins D) xe s)
  (hs1: ∀a,PSs (X.inX a) (a0::suite1) th1) (hs2: ∀a,PSs (X.inX a) (b0::suite2) th2) (hs3: ∀a oe o,oe.cls= .ref C3->(∀d,o=some d->oe.dict=some d)->(∀c,oe.data≠ .cls c)->PSs (X.asX a oe) (c0::suite3) (th3 a o)) (hg1:Gl X r1) (hm1:X.mg r1=some (.ref C1)) (hR1:XOk X.K C1 bmB newId) (hg2:Gl X r2) (hm2:X.mg r2=some (.ref C2)) (hR2:XOk X.K C2 bmB newId) (hg3:Gl X r3) (hm3:X.mg r3=some (.ref C3)) (hR3:XOk X.K C3 bmB newId)
  (hu1:m8 X.K C1 C1 bmB newId true) (hu2:m8 X.K C2 C2 bmB newId true) (hu3:m8 X.K C3 C3 bmB newId true) (n12:m8 X.K C1 C2 bmB newId false) (n13:m8 X.K C1 C3 bmB newId false) (n23:m8 X.K C2 C3 bmB newId false) (hN:X.N.Nodup) (hi:X.N[i]? =some y) (hy:X.env.scope.names.lookup y=some .local) (hd1:⇑((r1==("__debug__":Str))=false)) (hd2:⇑((r2==("__debug__":Str))=false)) (hd3:⇑((r3==("__debug__":Str))=false)) :
  PS X (.Try body (.ExceptHandler (some<|.Name r1 rp1) none (a0::suite1) hp1:: .ExceptHandler (some<|.Name r2 rp2) none (b0::suite2) hp2:: .ExceptHandler (some<|.Name r3 rp3) (some y) (c0::suite3) hp3::hrest) [] [] pos) (tTry4 C1 C2 C3 i tb th1 th2 th3):=by
 rintro pins s σ H D I ⟨E,hb,hx⟩;refine wpAny_Try_except ?_
 have goX:aA5 (CXr X.prog X.w X.base) (X.wish λe s1=>wpAny (model X.prog X.w) X.A (noteFrame e X.env) (λ_ s2=>wpAny (model X.prog X.w) X.A (setFlight e none) (λ_ s3=>wpAny (model X.prog X.w) X.A (handleBy e X.env (.ExceptHandler (some<|.Name r1 rp1) none (a0::suite1) hp1:: .ExceptHandler (some<|.Name r2 rp2) none (b0::suite2) hp2:: .ExceptHandler (some<|.Name r3 rp3) (some y) (c0::suite3) hp3::hrest)) (SP X pins D) X.xe s3) X.xe s2) X.xe s1) E pins σ:=by
  rintro H1 s1 e s' J ⟨a,C,o',H',rfl,ho,hbr,un,hok,⟨⟨a0,fl⟩,fe,ft⟩,nw,xa,hE⟩;have J0:=J.unwish;have J1:Inv X pins σ H' s':=J0.call' ho un hok hbr (λb z=>absurd z ae)
  have fl':FlyingW X.base X.stack a (.ref C) a0 s'.heap:=fl;have frs':=J1.ok.frames;have g0: ∀b o,s1.heap.get? b=some o-> ∃o',s'.heap.get? b=some o':=λb o q=>un.there b o q ae
  have gs: ∀b o,X.s₀.heap.get? b=some o-> ∃o',s1.heap.get? b=some o':=λb o q=>J0.base.there b o q (by rw[hex];simp)
  have gp: ∀q∈X.pn++pins,∃o',s1.heap.get? q.1=some o':=λq hq=>⟨_,(J0.pin q hq).1⟩
  show wpAny _ _ (noteFrame (.ref a) X.env) _ _ s'
  rw[hstk]at fl' frs';refine d56 frs' hfr fl' λh2 held p2=> ?_
  rw[<-hstk]at p2 held fl';have J2:=J1.past (g:=s1.heap) p2 hstk hfr hex gs gp nw.he nw.ht fe ft;have n2:=nw.past p2 g0 (dM6 held.2.2.1);have g2:=bB1 nw p2 g0 (dM6 fl'.2.2.1);have t2:=b73 J1.hok p2 J1.stkFree fe ft;refine bA6 held λh3 fl3 p3=> ?_
  have J3:=J2.past (g:=s1.heap) p3 hstk hfr hex gs gp n2.he n2.ht fe t2;have n3:=n2.past p3 g2 (dM6 fl3.2.2.1);have g3:=bB1 n2 p3 g2 (dM6 held.2.2.1);have t3:=b73 J2.hok p3 J2.stkFree fe t2;obtain⟨oe,he,hcl⟩:=fl3.there
  have fin: ∀{b su hp R} {th:Addr->Option Addr->TS},(∀a oe o,oe.cls= .ref C->(∀d,o=some d->oe.dict=some d)->(∀c,oe.data≠ .cls c)->PSs (X.asX a oe) (b::su) (th a o))->(∀a,th a o' (aR7 i D) (σ.set i<|some<|.ref a) H')->(∀f s,wpAny (model X.prog X.w) X.A (do bindName X.env y .none;unbindBehindTheSuite X.env y hp) (λ_ s=>SP X pins D f s) X.xe s->R (.ok f) s)->codeAny (model X.prog X.w) (X.A.mark<|some<|.ref a) (.handlers (.ref a) [.ExceptHandler none (some y) (b::su) hp] X.env) R {s' with heap:=h3}:=by
   intro b su hp R th hs hth hR;refine codeAny_handlers_suite_as (bA6 fl3 λh4 fl4 p4=> ?_)
   have J4:=J3.past (g:=s1.heap) p4 hstk hfr hex gs gp n3.he n3.ht fe t3;obtain⟨oe4,he4,hcl4⟩:=fl4.there;have xa4: ∀d,o'=some d->oe4.dict=some d:=λd q=>by
    obtain⟨o5,e1,e2⟩:=((xa.dk p2.dk).dk p3.dk).dk p4.dk d q;rw[he4]at e1;cases e1;exact e2
   have nc4: ∀c,oe4.data≠ .cls c:=λc z=>by
    obtain⟨_,_,_,oe5,vs5,_,_,_,he5,_,hd5,_⟩:=fl4;rw[he5]at he4;cases he4;rw[hd5]at z;cases z
   have notF:a ∉ frs X.stack:=λz=>by
    obtain⟨_,o',q',n⟩:=fl4.2.2.1.mem (b:=a) z;obtain⟨_,_,_,oe5,vs5,_,_,_,he5,_,hd5,_⟩:=fl4;rw[he5]at q';cases q';exact n vs5 hd5
   have hin: ∀b,b∈frs X.stack↔b=X.env.locals\/b∈X.fs:=λb=>by
    rw[hstk];unfold Cx.fs frs;rw[jO,hfr];exact bB
   have J5:Inv (X.asX a oe4) pins σ H' {s' with heap:=h4}:=by
    have K4:=J4.inX a;refine⟨⟨K4.ok.mod,K4.ok.kind,K4.ok.glob,K4.ok.blt,K4.ok.above,K4.ok.inj,K4.ok.has,K4.ok.cab,K4.ok.hd,K4.ok.frames,K4.ok.stk,K4.ok.exf,K4.ok.bs,K4.ok.bsz,K4.ok.noex,K4.ok.exfs,K4.ok.funs,K4.ok.frf⟩,K4.os,K4.bare,K4.base,K4.loc,K4.cell,K4.free,K4.freeC,λp hp=> ?_,K4.hok,K4.len⟩
    rcases bB.mp (show p∈(a,oe4)::(X.pn++pins)from hp)with rfl|hp
    .refine⟨he4,fe,λz=>notF ((hin a).mpr<|.inl z),λz=>notF ((hin a).mpr<|.inr z),λv z=> ?_⟩
     obtain⟨_,_,_,oe5,vs5,_,_,_,he5,_,hd5,_⟩:=fl4;rw[he5]at he4;cases he4;rw[hd5]at z;cases z
    .exact K4.pin p hp
   refine a93 (X:=X.asX a oe4) J5 hN hi (.inl hy) (show RelV (.ref a) (.ref a)from rfl) (λs6 J6=> ?_) (.inr hy)
   have out: ∀{σ':St} {H2:Hp} {s7:Shared},Inv (X.asX a oe4) pins σ' H2 s7->Inv X pins σ' H2 s7:=λz=>
    Inv.outX (e:=a) ⟨⟨z.ok.mod,z.ok.kind,z.ok.glob,z.ok.blt,z.ok.above,z.ok.inj,z.ok.has,z.ok.cab,z.ok.hd,z.ok.frames,z.ok.stk,z.ok.exf,z.ok.bs,z.ok.bsz,z.ok.noex,z.ok.exfs,z.ok.funs,z.ok.frf⟩,z.os,z.bare,z.base,z.loc,z.cell,z.free,z.freeC,λp hp=>z.pin p (bH _ hp),z.hok,z.len⟩ λ_=>J4.ok.hd hc
   refine bK (hs a oe4 o' hcl4 xa4 nc4 pins _ _ H' (aR7 i D) J6<|hth a) (λf s7 q=> ?_) λ_ _ z=>z.elim
   refine hR f s7 ?_
   cases f with
   | next=>obtain⟨σ',H2,I7,q⟩:=q;exact b75 (out I7) hN hi hy λs8 I8=>⟨_,H2,I8,q⟩
   | brk=>obtain⟨σ',H2,I7,q⟩:=q;exact b75 (out I7) hN hi hy λs8 I8=>⟨_,H2,I8,q⟩
   | cont=>obtain⟨σ',H2,I7,q⟩:=q;exact b75 (out I7) hN hi hy λs8 I8=>⟨_,H2,I8,q⟩
   | ret u=>obtain⟨v,σ',H2,I7,r,q⟩:=q;exact b75 (out I7) hN hi hy λs8 I8=>⟨v,_,H2,I8,r,q⟩
  have fin0: ∀{b su hp} {th:TS} {R:Result->Shared->Prop},(∀a,PSs (X.inX a) (b::su) th)->th D σ H'->(∀f s,SP X pins D f s->R (.ok f) s)->codeAny (model X.prog X.w) (X.A.mark<|some<|.ref a) (.handlers (.ref a) [.ExceptHandler none none (b::su) hp] X.env) R {s' with heap:=h3}:=by
   intro b su hp th R hs hth hR;refine codeAny_handlers_suite (bA6 fl3 λh4 fl4 p4=> ?_)
   have J4:=J3.past (g:=s1.heap) p4 hstk hfr hex gs gp n3.he n3.ht fe t3;exact bK (hs a pins _ σ H' D (J4.inX a) hth) (λf s2 q=>hR f s2 (q.outX λ_=>J4.ok.hd hc)) λ_ _ z=>z.elim
  rcases hx C o' H' hE with⟨rfl,hth⟩| ⟨rfl,hth⟩| ⟨rfl,hth⟩
  .refine qS (qK<|nP (X:=X.inX a) (J3.inX a) hg1 hm1 ?_ hd1) (by intro q;cases q)
   refine aF2 FB J3.kIn hu1 hR1 he hcl ?_
   exact fin0 hs1 hth λ_ _ z=>z
  .refine qS (qK<|nP (X:=X.inX a) (J3.inX a) hg1 hm1 ?_ hd1) (by intro q;cases q)
   refine aF2 FB J3.kIn n12 hR1 he hcl ?_
   refine qS (qK<|nP (X:=X.inX a) (J3.inX a) hg2 hm2 ?_ hd2) (by intro q;cases q)
   refine aF2 FB J3.kIn hu2 hR2 he hcl ?_
   exact fin0 hs2 hth λ_ _ z=>z
  .refine qS (qK<|nP (X:=X.inX a) (J3.inX a) hg1 hm1 ?_ hd1) (by intro q;cases q)
   refine aF2 FB J3.kIn n13 hR1 he hcl ?_
   refine qS (qK<|nP (X:=X.inX a) (J3.inX a) hg2 hm2 ?_ hd2) (by intro q;cases q)
   refine aF2 FB J3.kIn n23 hR2 he hcl ?_
   refine qS (qK<|nP (X:=X.inX a) (J3.inX a) hg3 hm3 ?_ hd3) (by intro q;cases q)
   refine aF2 FB J3.kIn hu3 hR3 he hcl ?_
   exact fin hs3 hth λ_ _ z=>z
 refine bK (hbody _ E pins s σ H D (I.wish _) goX hb) (λf s1 q=> ?_) λ_ _ z=>z
 have q':=q.unwish;cases f with
 | next=>exact qY q'
 | ret v=>exact q'
 | brk=>exact q'
 | cont=>exact q'
end
end L2
namespace M
section
variable {X:Cx}{e c:Expr}{es:List Expr}{a b:List Stmt}{pos:Pos}{t u:USY}{tc:UT}{K:PySem.W.Frag}
def d68 (i:Nat)(n1 n2 n3:Str)(mk:Addr->Addr->List D->D)(tb:USY)(th1 th2:US)(th3:D->US):US:=λE ρ=>tb (λn es ρ1=>(n=n1/\th1 E ρ1)\/(n=n2/\th2 E ρ1)\/(n=n3/\ ∀a d,th3 (mk a d es) (bB3 i E)<|ρ1.set i<|some<|.pu<|mk a d es)) E ρ
theorem dN0 {a0 b0 c0:Stmt}{suite1 suite2 suite3:List Stmt}{hrest:List ExceptHandler}{r1 r2 r3:Str}{rp1 rp2 rp3 hp1 hp2 hp3:Pos}{R1 R2 R3:Addr}{B:String}{tb:USY}{th1 th2:US}{th3:D->US}{mk:Addr->Addr->List D->D}(i:Nat)(hmk:mkX r3 mk)(FB:ExcBaseFacts B newId initId bmB)(hstk:X.stack=X.env::X.outer)(hfr:X.env.frame=some X.env.locals)(hex:X.ex=[])(hc:X.calm=true)
  (hbody:PUY X body tb) (hs1: ∀a,pG (X.inX a) (a0::suite1) th1) (hs2: ∀a,pG (X.inX a) (b0::suite2) th2) (hs3: ∀a oe x,oe.cls= .ref R3->XD a oe x->pG (X.asX a oe) (c0::suite3) (th3 x)) (hg1:Gl X r1) (hm1:X.mg r1=some (.ref R1)) (hR1:XOk X.K R1 bmB newId) (hg2:Gl X r2) (hm2:X.mg r2=some (.ref R2)) (hR2:XOk X.K R2 bmB newId) (hg3:Gl X r3) (hm3:X.mg r3=some (.ref R3)) (hR3:XOk X.K R3 bmB newId)
  (hu1:xX X.K R1 R1 bmB newId) (hu2:xX X.K R2 R2 bmB newId) (hu3:xX X.K R3 R3 bmB newId) (n12:m8 X.K R1 R2 bmB newId false) (n13:m8 X.K R1 R3 bmB newId false) (n23:m8 X.K R2 R3 bmB newId false) (hN:X.N.Nodup) (hi:X.N[i]? =some y) (hy:X.env.scope.names.lookup y=some .local) (hl: ∀pins σ H s,Inv X pins σ H s->i<σ.length) (hd1:⇑((r1==("__debug__":Str))=false)) (hd2:⇑((r2==("__debug__":Str))=false)) (hd3:⇑((r3==("__debug__":Str))=false)) :
  PUS X (.Try body (.ExceptHandler (some<|.Name r1 rp1) none (a0::suite1) hp1:: .ExceptHandler (some<|.Name r2 rp2) none (b0::suite2) hp2:: .ExceptHandler (some<|.Name r3 rp3) (some y) (c0::suite3) hp3::hrest) [] [] pos) (d68 i r1 r2 r3 mk tb th1 th2 th3):=by
 intro pins s σ H D J ⟨C0,ρ,D0,I,h,k⟩;have lay: ∀{R:Addr} {b:Stmt} {suite:List Stmt} {th:M.D->US},(∀a oe x,oe.cls= .ref R->XD a oe x->pG (X.asX a oe) (b::suite) (th x))-> ∀(a:Addr) (oe:Obj) (o:Option Addr),oe.cls= .ref R->(∀d,o=some d->oe.dict=some d)->(∀c,oe.data≠ .cls c)->PSs (X.asX a oe) (b::suite) (λD σ H=> ∃x,(x= .adr a\/ ∃d ks l,x= .xob a d ks l/\o=some d)/\lS X.K (th x) D σ H):=by
  intro R b suite th hs a oe o ho hod hnc;rintro pins s σ H D J ⟨x,hx,hl⟩;refine hs a oe x ho ?_ pins s σ H D J hl;rcases hx with rfl| ⟨d,ks,l,rfl,e⟩
  .exact .inl rfl
  .exact .inr ⟨d,ks,l,rfl,hod d e,hnc⟩
 refine dM9 (C1:=R1) (C2:=R2) (C3:=R3) (i:=i) (tb:=λE=>lSY X.K X.mg E tb) (th1:=lS X.K th1) (th2:=lS X.K th2) (th3:=λa o D σ H=> ∃x,(x= .adr a\/ ∃d ks l,x= .xob a d ks l/\o=some d)/\lS X.K (th3 x) D σ H) FB hstk hfr hex hc hbody hs1 hs2 (lay hs3) hg1 hm1 hR1 hg2 hm2 hR2 hg3 hm3 hR3 hu1 hu2 hu3 n12 n13 n23 hN hi hy hd1 hd2 hd3 pins s σ H D J ?_
 have fin:DOk X.K C0 (bB3 i D0) (aR7 i D):=⟨λρ' σ' H2 q I2=>k.nx _ _ _ q (I2.gone i),k.rt,λρ' σ' H2 q I2=>k.bk _ _ _ q (I2.gone i),λρ' σ' H2 q I2=>k.ct _ _ _ q (I2.gone i)⟩
 have land: ∀{r:Str} {mk:Addr->Addr->List M.D->M.D} {th:M.D->US} {es:List M.D} {ρ1:Ev} {o:Option Addr} {H':Hp},mkX r mk->EOk X.K C0 ρ1 σ H'->XR X.K (Av C0 ρ1 σ) H' r es o->(∀a d,th (mk a d es) (bB3 i D0)<|ρ1.set i<|some<|.pu<|mk a d es)-> ∀a,∃x,(x= .adr a\/ ∃d ks l,x= .xob a d ks l/\o=some d)/\lS X.K (th x) (aR7 i D) (σ.set i<|some<|.ref a) H':=by
  intro r mk th es ρ1 o H' hmk I' xr ht a;rcases hmk with⟨hk,rfl⟩| ⟨hk,rfl⟩
  .exact⟨.adr a,.inl rfl,C0,_,bB3 i D0,I'.store (.refl _) (show rK X.K (Av C0 ρ1 σ) H' H' (.pu<|.adr a) (.ref a)from by simp only[rK,Rep])<|hl pins σ H s J,ht a a,fin⟩
  .cases o with
   | none=>exact absurd xr hk
   | some d=>
    refine⟨.xob a d (aA4 r) es,.inr ⟨d,_,_,rfl,rfl⟩,C0,_,bB3 i D0,I'.store (.refl _) (show rK X.K (Av C0 ρ1 σ) H' H' (.pu<|.xob a d (aA4 r) es) (.ref a)from ?_)<|hl pins σ H s J,ht a d,fin⟩
    obtain⟨vs,x1,x2,x3,x4⟩:=xr;simp only[rK,Rep];exact⟨vs,trivial,x1,x2,x3,x4⟩
 refine⟨λcls o H'=> ∃n Cl es ρ1,cls=Value.ref Cl/\X.mg n=some (.ref Cl)/\((n=r1/\th1 D0 ρ1)\/(n=r2/\th2 D0 ρ1)\/(n=r3/\ ∀a d,th3 (mk a d es) (bB3 i D0)<|ρ1.set i<|some<|.pu<|mk a d es))/\EOk X.K C0 ρ1 σ H'/\XR X.K (Av C0 ρ1 σ) H' n es o,?_,?_⟩
 .exact⟨C0,ρ,D0,_,I,h,k,λn Cl es o ρ1 H' ex hm I' xr=>⟨n,Cl,es,ρ1,rfl,hm,ex,I',xr⟩⟩
 .rintro Cl o H' ⟨n,Cl',es,ρ1,e1,hm,ex,I',xr⟩;cases e1;rcases ex with⟨rfl,ht⟩| ⟨rfl,ht⟩| ⟨rfl,ht⟩
  .rw[hm1]at hm;cases hm;exact .inl ⟨rfl,C0,ρ1,D0,I',ht,k⟩
  .rw[hm2]at hm;cases hm;exact .inr (.inl ⟨rfl,C0,ρ1,D0,I',ht,k⟩)
  .rw[hm3]at hm;cases hm;exact .inr (.inr ⟨rfl,land hmk I' xr ht⟩)
theorem d69 {φ:ΦM}{t:UA}{tY:List Stmt}{v:US}(i:Nat)(F:MkX X.prog X.w X.K X.mg X.base x k ks φ)(hr:jB (k'+1) X.A)(hk:k<=k')(hg:Gl X x)(ha: ∀xe,PUA (X.wish xe) (e::es) t)(hN:X.N.Nodup)(hi:X.N[i]? =some y)(hy:Loc X.env.scope y)
  (hq: ∀xe,pG (X.wish xe) tY v) (hl: ∀pins σ H s,Inv X pins σ H s->i<σ.length) (hdb:⇑((x==("__debug__":Str))=false))
  (he:↥(starEach (e::es) X.env=(false,eval e X.env)::starEach es X.env)) (hpl:↥((backTo cpos<|starEach es X.env).any (·.1)=false)) (hs:↥(swapsWith (.Call (.Name x p) (e::es) [] cpos) (some<|.Name y pos') pos.line X.env=pure false))
  (hf:X.fn y=true\/X.env.scope.names.lookup y=some .local:=by walk_at "z") :
  PUY X (.Assign [.Name y pos'] (.Call (.Name x p) (e::es) [] cpos) pos::tY) (λEx=>aQ (bN i<|cH5 ks φ t Ex) v):=by
 rintro xe E pins s σ H D I pa ⟨C0,ρ,D0,Ex,I0,h,k,kx⟩;obtain⟨C,f,fd,ps,M,ok,G,b,m⟩:=F.ex;refine uP (wpAny_Assign_Name (thn (dM7 (X:=X.wish xe) (Q:=λv' H1=>lS X.K v D (σ.set i<|some v') H1) M (G.mono hk) hr hg m b pa (ha xe) I ?_ hdb he hpl) λv' s1 ⟨y',H1,I1,r1,q1⟩=>a93 (X:=X.wish xe) I1 hN hi hy r1 (λs2 I2=>hq xe pins s2 _ H1 D I2 q1) hf) hs)
 exact lMake (X:=X) (Q0:=λρ1 l=> ∀C,v D0<|ρ1.set i<|some<|.pu<|.obj C ks l) (Ex:=λρ1 n es=>Ex n es ρ1) ok I0 h (λl ρ1 v' H' q f s r=>⟨C0,_,D0,(I0.frz f).store s (show rK X.K (Av C0 ρ1 σ) H H' (.pu<|.obj C ks l) v' from r)<|hl pins σ H _ I.unwish,q C,k⟩) λn Cl ρ1 es o H' z hm' I' xr=>kx n Cl es o ρ1 H' z hm' I' xr
end
end M
end
end
open L2
section
open PySem L2 M
local macro_rules| `(tactic| left)=> `(tactic| simp only[aQ,bN,d6,tP,fE,cO,uOp,uC,aB,aQ0,aS,bO5,uV,uIx,gIx,jE,sI,aV,a8,aP,lY,jD,aQ4,oU,sJ,gI,M.gSub,bZ,aQ5,jC,dK0,gI2,pH,fH,isB,B.d,aQ3,uOr,aY3,c39,d18,cE,cX,c41,uSl,n8,jA,gSl,c42,gMax,gMin,eM,aQ8,d30,g1,g2,dK1,b95,uIf,c45,gSum,aQ9,dK5,tQ,aA1,dK6,bind_some,Option.bind_none,Option.map_some,Option.map_none,Option.join,qH,aJ6,b84,b85,jP,List.length_nil,o7,lL,lM,aL9,aJ7,dM,dL,reduceCtorEq,bK7,sH,eO,sG,uSlT,gSlT,jJ,vE,c46,d43,d42,i7,cM8,cN0,c51,D.isN,cG7,bW9,aR6,bW8,b96,cF9,d52,bP9,cH5,d68,cN4,bB3])
namespace M
local macro_rules|`(!$t)=>`(some (B.pu (D.int $t)))|`(~~~$t)=>`(some (B.pu $t))|`(↑$t)=>`(some (B.ow $t))|`(∅)=>`(Nat->Int)
abbrev Ra (a:Φ)(t:US)(N:List Str):Prop:=∀ds Q,a ds Q->t {nx:=λ_=>Q (.pu .non),rt:=Q} (init N ds)
variable {j i k last t0 n U N:Nat}{ui:UI}{g F G:Nat×∅}{tb:US}{ρ:Ev}{xs:List ((Nat×∅)×Nat)}{x r b v m a e c w s q a' b' c' d' P y size:Int}{l:List D}{js:List Nat}{cap:List (Option Nat)}{te:UE}{Q:B->Ev->Prop}{t:List (List Int)}{p:List Int}{f u:∅}{E:UD}{C:Addr}{s4 s5 s6 x0:Option B}
def aR8:Φ:=λds Q=> ∃c k p:Int,ds=[.int c,.int k,.int p]/\0<=k/\k<4294967296/\0<p/\ ∀r:Int,0<=r->r<p->Q (.pu<|.int r)
def bB4:US:=(aQ (bN 3<|uOp jC (uOp bZ (uOp gI (uOp gI (uOp gI (aB 0)<|uOp bZ (uOp bZ (uC<|.int 7)<|aB 1)<|aB 1)<|uOp bZ (uC<|.int 13)<|aB 1)<|uC<|.int 5)<|uC<|.int 48271)<|uC<|.int 2147483647)<|aQ (bN 3<|uOp jC (uOp bZ (aB 3)<|aB 3)<|uC<|.int 2147483629)<|d6<|uOp jC (uOp bZ (aB 3)<|uC<|.int 39373)<|aB 2)
theorem bY (i:Int){j:Int}(h:0<j):i.fmod j=i%j:=Int.fmod_eq_emod_of_nonneg i (Int.le_of_lt h)
theorem sK (i:Int){j:Int}(h:0<j):i.fdiv j=i/j:=Int.fdiv_eq_ediv_of_nonneg i (Int.le_of_lt h)
theorem cmR {i j:Int}(h1: -18446744073709551616<j)(h2:j<18446744073709551616):c31 i j\/(Sm i/\Sm j):= .inl (.inr ⟨h1,h2⟩)
theorem cmL {i j:Int}(h1: -18446744073709551616<i)(h2:i<18446744073709551616):c31 i j\/(Sm i/\Sm j):= .inl (.inl ⟨h1,h2⟩)
theorem d70: Ra aR8 bB4 ["c","k","p","f"]:=by
 rintro ds Q ⟨c,k,p,rfl,h0,h1,hp,h⟩;unfold bB4;show(aQ _ _:US) _ [!c,!k,!p,none];left;rw[bY _ (by decide:(0:Int)<2147483647),bY _ (by decide:(0:Int)<2147483629),bY _ hp]
 refine⟨cmL ac ac,cmR aa aa,cmL ac ac,cmR ac ac,ac,cmR aa aa,ac,cmR ac ac,aa,?_⟩
 exact h _ (cH _ aa) (cG _ hp)
theorem bM {g:UG}{D:UD}(n:Nat)(it:Nat->M.D)(ρ1:Ev)(hui: ∀Q:Nat->(Nat->M.D)->Ev->Prop,Q n it ρ1->ui ρ Q)(Pv:Nat->Ev->Prop)(h0:Pv 0 ρ1)
  (hs: ∀i ρ,i<n->Pv i ρ->g (.pu<|it i) ρ λρ2=>tb {D with nx:=Pv (i+1),ct:=Pv (i+1),bk:=D.nx} ρ2) (hd: ∀ρ,Pv n ρ->D.nx ρ):jI ui g tb D ρ:=hui _ ⟨Pv,h0,hs,hd⟩
theorem cN6 {ws:List Int}(h:i<ws.length):atI (ws.map D.int) (0+(i:Int))=some (.int ws[i]):=by
 rw[bS];exact cY (by rw[bI,aM h];rfl)
def Below (xs ws:List Int):Prop:=xs.length=ws.length/\ ∀(j:Nat) (x w:Int),xs[j]? =some x->ws[j]? =some w->0<=x/\x<w
theorem cpl {i j:Int}(h1:0<=j)(h2:j<=1000000)(h3:i.natAbs<2^64):dI1 i j:=⟨h1,h2,h3⟩
def aR9:Φ:=λds Q=> ∃(c:Int) (ws:List Int) (p:Int),ds=[.int c,.lst<|ws.map .int,.int p]/\ws.length<=1000/\0<p/\(∀w∈ws,0<w/\w<18446744073709551616)/\ ∀xs:List Int,Below xs ws->Q (.ow<|xs.map .int)
def bB5:US:=(aQ (bN 3<|uC<|.int 0)<|aQ (fE (cO<|uOp (pH λi j=>decide (j<=i)) (aB 0)<|uOp dK0 (uC<|.int 10)<|uC<|.int 18) (bN 3<|uOp M.gSub (aB 0)<|uOp dK0 (uC<|.int 10)<|uC<|.int 18) cX)<|aQ (bN 4<|lY aP)<|aQ (jI (jJ<|a8 (jE<|aS 1) aP) (cE 5)<|fE (cO<|uOp (pH λi j=>decide (j<i)) (aB 3)<|uC<|.int 1) (aQ (aQ4 4<|uOp jC (aB 3)<|uIx (aS 1)<|aB 5)<|bN 3<|uOp aQ5 (aB 3)<|uIx (aS 1)<|aB 5)<|aQ4 4<|uOp jC (aV aR8<|a8 (aB 0)<|a8 (aB 5)<|a8 (aB 2) aP)<|uIx (aS 1)<|aB 5)<|tP 4)
theorem aN3 {i:Int}(h1: -18446744073709551616<i)(h2:i<18446744073709551616):Sm i:=by
 unfold Sm;have h3:i.natAbs<18446744073709551616:=aa
 exact aZ h3 af
theorem bB6 {xs ws:List Int}(h: ∀(j:Nat) (x w:Int),xs[j]? =some x->ws[j]? =some w->0<=x/\x<w)(hl:xs.length<ws.length)(h0:0<=x)(h1:x<ws[xs.length]) :
  ∀(j:Nat) (y w:Int),(xs++[x])[j]? =some y->ws[j]? =some w->0<=y/\y<w:=by
 intro j y w e1 e2
 by_cases hj:j<xs.length
 .rw[uF hj]at e1;exact h j y w e1 e2
 .rw[qF ad]at e1
  by_cases hj':j=xs.length
  .subst hj';simp at e1;subst e1;rw[aM hl]at e2;cases e2;exact⟨h0,h1⟩
  .have:j-xs.length≠0:=ad
   cases e:j-xs.length with
   | zero=>lia
   | succ n=>rw[e]at e1;simp at e1
theorem d71: Ra aR9 bB5 ["c","w","p","l","f","k"]:=by
 rintro ds Q ⟨c,ws,p,rfl,hlen,hp,hw,h⟩;unfold bB5;have tail: ∀left:Int,(aQ (bN 4<|lY aP) (aQ (jI (jJ<|a8 (jE<|aS 1) aP) (cE 5)<|fE (cO<|uOp (pH λi j=>decide (j<i)) (aB 3)<|uC<|.int 1) (aQ (aQ4 4<|uOp jC (aB 3)<|uIx (aS 1)<|aB 5)<|bN 3<|uOp aQ5 (aB 3)<|uIx (aS 1)<|aB 5)<|aQ4 4<|uOp jC (aV aR8<|a8 (aB 0)<|a8 (aB 5)<|a8 (aB 2) aP)<|uIx (aS 1)<|aB 5)<|tP 4):US)
   {nx:=λ_=>Q (.pu .non),rt:=Q} [!c,~~~.lst (ws.map .int),!p,!left,none,none]:=by
  intro left;rw[aQ];left;refine⟨ac,?_⟩
  refine bM ws.length (λi=> .int (0+i)) _ ?_
   (λi ρ=> ∃(l:Int) (xs:List Int) (kk:Option B),ρ=[!c,~~~.lst (ws.map .int),!p,!l,↑(xs.map .int),kk]/\xs.length=i/\ ∀(j:Nat) (x w:Int),xs[j]? =some x->ws[j]? =some w->0<=x/\x<w)
   ⟨left,[],none,rfl,rfl,λj x w e=>by simp at e⟩ ?_ ?_
  .intro Q q;simp only[jJ];left;rw[aF];refine⟨⟨ad,ad⟩,?_⟩
   rw[dU];exact q
  .rintro i ρ hi ⟨l,xs,kk,rfl,hl,hb⟩;subst hl;obtain⟨w0,w1⟩:=hw _ (cQ hi);left;refine⟨ac,?_⟩
   by_cases hc:1<l
   .rw[a7 hc];simp only[cN6 hi];rw[bY _ w0,sK _ w0];refine⟨ad,?_,⟨ad,aN3 ad w1⟩,_,xs++[l%ws[xs.length]],_,by rw[bV];rfl,ae,bB6 hb hi (cH _ ad)<|cG _ w0⟩
    rw[aF];exact aZ hi (aI hlen ac)
   .rw[a6 hc];refine⟨c,(0+(xs.length:Int)),p,rfl,ad,ad,hp,λr r0 r1=> ?_⟩
    simp only[cN6 hi];rw[bY _ w0];refine⟨ad,?_,l,xs++[r%ws[xs.length]],_,by rw[bV];rfl,ae,bB6 hb hi (cH _ ad)<|cG _ w0⟩
    rw[aF];exact aZ hi (aI hlen ac)
  .rintro ρ ⟨l,xs,kk,rfl,hl,hb⟩;left;exact h xs ⟨hl,hb⟩
 show(aQ _ _:US) _ [!c,~~~.lst (ws.map .int),!p,none,none,none]
 refine(show dI1 10 18/\(if decide ((10:Int)^(18:Int).toNat<=c)=true then _ else _)from⟨cpl ac ac ac,?_⟩)
 split
 .exact⟨cpl ac ac ac,tail _⟩
 .exact tail _
theorem d72 {d:D}:atI (d::l) 0=some d:=cY (j:=0) rfl
theorem d73 {ys:List Int}(h:i< (ys.map D.int).length): ∃z,(ys.map D.int).getD i .non= .int z:=by
 rw[aF]at h;exact⟨ys[i],by rw[aJ,bI,aM h];rfl⟩
theorem bB7 (k:Nat)(z:Int):(replicate k [D.int z]).flatten=(replicate k z).map .int:=by
 induction k with
 | zero=>rfl
 | succ k ih=>rw[kI,nZ,ih,kI];rfl
def bX1:Φ:=λds Q=> ∃(ns:List Int) (k:Int),ds=[.rol<|ns.map .int,.int k]/\ns.length<=63/\0<=k/\k<4294967296/\ ∀r:Int,Q (.pu<|.int r)
def bX2:US:=(aQ (fE (cO<|uOp (fH false) (jE<|aS 0)<|uC<|.int 0) (d6<|uOp bZ (uC<|.int 7919)<|uOp gI (aB 1)<|uC<|.int 1) cX)<|aQ (fE (cO<|uOp (pH λi j=>decide (i<j)) (aB 1)<|jE<|aS 0) (d6<|uIx (aS 0)<|aB 1) cX)<|d6<|uOp gI (uIx (aS 0)<|uOp jC (aB 1)<|jE<|aS 0)<|uOp bZ (uC<|.int 104729)<|aB 1)
theorem d74 {ns:List Int}{k:Int}(h0:0<=k)(h1:k<ns.length): ∃z,atI (ns.map D.int) k=some (.int z):=by
 obtain⟨i,rfl⟩: ∃i:Nat,k=(i:Int):=⟨k.toNat,ad⟩
 have hi:i<ns.length:=ad
 exact⟨ns[i],cY (by rw[bI,aM hi];rfl)⟩
theorem dN1: Ra bX1 bX2 ["s","k"]:=by
 rintro ds Q ⟨ns,k,rfl,hl,k0,k1,h⟩;unfold bX2;show(aQ _ _:US) _ [~~~.rol (ns.map .int),!k];left;rw[aF];split
 .exact⟨cmL ac ac,h _⟩
 .split
  .obtain⟨z,hz⟩:=d74 (ns:=ns) k0 ad
   rw[hz];exact h z
  .refine⟨ad,?_⟩
   rw[bY _ ad]
   obtain⟨z,hz⟩:=d74 (ns:=ns) (k:=k%ns.length) (cH _ ad) (cG _ ad)
   rw[hz];exact⟨cmL ac ac,h _⟩
def vL:Φ:=λds Q=> ∃i:Int,ds=[.int i]/\Q (.pu<|.bl true)
def bB8:US:=(d6<|c39 (aV d30<|a8 (aB 0)<|a8 (uC<|.ty "int") aP)<|d18<|aV d30<|a8 (aB 0)<|a8 (uC<|.ty "bool") aP)
theorem d75: Ra vL bB8 ["f"]:=by
 rintro ds Q ⟨i,rfl,h⟩;unfold bB8;show(d6 _:US) _ [!i];left
 exists h
theorem aZ5:bootBuiltins "abs"=some (.builtin "abs"):=af
theorem d76:bootBuiltins "max"=some (.builtin "max"):=af
theorem bt_min:bootBuiltins "min"=some (.builtin "min"):=af
theorem xY:bootBuiltins "isinstance"=some (.builtin "isinstance"):=af
theorem cH6:bootBuiltins "int"=some (.type "int"):=af
theorem dN2:bootBuiltins "bool"=some (.type "bool"):=af
theorem i9:bootBuiltins "tuple"=some (.type "tuple"):=af
theorem bX3:bootBuiltins "list"=some (.type "list"):=af
theorem dN3: ∀ds Q,bO8 ds Q->ds.length=1:=by rintro ds Q ⟨i,rfl,_⟩;rfl
theorem nT (t:UE)(D:UD)(ρ:Ev):d6 t D ρ=t ρ (λb _=>D.rt b):=rfl
theorem gN (φ:Φ)(t:UA)(ρ:Ev)(Q:B->Ev->Prop):aV φ t ρ Q=t ρ λds ρ1=>φ ds λb=>Q b ρ1:=rfl
theorem fU (t:UE)(u:UA)(ρ:Ev)(Q:List D->Ev->Prop):a8 t u ρ Q=t ρ λx ρ1=>u ρ1 λxs ρ2=>Q (x.d::xs) ρ2:=rfl
theorem aL (t u:US)(D:UD)(ρ:Ev):aQ t u D ρ=t {D with nx:=u D} ρ:=rfl
theorem pJ (i:Nat)(t:UE)(D:UD)(ρ:Ev):bN i t D ρ=t ρ λb ρ1=>D.nx (ρ1.set i<|some b):=rfl
theorem eV (n:Nat)(it:Nat->D)(ρ1:Ev)(hui: ∀Q:Nat->(Nat->D)->Ev->Prop,Q n it ρ1->ui ρ Q)(hn:n<=1000000)
  (G:Option B->List D->Ev) (x0:Option B) (h0:tQ (aA1 ρ1 js) cap last=G x0 []) (h1: ∀x l b,(G x l).set t0 (some b)=G (some b) l) (h1': ∀x l,t0< (G x l).length) (h2: ∀x l (Q:List D->Prop),Q l->oU (G x l) last Q) (h3: ∀x l l',(G x l).set last (↑l')=G x l')
  (f:Nat->D) (hte: ∀i l (Q':B->Ev->Prop),i<n->Q' (.pu<|f i) (G (~~~it i) l)->te (G (~~~it i) l) Q') (hq:Q (.ow<|(List.range n).map f) (aA1 ρ1 js)) :
  fJ js cap last ui (cE t0) (λρ Q=>Q true ρ) te ρ Q:=by
 refine hui _ ⟨λi ρ'=> ∃x,ρ'=G x ((List.range i).map f),⟨x0,h0⟩,?_,?_⟩
 .rintro i ρ' hi ⟨x,rfl⟩;refine⟨h1' _ _,?_⟩;rw[h1];right;rw[a7 rfl];refine hte i _ _ hi (h2 _ _ _ ⟨?_,~~~it i,?_⟩)
  .rw[aF,uO];exact aZ hi (aI hn ac)
  .rw[h3,bL,bV];rfl
 .rintro ρ' ⟨x,rfl⟩;exact h2 _ _ _ hq
noncomputable def aO (r:List Int):D:= .tup (r.map .int)
noncomputable def cU9 (t:List (List Int)):D:= .tup (t.map aO)
theorem aN4 (l:List D)(i:Nat)(h:i<=l.length):cutD l none (some (i:Int))=l.take i:=by
 unfold cutD;rw[HT.sIx_none,HT.sIx_nat,uT h];simp
theorem aA6 (l:List D)(i:Nat)(h:i<=l.length):cutD l (some (i:Int)) none=l.drop i:=by
 unfold cutD;rw[HT.sIx_none,HT.sIx_nat,uT h];rw[a04 (by rw[a14];exact aD _)]
def a46:Φ:=λds Q=> ∃(t:List (List Int)) (i:Nat),ds=[cU9 t,.int (i:Int)]/\i<t.length/\2<=t.length/\t.length<=1000/\(∀r∈t,1<=r.length)/\Q (.pu<|cU9<|(t.eraseIdx i).map List.tail)
def a47:US:=(d6<|aV eM<|a8 (fJ [] [none,none] 1 (i7<|uOp gI (uSl (aS 0) jA<|n8<|aB 1)<|uSl (aS 0) (n8<|uOp gI (aB 1)<|uC<|.int 1) jA) (cE 0) (λρ Q=>Q true ρ)<|uSl (aS 0) (n8<|uC<|.int 1) jA) aP)
theorem d77 (hi:i<t.length):cutD (t.map aO) none (some (i:Int))++cutD (t.map aO) (some<|(i:Int)+1) none=(t.eraseIdx i).map aO:=by
 have hl:(t.map aO).length=t.length:=aF _;have e1:cutD (t.map aO) none (some (i:Int))=(t.take i).map aO:=by rw[aN4 _ _ ad,oC]
 have e2:cutD (t.map aO) (some<|(i:Int)+1) none=(t.drop<|i+1).map aO:=by
  have:=aA6 (t.map aO) (i+1) ad
  rw[uX]
  exact_mod_cast this
 rw[e1,e2,<-bV,<-List.eraseIdx_eq_take_drop_succ]
theorem cH7 (hi:i<t.length)(h1000:t.length<=1000)(hr: ∀r∈t,1<=r.length)(hui: ∀Q':Nat->(Nat->D)->Ev->Prop,Q' ((t.eraseIdx i).map aO).length (λk=>((t.eraseIdx i).map aO).getD k .non) ρ->ui ρ Q')(h:Q (.ow<|((t.eraseIdx i).map List.tail).map aO) ρ) :
  fJ [] [none,none] 1 ui (cE 0) (λρ Q=>Q true ρ) (uSl (aS 0) (n8<|uC<|.int 1) jA) ρ Q:=by
 have le:(t.eraseIdx i).length=t.length-1:=uE hi;refine eV (t0:=0) ((t.eraseIdx i).map aO).length (λk=>((t.eraseIdx i).map aO).getD k .non) ρ hui (by rw[aF];lia)
  (λx l=>[x,↑l]) none rfl (λ_ _ _=>rfl) (λ_ _=>cN _) (λ_ _ _ q=>q) (λ_ _ _=>rfl) (λk=>aO (((t.eraseIdx i).getD k []).tail)) ?_ ?_
 .intro k l Q' hk q;rw[aF]at hk;have ek:((t.eraseIdx i).map aO).getD k .non=aO ((t.eraseIdx i).getD k []):=by
   rw[aJ,aJ,bI,aM hk];rfl
  have hm:1<=((t.eraseIdx i).getD k []).length:=by
   rw[aJ,aM hk];exact hr _ (a01<|cQ hk)
  rw[ek]at q⊢;generalize (t.eraseIdx i).getD k []=r at hm q;simp only[aO]at q⊢;left;have lr:(r.map D.int).length=r.length:=aF _;have ec:cutD (r.map D.int) (some 1) none=r.tail.map D.int:=by
   have:=aA6 (r.map D.int) 1 ad
   rw[show((1:Nat):Int)=1 from rfl]at this
   rw[this,<-uX,drop_one]
  refine⟨?_,by rw[ec];exact q⟩
  rw[lr];have:HT.sIx r.length 0 (some 1)=min 1 r.length:=HT.sIx_nat r.length 0 1;rw[this];lia
 .have em:(List.range ((t.eraseIdx i).map aO).length).map (λk=>aO (((t.eraseIdx i).getD k []).tail))=((t.eraseIdx i).map List.tail).map aO:=by
   rw[aF];apply kM
   .simp
   .intro k h1 h2;simp at h1;simp[h1,aJ]
  rw[em];exact h
theorem bX4: Ra a46 a47 ["t","i"]:=by
 rintro ds Q ⟨t,i,rfl,hi,h2,h1000,hr,h⟩;unfold a47;show(d6 _:US) _ [~~~cU9 t,!(i:Int)];have hl:(t.map aO).length=t.length:=aF _;rw[nT,gN,fU];refine cH7 hi h1000 hr (λQ' q=> ?_) ?_
 .simp only[i7,cU9];left;rw[<-dD,d77 hi];refine⟨?_,?_,aI (show _<=2000 by rw[aF,uE hi];lia) ac,q⟩
  .rw[hl,HT.sIx_none,HT.sIx_nat];lia
  .rw[hl,HT.sIx_none];have:HT.sIx t.length 0 (some<|(i:Int)+1)=min (i+1) t.length:=by exact_mod_cast HT.sIx_nat t.length 0 (i+1)
   rw[this];lia
 .left
  exact h
noncomputable def d5:Nat->List (List Int)->Int
 | 0,_=>0
 | n+1,t=>if t.length=1 then(t.getD 0 []).getD 0 0 else((List.range t.length).map λi=>(if i%2=0 then 1 else -1)*(t.getD i []).getD 0 0*d5 n ((t.eraseIdx i).map List.tail)).sum
structure Sq (n:Nat)(t:List (List Int)):Prop where
 pos:1<=t.length
 le:t.length<=n
 row: ∀r∈t,r.length=t.length
 small: ∀r∈t,∀x∈r,x.natAbs<2^2000
def iA (n:Nat):Φ:=λds Q=> ∃t:List (List Int),ds=[cU9 t]/\Sq n t/\Q (.pu<|.int<|d5 n t)
def bB9 (iA:Φ):US:=(aQ (fE (cO<|uOp (fH false) (jE<|aS 0)<|uC<|.int 1) (d6<|uIx (uV<|uIx (aS 0)<|uC<|.int 0)<|uC<|.int 0) cX)<|aQ (bN 1<|uC<|.int 0)<|aQ (bN 2<|uC<|.int 1)<|aQ (jI (jJ<|a8 (jE<|aS 0) aP) (cE 3)<|aQ (c41 1 (gI2 λi j Q=>Q (.pu<|.int<|i+j))<|uOp bZ (uOp bZ (aB 2)<|uIx (uV<|uIx (aS 0)<|aB 3)<|uC<|.int 0)<|aV iA<|a8 (aV a46<|a8 (aB 0)<|a8 (aB 3) aP) aP)<|bN 2<|sJ<|aB 2)<|tP 1)
theorem aF3 (n:Nat): ∀ds Q,iA n ds Q->ds.length=1:=by rintro ds Q ⟨a,rfl,_⟩;rfl
theorem Sq.less (h:Sq (n+1) t)(h2:t.length≠1)(hi:i<t.length):Sq n ((t.eraseIdx i).map List.tail):=by
 have le:(t.eraseIdx i).length=t.length-1:=uE hi;have hp:=h.pos;have hl:=h.le;refine⟨by rw[aF];lia,by rw[aF];lia,λr hr=> ?_,λr hr x hx=> ?_⟩
 .obtain⟨r',hr',rfl⟩:=cC.mp hr;rw[aF,List.length_tail,h.row r'<|a01 hr',le]
 .obtain⟨r',hr',rfl⟩:=cC.mp hr;exact h.small r' (a01 hr') x (List.mem_of_mem_tail hx)
theorem aZ6 (f:∅)(b:Nat): ∀n:Nat,(∀i,i<n->(f i).natAbs<=b)->(((List.range n).map f).sum).natAbs<=n*b
 | 0,_=>ae
 | n+1,h=>by
  rw[bL,bV,a21];have h1:=aZ6 f b n λi hi=>h i (lJ hi)
  have h2:=h n (uQ n);have h3:((List.map f [n]).sum)=f n:=ae
  rw[h3,Nat.succ_mul];omega
theorem aZ7: ∀(n:Nat) (t:List (List Int)),n<=4->Sq n t->(d5 n t).natAbs<=2^(2010*n)
 | 0,t,_,h=>by have:=h.pos;have:=h.le;lia
 | n+1,t,hn,h=>by
  have entry: ∀i,i<t.length->((t.getD i []).getD 0 0).natAbs<=2^2000:=λi hi=>by
   have eg:t.getD i []=t[i]:=by rw[aJ,aM hi];rfl
   rw[eg];have hr:=h.row _ (cQ hi);have hp:=h.pos;have h0:0< (t[i]).length:=ad
   rw[aJ,aM h0];exact oE (h.small _ (cQ hi) _<|cQ h0)
  unfold d5;split
  .have:=entry 0 (by have:=h.pos;lia)
   exact aI this (qO ac ad)
  .rename_i h1
   refine aI (aZ6 _ (2^2000*2^(2010*n)) _ λi hi=> ?_) ?_
   .rw[dX,dX];have e1:(if i%2=0 then(1:Int)else -1).natAbs=1:=by split<;>rfl
    rw[e1,a34];exact jQ (entry i hi) (aZ7 n _ ad<|h.less h1 hi)
   .have hl:=h.le;have e:2^(2010*(n+1))=2^10*(2^2000*2^(2010*n)):=by
     rw[<-lP,<-lP];congr 1;lia
    rw[e];exact uH _ ad
theorem Sm.pow {i:Int}(h:i.natAbs<=2^k)(hk:k<9000):Sm i:=qV h (aK9 ac hk)
theorem cN7 (h:i<t.length):atI (t.map aO) (0+(i:Int))=some (aO<|t.getD i []):=by
 rw[bS];refine cY ?_;rw[bI,aM h,aJ,aM h];rfl
theorem zD {r:List Int}(h:0<r.length):atI (r.map D.int) 0=some (.int<|r.getD 0 0):=by
 refine cY (j:=0) ?_
 rw[bI,aM h,aJ,aM h];rfl
theorem aS0 (n:Nat)(hn:n<4): ∀ds Q,iA (n+1) ds Q->bB9 (iA n) {nx:=λ_=>Q (.pu .non),rt:=Q} (init ["t","o","s","i"] ds):=by
 rintro ds Q ⟨t,rfl,sq,h⟩;have hp:=sq.pos;have hle:=sq.le;have lt:(t.map aO).length=t.length:=aF _;have lrow: ∀i,i<t.length->0< (t.getD i []).length:=λi hi=>by
  rw[aJ,aM hi];have:=sq.row _ (cQ hi);show 0< (t[i]).length
  lia
 unfold bB9;show(aQ _ _:US) _ [~~~.tup (t.map aO),none,none,none];left;rw[lt];split
 .rename_i h1
  have h1':t.length=1:=ad
  have:=cN7 (t:=t) (i:=0) ad
  rw[show(0:Int)+((0:Nat):Int)=0 from rfl]at this
  rw[this];simp only[aO];rw[zD<|lrow 0 ad]
  unfold d5 at h;rw[a7 h1']at h;exact h
 .rename_i h1
  have h1':t.length≠1:=ad
  unfold d5 at h;rw[a6 h1']at h;refine bM t.length (λi=> .int (0+i)) [~~~.tup (t.map aO),!0,!1,none] ?_ (λi ρ=> ∃x,ρ=[~~~.tup (t.map aO),some<|.pu<|.int ((List.range i).map λi=>(if i%2=0 then 1 else -1)*(t.getD i []).getD 0 0*d5 n ((t.eraseIdx i).map List.tail)).sum,!if i%2=0 then 1 else -1,x]) ?_ ?_ ?_
  .intro Q' q;simp only[jJ];left;rw[lt];refine⟨⟨ad,ad⟩,?_⟩
   rw[dU];exact q
  .exact⟨none,rfl⟩
  .rintro i ρ hi ⟨x,rfl⟩;left;refine⟨ac,?_⟩
   rw[cN7 hi];simp only[aO];rw[zD<|lrow i hi];have sg:Sm (if i%2=0 then(1:Int)else -1):=by split<;>exact aN3 ac ac
   have eg:t.getD i []=t[i]:=by rw[aJ,aM hi];rfl
   have en:((t.getD i []).getD 0 0).natAbs<=2^2000:=by
    have h0:=lrow i hi;rw[eg]at h0⊢;rw[aJ,aM h0];exact oE (sq.small _ (cQ hi) _<|cQ h0)
   have se:Sm ((t.getD i []).getD 0 0):=Sm.pow en ac
   refine⟨.inr ⟨sg,se⟩,t,i,by rw[bS];rfl,hi,ad,ad,λr hr=>by rw[sq.row r hr];exact hp,?_⟩
   refine⟨_,rfl,sq.less h1' hi,?_⟩
   have sd:Sm (d5 n<|(t.eraseIdx i).map List.tail):=Sm.pow (aZ7 n _ ad<|sq.less h1' hi) ad
   have sp:Sm ((if i%2=0 then(1:Int)else -1)*(t.getD i []).getD 0 0):=by
    refine Sm.pow (k:=2000) ?_ ac
    rw[dX];have e1:(if i%2=0 then(1:Int)else -1).natAbs=1:=by split<;>rfl
    rw[e1,a34];exact en
   left
   refine⟨.inr ⟨sp,sd⟩,!(0+(i:Int)),?_⟩
   have e2: -(if i%2=0 then(1:Int)else -1)=(if(i+1)%2=0 then 1 else -1):=by
    by_cases q:i%2=0
    .rw[a7 q,a6 ad]
    .rw[a6 q,a7 ad];rfl
   rw[e2,bL,bV,a21];simp
  .rintro ρ ⟨x,rfl⟩;left;exact h
noncomputable def mC (p:List Int)(k:Nat)(sums:List Int):Int:=
 -(((List.range<|min (k-1)<|p.length-1).map λi=>p.getD (p.length-1-(i+1)) 0*sums.getD (k-(i+1)) 0).sum+(if k<=p.length-1 then(k:Int)*p.getD (p.length-1-k) 0 else 0))
noncomputable def fO (p:List Int):Nat->List Int
 | 0=>[((p.length-1:Nat):Int)]
 | k+1=>fO p k++[mC p (k+1)<|fO p k]
theorem vM (p:List Int): ∀k,(fO p k).length=k+1
 | 0=>rfl
 | k+1=>by unfold fO;rw[dD,vM p k];rfl
structure b76 (p:List Int):Prop where
 lo:3<=p.length
 hi:p.length<=5
 small: ∀x∈p,x.natAbs<=499
theorem fA {l:List Int}{b:Nat}(h: ∀x∈l,x.natAbs<=b)(i:Nat):(l.getD i 0).natAbs<=b:=by
 rw[aJ];cases e:l[i]? with
 | none=>exact gA _
 | some x=>exact h x (aK6 e)
theorem a48 {p:List Int}(hp:b76 p): ∀k,k<=6-> ∀x∈fO p k,x.natAbs<=2^(15*k+3)
 | 0,_,x,hx=>by
  have:=hp.hi;have e:x=((p.length-1:Nat):Int):=by simpa[fO]using hx
  rw[e,aL5];have:(2:Nat)^(15*0+3)=8:=rfl;omega
 | k+1,hk,x,hx=>by
  have ih:=a48 hp k aa
  have ep:(2:Nat)^(15*(k+1)+3)=32768*2^(15*k+3):=by
   rw[show 15*(k+1)+3=15+(15*k+3)by omega,lP]
  have hb:8<=2^(15*k+3):=by
   rw[lP];have:1<=2^(15*k):=Nat.one_le_two_pow;omega
  unfold fO at hx;rcases bU.mp hx with hx|hx
  .have:=ih x hx;omega
  .have e:x=mC p (k+1) (fO p k):=by exists hx
   rw[e];unfold mC;rw[uW];have hl:=hp.hi;have s1:=aZ6 (λi=>p.getD (p.length-1-(i+1)) 0*(fO p k).getD (k+1-(i+1)) 0) (499*2^(15*k+3)) (min (k+1-1)<|p.length-1) λi _=>by
    rw[dX];exact jQ (fA hp.small _) (fA ih _)
   have s2:(if k+1<=p.length-1 then((k+1:Nat):Int)*p.getD (p.length-1-(k+1)) 0 else 0).natAbs<=4*499:=by
    split
    .rw[dX,aL5];exact jQ aa (fA hp.small _)
    .exact gA _
   have s3:min (k+1-1) (p.length-1)*(499*2^(15*k+3))<=4*(499*2^(15*k+3)):=uH _ aa
   have s4:=a12 (((List.range<|min (k+1-1)<|p.length-1).map λi=>p.getD (p.length-1-(i+1)) 0*(fO p k).getD (k+1-(i+1)) 0).sum) (if k+1<=p.length-1 then((k+1:Nat):Int)*p.getD (p.length-1-(k+1)) 0 else 0)
   omega
def vO:Φ:=λds Q=> ∃(p:List Int) (m:Nat),ds=[aO p,.int (m:Int)]/\b76 p/\1<=m/\m<=7/\Q (.ow<|(fO p<|m-1).map .int)
def vP:US:=(aQ (bN 2<|uOp M.gSub (jE<|aS 0)<|uC<|.int 1)<|aQ (bN 3<|lY<|a8 (aB 2) aP)<|aQ (jI (vE<|a8 (uC<|.int 1)<|a8 (aB 1) aP) (cE 4)<|aQ (bN 5<|aV gSum<|a8 (fJ [2,4] [none,some 0,some 2,some 3,some 4,none] 5 (vE<|a8 (uC<|.int 1)<|a8 (uOp gI (aV gMin<|a8 (uOp M.gSub (aB 4)<|uC<|.int 1)<|a8 (aB 2) aP)<|uC<|.int 1) aP) (cE 0) (λρ Q=>Q true ρ)<|uOp bZ (uIx (aS 1)<|uOp M.gSub (aB 2)<|aB 0)<|uIx (aS 3)<|uOp M.gSub (aB 4)<|aB 0) aP)<|aQ (fE (cO<|uOp (pH λi j=>decide (i<=j)) (aB 4)<|aB 2) (c41 5 (gI2 λi j Q=>Q (.pu<|.int<|i+j))<|uOp bZ (aB 4)<|uIx (aS 0)<|uOp M.gSub (aB 2)<|aB 4) cX)<|aQ4 3<|sJ<|aB 5)<|tP 3)
theorem sL {ns:List Int}(h:k<ns.length):atI (ns.map D.int) (k:Int)=some (.int<|ns.getD k 0):=by
 refine cY ?_
 rw[bI,aM h,aJ,aM h];rfl
theorem bC0: Ra vO vP ["p","m","n","s","k","t"]:=by
 rintro ds Q ⟨p,m,rfl,hp,m1,m7,h⟩;have hlo:=hp.lo;have hhi:=hp.hi;have lp:(p.map D.int).length=p.length:=aF _;unfold vP;show(aQ _ _:US) _ [~~~.tup (p.map .int),!(m:Int),none,none,none,none];rw[aL,pJ];left;rw[lp];refine⟨ac,?_⟩
 have en:(p.length:Int)-1=((p.length-1:Nat):Int):=ad
 rw[en];refine bM (m-1) (λi=> .int (1+i)) _ ?_
  (λi ρ=> ∃x4 x5,ρ=[~~~.tup (p.map .int),!(m:Int),!((p.length-1:Nat):Int),↑((fO p i).map .int),x4,x5]) ⟨none,none,rfl⟩ ?_ ?_
 .intro Q' q;simp only[vE];left;refine⟨ad,?_⟩
  rw[show((m:Int)-1).toNat=m-1 by lia]
  exact q
 .rintro i ρ hi ⟨x4,x5,rfl⟩;have bn:=a48 hp i ad
  refine⟨by show 4<6;decide,?_⟩
  dsimp only[set_cons_succ,set_cons_zero];rw[aL,pJ,gN,fU];refine eV (t0:=0) (min i<|p.length-1) (λj=> .int (1+j)) [~~~.tup (p.map .int),!(m:Int),!((p.length-1:Nat):Int),↑((fO p i).map .int),!(1+(i:Int)),x5] ?_ ad
   (λx l=>[x,~~~.tup (p.map .int),!((p.length-1:Nat):Int),some<|.bo<|(fO p i).map .int,!(1+(i:Int)),↑l]) none rfl (λ_ _ _=>rfl) (λ_ _=>cN _) (λ_ _ _ q=>q) (λ_ _ _=>rfl)
   (λj=> .int (p.getD (p.length-1-(j+1)) 0*(fO p i).getD (i+1-(j+1)) 0)) ?_ ?_
  .intro Q' q;simp only[vE];left;have e:(if((p.length-1:Nat):Int)<1+(i:Int)-1 then((p.length-1:Nat):Int)else 1+(i:Int)-1)=((min i (p.length-1):Nat):Int):=by split<;>lia
   rw[e];refine⟨ad,?_⟩
   rw[show(((min i (p.length-1):Nat):Int)+1-1).toNat=min i (p.length-1)by lia]
   exact q
  .intro j l Q' hj q;have hj1:j<i:=ad
   have hj2:j<p.length-1:=ad
   left
   rw[show((p.length-1:Nat):Int)-(1+(j:Int))=((p.length-1-(j+1):Nat):Int)by lia,show 1+(i:Int)-(1+(j:Int))=((i+1-(j+1):Nat):Int)by lia]
   rw[sL ad,sL (by rw[vM];lia)]
   exact⟨.inr ⟨Sm.pow (k:=9) (aI (fA hp.small _) ac) ac,Sm.pow (fA bn _) ad⟩,q⟩
  .have es:((List.range<|min i<|p.length-1).map λj=>D.int (p.getD (p.length-1-(j+1)) 0*(fO p i).getD (i+1-(j+1)) 0))=((List.range<|min i<|p.length-1).map λj=>p.getD (p.length-1-(j+1)) 0*(fO p i).getD (i+1-(j+1)) 0).map D.int:=by
    rw[eZ];rfl
   rw[es];generalize hT:((List.range<|min i<|p.length-1).map λj=>p.getD (p.length-1-(j+1)) 0*(fO p i).getD (i+1-(j+1)) 0)=T
   left
   rw[bP2];right;have last: ∀z:Int,z= -(mC p (i+1)<|fO p i)->(fO p i).map D.int++[D.int<|-z]=(fO p<|i+1).map D.int:=λz hz=>by
    rw[hz]
    conv=>rhs;unfold fO
    rw[bV];simp
   have lz:((fO p i).map D.int).length<sizeLine:=by
    rw[aF,vM];exact aZ (show _<100 by lia) ac
   by_cases hk:i+1<=p.length-1
   .rw[a7 ad]
    rw[show((p.length-1:Nat):Int)-(1+(i:Int))=((p.length-1-(i+1):Nat):Int)by lia,sL ad]
    have hz1:T.sum+(1+(i:Int))*p.getD (p.length-1-(i+1)) 0= -(mC p (i+1)<|fO p i):=by
     unfold mC;rw[Int.neg_neg,a7 hk,<-hT];rw[show i+1-1=i from rfl,show((i+1:Nat):Int)=1+(i:Int)by lia]
    right;rw[last _ hz1];exact⟨.inr ⟨aN3 ad ad,Sm.pow (k:=9) (aI (fA hp.small _) ac) ac⟩,lz,_,_,rfl⟩
   .rw[a6 ad]
    have hz1:T.sum= -(mC p (i+1)<|fO p i):=by
     unfold mC;rw[Int.neg_neg,a6 hk,<-hT,dY];rfl
    rw[last _ hz1];exact⟨lz,_,_,rfl⟩
 .rintro ρ ⟨x4,x5,rfl⟩;left;exact h
theorem cH8: ∀ds Q,¬iA 0 ds Q:=by
 rintro ds Q ⟨t,rfl,sq,_⟩;have:=sq.pos;have:=sq.le;omega
theorem d78 (t:UE)(D:UD)(ρ:Ev):aQ9 t D ρ=t ρ (λ_ ρ1=>D.nx ρ1):=rfl
structure dO (p:List Int):Prop where
 ok:b76 p
 one: ∃q,p=q++[1]
noncomputable def c57 (c:Int):Bool:=decide ((if c<0 then -c else c)<=499)
noncomputable def dN4 (p:List Int):Bool:=decide (3<=p.length)&&(decide (p.length<=5)&&(decide (p.getD (p.length-1) 0=1)&&p.all c57))
theorem aZ8: ∀(q:List Int) (x:Int),(q++[x]).getD ((q++[x]).length-1) 0=x:=λq x=>by
 rw[dD,aJ,qF ae]
 simp
theorem d79 (p:List Int):dN4 p=true↔dO p:=by
 unfold dN4;simp only[iI,o7,kL];constructor
 .rintro⟨h1,h2,h3,h4⟩;refine⟨⟨h1,h2,λx hx=> ?_⟩,?_⟩
  .have:=o9 (h4 x hx);split at this<;>lia
  .rcases List.eq_nil_or_concat p with rfl| ⟨q,x,rfl⟩
   .simp at h1
   .rw[List.concat_eq_append]at h3⊢;rw[aZ8]at h3;exact⟨q,by rw[h3]⟩
 .intro h;refine⟨h.ok.lo,h.ok.hi,?_,λx hx=>fL ?_⟩
  .obtain⟨q,rfl⟩:=h.one;exact aZ8 q 1
  .have:=h.ok.small x hx;split<;>lia
theorem cV0 (h:0<p.length):atI (p.map D.int) (-1)=some (.int<|p.getD (p.length-1) 0):=by
 rcases List.eq_nil_or_concat p with rfl| ⟨q,x,rfl⟩
 .simp at h
 .rw[List.concat_eq_append,aZ8,bV];exact d14 _ _
def pK:Φ:=λds Q=> ∃p:List Int,ds=[aO p]/\p.length<=1000/\Q (.pu<|.bl<|dN4 p)
def vQ:US:=(d6<|aV c45<|a8 (fJ [] [none,none] 1 (i7<|aB 0) (cE 0) (λρ Q=>Q true ρ)<|uOp (pH λi j=>decide (i<=j)) (aV c42<|a8 (aB 0) aP)<|uC<|.int 499) aP)
def pL:US:=(aQ (fE (uOr (cO<|uOp (pH λi j=>decide (i<j)) (jE<|aS 0)<|uC<|.int 3)<|uOr (cO<|uOp (pH λi j=>decide (j<i)) (jE<|aS 0)<|uC<|.int 5)<|cO<|uOp (fH true) (uIx (aS 0)<|sJ<|uC<|.int 1)<|uC<|.int 1) (d6<|uC<|.bl false) cX) vQ)
theorem aS1: Ra pK pL ["r"]:=by
 rintro ds Q ⟨p,rfl,hn,h⟩;have lp:(p.map D.int).length=p.length:=aF _;unfold pL;simp only[aO];show(aQ _ _:US) _ [~~~.tup (p.map .int)];rw[aL];left;rw[lp];unfold dN4 at h
 by_cases h3:(p.length:Int)<3
 .rw[a7 h3];rw[fX ad]at h
  exact h
 rw[a6 h3];rw[fL<|show 3<=p.length by lia,Bool.true_and]at h
 by_cases h5:(5:Int)< (p.length:Int)
 .rw[a7 h5];rw[fX<|show ¬p.length<=5 by lia]at h
  exact h
 rw[a6 h5];rw[fL<|show p.length<=5 by lia,Bool.true_and]at h
 rw[cV0 ad]
 right
 by_cases h1:p.getD (p.length-1) 0=1
 .rw[fL h1,Bool.true_and]at h;rw[a6 λz=>z h1]
  unfold vQ;rw[nT,gN,fU];refine eV (t0:=0) p.length (λk=>(p.map D.int).getD k .non) [~~~.tup (p.map .int)] ?_ ad (λx l=>[x,↑l]) none rfl (λ_ _ _=>rfl) (λ_ _=>cN _) (λ_ _ _ q=>q) (λ_ _ _=>rfl) (λk=> .bl (c57<|p.getD k 0)) ?_ ?_
  .intro Q' q;simp only[i7];left;rw[lp];exact q
  .intro k l Q' hk q;have ek:(p.map D.int).getD k .non= .int (p.getD k 0):=by
    rw[aJ,bI,aJ,aM hk];rfl
   rw[ek]at q⊢;left;exact q
  .have e:((List.range p.length).map λk=>D.bl (c57<|p.getD k 0))=(p.map c57).map D.bl:=by
    rw[eZ];refine kM ae λi h1 h2=> ?_
    simp at h1
    simp[h1]
   rw[e];left;rw[lZ];show Q (.pu<|.bl<|(p.map c57).all id);rw[List.all_map];exact h
 .rw[fX h1]at h;rw[a7 h1];exact h
def iQ:Φ:=λds Q=> ∃p:List Int,ds=[aO p]/\dO p/\Q (.pu .non)
def nG:US:=(fE (aY3<|cO<|aV pK<|a8 (aB 0) aP) (λ_ _=>False) cX)
theorem aG1: Ra iQ nG ["r"]:=by
 rintro ds Q ⟨p,rfl,hp,h⟩;have hi:=hp.ok.hi;unfold nG;show(fE _ _ _:US) _ [~~~aO p];left;refine⟨p,rfl,ad,?_⟩
 rw[(d79 p).mpr hp]
 exists h
noncomputable def bT (p:List Int):List (List Int):=(List.range<|p.length-1).map λi=>((fO p<|2*(p.length-1)-2).drop i).take (p.length-1)
def a49:Φ:=λds Q=> ∃p:List Int,ds=[aO p]/\dO p/\Q (.pu<|.int<|d5 4<|bT p)
def a50:US:=(aQ (aQ9<|aV iQ<|a8 (aB 0) aP)<|aQ (bN 1<|uOp M.gSub (jE<|aS 0)<|uC<|.int 1)<|aQ (bN 2<|aV vO<|a8 (aB 0)<|a8 (uOp M.gSub (uOp bZ (uC<|.int 2)<|aB 1)<|uC<|.int 1) aP)<|d6<|aV (iA 4)<|a8 (aV eM<|a8 (fJ [1] [none,some 2,some 1,none] 3 (jJ<|a8 (aB 1) aP) (cE 0) (λρ Q=>Q true ρ)<|aV eM<|a8 (uSl (aS 1) (n8<|aB 0)<|n8<|uOp gI (aB 0)<|aB 2) aP) aP) aP)
theorem cV1 (hp:b76 p):Sq 4 (bT p):=by
 have hlo:=hp.lo;have hhi:=hp.hi;have bn:=a48 hp (2*(p.length-1)-2) aa
 have nl:=vM p (2*(p.length-1)-2);have hl:(bT p).length=p.length-1:=by unfold bT;simp
 refine⟨aa,aa,λr hr=> ?_,λr hr x hx=> ?_⟩
 .unfold bT at hr;obtain⟨i,hi,rfl⟩:=cC.mp hr;have:=dW.mp hi;rw[hl,qX,a14,nl];omega
 .unfold bT at hr;obtain⟨i,hi,rfl⟩:=cC.mp hr;refine qV (bn x<|List.mem_of_mem_drop<|List.mem_of_mem_take hx) ?_;exact aK9 ac aa
theorem dN5 (l:List D)(i n:Nat)(h:i+n<=l.length):cutD l (some (i:Int)) (some ((i+n:Nat):Int))=(l.drop i).take n:=by
 unfold cutD;rw[HT.sIx_nat,HT.sIx_nat,uT<|show i<=l.length by lia,uT h]
 congr 1
 lia
theorem bX5: Ra a49 a50 ["p","n","s"]:=by
 rintro ds Q ⟨p,rfl,hp,h⟩;have hlo:=hp.ok.lo;have hhi:=hp.ok.hi;have lp:(p.map D.int).length=p.length:=aF _;have en:(p.length:Int)-1=((p.length-1:Nat):Int):=ad
 have nl:=vM p (2*(p.length-1)-2);have fin:(d6 (aV (iA 4)<|a8 (aV eM<|a8 (fJ [1] [none,some 2,some 1,none] 3 (jJ<|a8 (aB 1) aP) (cE 0) (λρ Q=>Q true ρ)<|aV eM<|a8 (uSl (aS 1) (n8<|aB 0)<|n8<|uOp gI (aB 0)<|aB 2) aP) aP) aP):US) {nx:=λ_=>Q (.pu .non),rt:=Q}
   [~~~.tup (p.map .int),!((p.length-1:Nat):Int),↑((fO p<|2*(p.length-1)-2).map .int)]:=by
  rw[nT,gN,fU,gN,fU];refine eV (t0:=0) (p.length-1) (λi=> .int (0+i)) [~~~.tup (p.map .int),!((p.length-1:Nat):Int),↑((fO p<|2*(p.length-1)-2).map .int)] ?_ ad
   (λx l=>[x,some<|.bo<|(fO p<|2*(p.length-1)-2).map .int,!((p.length-1:Nat):Int),↑l]) none rfl (λ_ _ _=>rfl) (λ_ _=>cN _) (λ_ _ _ q=>q) (λ_ _ _=>rfl)
   (λi=>aO (((fO p<|2*(p.length-1)-2).drop i).take<|p.length-1)) ?_ ?_
  .intro Q' q;simp only[jJ];left;refine⟨ad,?_⟩
   rw[dU];exact q
  .intro i l Q' hi q;left;have e:cutD ((fO p<|2*(p.length-1)-2).map D.int) (some<|0+(i:Int)) (some<|0+(i:Int)+((p.length-1:Nat):Int))=(((fO p<|2*(p.length-1)-2).drop i).take<|p.length-1).map D.int:=by
    rw[bS,show(i:Int)+((p.length-1:Nat):Int)=((i+(p.length-1):Nat):Int)by lia,dN5 _ _ _ (by rw[aF,nl];lia),oC,uX]
   rw[e];exact q
  .simp only[eM,g1,B.d,aP,sI];refine⟨bT p,?_,cV1 hp.ok,h⟩;unfold cU9 bT;rw[eZ];rfl
 unfold a50;show(aQ _ _:US) _ [~~~.tup (p.map .int),none,none];rw[aL,d78,gN,fU];simp only[aB,aQ0,aP,B.d,qH];refine⟨p,rfl,hp,?_⟩;rw[aL,pJ];simp only[uOp,jE,aS,bO5,uC,sI,M.gSub,gI2,B.d,qH,lp,b85,b84,en];rw[aL,pJ,gN];simp only[a8,aP,uOp,aB,aQ0,uC,M.gSub,bZ,gI2,B.d,qH,aJ6];refine⟨cmL ac ac,?_⟩
 refine⟨p,2*(p.length-1)-1,?_,hp.ok,ad,ad,?_⟩
 .rw[show(2:Int)*((p.length-1:Nat):Int)-1=((2*(p.length-1)-1:Nat):Int)by lia];rfl
 .rw[show 2*(p.length-1)-1-1=2*(p.length-1)-2 by lia]
  exact fin
noncomputable def cH9 (e d c b:Int):Int:=12*e-3*b*d+c*c
noncomputable def d80 (e d c b:Int):Int:=72*c*e+9*b*c*d-27*d*d-27*b*b*e-2*c*c*c
noncomputable def aS2:List Int->Int
 | [c0,c1,_]=>c1*c1-4*c0
 | [d,c,b,_]=>b*b*c*c-4*c*c*c-4*b*b*b*d-27*d*d+18*b*c*d
 | [e,d,c,b,_]=>(4*cH9 e d c b*cH9 e d c b*cH9 e d c b-d80 e d c b*d80 e d c b).fdiv 27
 | _=>0
theorem dO.cases {p:List Int}(h:dO p):(∃a b:Int,p=[a,b,1]/\a.natAbs<=499/\b.natAbs<=499)\/(∃a b c:Int,p=[a,b,c,1]/\a.natAbs<=499/\b.natAbs<=499/\c.natAbs<=499)\/
  ∃a b c d:Int,p=[a,b,c,d,1]/\a.natAbs<=499/\b.natAbs<=499/\c.natAbs<=499/\d.natAbs<=499:=by
 obtain⟨q,rfl⟩:=h.one;have lo:=h.ok.lo;have hi:=h.ok.hi;have sm: ∀x∈q,x.natAbs<=499:=λx hx=>h.ok.small x (a06 _ hx)
 rw[dD,aK4]at lo hi
 match q,lo,hi,sm with
 | [a,b],_,_,sm=>exact .inl ⟨a,b,rfl,sm a ae,sm b ae⟩
 | [a,b,c],_,_,sm=>exact .inr (.inl ⟨a,b,c,rfl,sm a ae,sm b ae,sm c ae⟩)
 | [a,b,c,d],_,_,sm=>exact .inr (.inr ⟨a,b,c,d,rfl,sm a ae,sm b ae,sm c ae,sm d ae⟩)
 | [],lo,_,_=>simp at lo
 | [_],lo,_,_=>simp at lo
 | _::_::_::_::_::_,_,hi,_=>simp at hi
noncomputable def cV2 (a b c:Int):Int:=1*a*c+(-1*b*b+0)
noncomputable def dN6 (s t u v w:Int):Int:=1*s*cV2 u v w+(-1*t*(1*t*w+(-1*v*u+0))+(1*u*(1*t*v+(-1*u*u+0))+0))
theorem hk2 (c b:Int):d5 4 (bT [c,b,1])=cV2 2 (-(0+1*b)) (-((b* -(0+1*b)+0)+2*c)):=by kernel_rfl
theorem id2 (c0 c1:Int):d5 4 (bT [c0,c1,1])=c1*c1-4*c0:=by
 rw[hk2];unfold cV2;grind
noncomputable def bX6 (b:Int):Int:= -(0+1*b)
noncomputable def bX7 (c b:Int):Int:= -((b*bX6 b+0)+2*c)
noncomputable def c58 (d c b:Int):Int:= -((b*bX7 c b+(c*bX6 b+0))+3*d)
noncomputable def hkNd (d c b:Int):Int:= -((b*c58 d c b+(c*bX7 c b+(d*bX6 b+0)))+0)
theorem hk3 (d c b:Int):d5 4 (bT [d,c,b,1])=dN6 3 (bX6 b) (bX7 c b) (c58 d c b) (hkNd d c b):=by kernel_rfl
theorem id3 (d c b:Int):d5 4 (bT [d,c,b,1])=b*b*c*c-4*c*c*c-4*b*b*b*d-27*d*d+18*b*c*d:=by
 rw[hk3];unfold dN6 cV2 hkNd c58 bX7 bX6;grind
noncomputable def dN7 (e d c b:Int):Int:= -((b*c58 d c b+(c*bX7 c b+(d*bX6 b+0)))+4*e)
noncomputable def hkMe (e d c b:Int):Int:= -((b*dN7 e d c b+(c*c58 d c b+(d*bX7 c b+(e*bX6 b+0))))+0)
noncomputable def hkMf (e d c b:Int):Int:= -((b*hkMe e d c b+(c*dN7 e d c b+(d*c58 d c b+(e*bX7 c b+0))))+0)
noncomputable def hkD4 (s0 s1 s2 s3 s4 s5 s6:Int):Int:=1*s0*dN6 s2 s3 s4 s5 s6+(-1*s1*(1*s1*cV2 s4 s5 s6+(-1*s3*(1*s2*s6+(-1*s5*s3+0))+(1*s4*(1*s2*s5+(-1*s4*s3+0))+0)))+(1*s2*(1*s1*(1*s3*s6+(-1*s5*s4+0))+(-1*s2*(1*s2*s6+(-1*s5*s3+0))+(1*s4*(1*s2*s4+(-1*s3*s3+0))+0)))+(-1*s3*(1*s1*(1*s3*s5+(-1*s4*s4+0))+(-1*s2*(1*s2*s5+(-1*s4*s3+0))+(1*s3*(1*s2*s4+(-1*s3*s3+0))+0)))+0)))
theorem hk4 (e d c b:Int):d5 4 (bT [e,d,c,b,1])=hkD4 4 (bX6 b) (bX7 c b) (c58 d c b) (dN7 e d c b) (hkMe e d c b) (hkMf e d c b):=by kernel_rfl
theorem id4 (e d c b:Int):27*d5 4 (bT [e,d,c,b,1])=4*(12*e-3*b*d+c*c)*(12*e-3*b*d+c*c)*(12*e-3*b*d+c*c)-(72*c*e+9*b*c*d-27*d*d-27*b*b*e-2*c*c*c)*(72*c*e+9*b*c*d-27*d*d-27*b*b*e-2*c*c*c):=by
 rw[hk4];unfold hkD4 dN6 cV2 hkMf hkMe dN7 c58 bX7 bX6;grind
theorem cV3 (hp:dO p):d5 4 (bT p)=aS2 p:=by
 rcases hp.cases with⟨x,y,rfl,_⟩| ⟨x,y,z,rfl,_⟩| ⟨x,y,z,w,rfl,_⟩
 .exact id2 x y
 .exact id3 x y z
 .show _=(4*cH9 x y z w*cH9 x y z w*cH9 x y z w-d80 x y z w*d80 x y z w).fdiv 27
  unfold cH9 d80;rw[<-id4,sK _ ac,Int.mul_ediv_cancel_left _ ac]
noncomputable def rts3 (a b c:Int):List Int:=[-(a*b*c),a*b+a*c+b*c,-a-b-c]
noncomputable def sqIn (rs:List Int)(i:Nat)(t:Int):∅
 | 0=>t
 | j+1=>sqIn rs i t j*(rs.getD i 0-rs.getD j 0)*(rs.getD i 0-rs.getD j 0)
noncomputable def sqK (rs:List Int):∅
 | 0=>1
 | i+1=>sqIn rs i (sqK rs i) i
noncomputable def okR (q rs:List Int):Bool:=(q.all λx=>decide (x.natAbs<=499))&&decide (aS2 (q++[1])=sqK rs rs.length)
def sh2 (a b s:Int):List Int:=[a+s*b+s*s,b+2*s]
noncomputable def sh3 (a b c s:Int):List Int:=[a+s*b+s*s*c+s*s*s,b+2*s*c+3*s*s,c+3*s]
noncomputable def sh4 (a b c d s:Int):List Int:=[a+s*b+s*s*c+s*s*s*d+s*s*s*s,b+2*s*c+3*s*s*d+4*s*s*s,c+3*s*d+6*s*s,d+4*s]
noncomputable def dN8 (row:List Int)(r:Int):Nat->List Int
 | 0=>0::row
 | k+1=>(dN8 row r k).set k ((dN8 row r k).getD k 0-r*row.getD k 0)
noncomputable def dT9 (rs:List Int):List Int:=rs.foldl (λrow r=>dN8 row r row.length) [1]
theorem fr3 (a b c:Int):dT9 [a,b,c]=rts3 a b c++[1]:=by
 simp[dT9,dN8,rts3]
 grind
noncomputable def aS3 (row:List Int)(s:Int):Nat->List Int
 | 0=>row
 | k+1=>(aS3 row s k).set (row.length-2-k) ((aS3 row s k).getD (row.length-2-k) 0+s*(aS3 row s k).getD (row.length-1-k) 0)
noncomputable def shK (p:List Int)(s:Int):Nat->List Int
 | 0=>p
 | low+1=>aS3 (shK p s low) s (p.length-1-low)
theorem she2 (a b s:Int):shK [a,b,1] s 2=sh2 a b s++[1]:=by
 simp[shK,aS3,sh2]
 grind
theorem she3 (a b c s:Int):shK [a,b,c,1] s 3=sh3 a b c s++[1]:=by
 simp[shK,aS3,sh3]
 grind
theorem she4 (a b c d s:Int):shK [a,b,c,d,1] s 4=sh4 a b c d s++[1]:=by
 simp[shK,aS3,sh4]
 grind
theorem c59 (n:Nat)(it:Nat->D)(ρ1:Ev)(hui: ∀Q:Nat->(Nat->D)->Ev->Prop,Q n it ρ1->ui ρ Q)(hn:n<=1000)
  (G:Option B->List D->Ev) (x0:Option B) (h0:tQ (aA1 ρ1 js) cap last=G x0 []) (h1: ∀x l b,(G x l).set t0 (some b)=G (some b) l) (h1': ∀x l,t0< (G x l).length) (h2: ∀x l (Q:List D->Prop),Q l->oU (G x l) last Q) (h3: ∀x l l',(G x l).set last (↑l')=G x l')
  (P:D->Prop) (hte: ∀i l (Q':B->Ev->Prop),i<n->(∀d,P d->Q' (.pu d) (G (~~~it i) l))->te (G (~~~it i) l) Q') (hq: ∀l:List D,l.length=n->(∀d∈l,P d)->Q (.ow l) (aA1 ρ1 js)) :
  fJ js cap last ui (cE t0) (λρ Q=>Q true ρ) te ρ Q:=by
 refine hui _ ⟨λi ρ'=> ∃x l,l.length=i/\(∀d∈l,P d)/\ρ'=G x l,⟨x0,[],rfl,ae,h0⟩,?_,?_⟩
 .rintro i ρ' hi ⟨x,l,hl,hP,rfl⟩;refine⟨h1' _ _,?_⟩;rw[h1];right;rw[a7 rfl];refine hte i _ _ hi λd hd=>h2 _ _ _ ⟨?_,~~~it i,l++[d],?_,?_,?_⟩
  .exact aZ aa (aI hn ac)
  .rw[dD,hl];rfl
  .intro e he;rcases bU.mp he with he|he
   .exact hP e he
   .have:e=d:=by exists he
    rw[this];exact hd
  .rw[h3];rfl
 .rintro ρ' ⟨x,l,hl,hP,rfl⟩;exact h2 _ _ _ (hq l hl hP)
theorem c60 {P:Int->Prop}: ∀{l:List D},(∀d∈l,∃z,d= .int z/\P z)-> ∃zs:List Int,l=zs.map D.int/\ ∀z∈zs,P z
 | [],_=>⟨[],rfl,ae⟩
 | d::l,h=>by
  obtain⟨z,rfl,hz⟩:=h d ae
  obtain⟨zs,rfl,hzs⟩:=c60 (l:=l) λe he=>h e (by simp[he])
  refine⟨z::zs,rfl,λy hy=> ?_⟩
  rcases bB.mp hy with rfl|hy
  .exact hz
  .exact hzs y hy
noncomputable def rwF (n:Nat)(f:∅):List Int:=(List.range n).map f
theorem mT (n:Nat)(f:∅):(rwF n f).length=n:=by simp[rwF]
theorem wX (h:i<n):(rwF n f)[i]? =some (f i):=by simp[rwF,h]
theorem fB (n:Nat)(f:∅):((rwF n f).map D.int).length=n:=by simp[rwF]
theorem zE (h:i<n):((rwF n f).map D.int)[i]? =some (.int<|f i):=by simp[rwF,h]
theorem aA7 (h:i<n):((rwF n f).map D.int).getD i .non= .int (f i):=by rw[aJ,zE h];rfl
theorem pM (h:i<n):atI ((rwF n f).map D.int) (i:Int)=some (.int<|f i):=cY (zE h)
theorem aS4 (h:j<n):((rwF n f).map D.int).set j (.int v)=(rwF n λx=>if x=j then v else f x).map D.int:=by
 apply aM1
 intro k
 by_cases hk:k<n
 .rw[zE hk]
  by_cases e:j=k
  .subst e;rw[jS (by rw[fB];exact hk),a7 rfl]
  .rw[get_set_ne e,zE hk,a6 λz=>e z.symm]
 .rw[kH (by rw[fY,fB];omega),kH (by rw[fB];omega)]
theorem hV {g:∅}(h: ∀i,i<n->f i=g i):rwF n f=rwF n g:=by
 unfold rwF;apply nY;intro i hi;exact h i (dW.mp hi)
theorem bX8 (r:List Int):r=rwF r.length (λj=>r.getD j 0):=by
 apply aM1
 intro k
 by_cases hk:k<r.length
 .rw[wX hk,aM hk,aJ,aM hk];rfl
 .rw[kH aa,kH (by rw[mT];omega)]
theorem bC1 (n:Nat)(f:∅):(List.range n).map (λk=>D.int (f k))=(rwF n f).map D.int:=by
 unfold rwF;rw[eZ];rfl
noncomputable def tbF (n m:Nat)(t:Nat->∅):List D:=(List.range n).map λi=>aO (rwF m<|t i)
theorem dN9 (n m:Nat)(t:Nat->∅):(tbF n m t).length=n:=by simp[tbF]
theorem dO0 {m:Nat}{t:Nat->∅}(h:i<n):(tbF n m t)[i]? =some (aO<|rwF m<|t i):=by simp[tbF,h]
theorem tbF_at {m:Nat}{t:Nat->∅}(h:i<n):atI (tbF n m t) (i:Int)=some (aO<|rwF m<|t i):=cY (dO0 h)
theorem bX9 (h:i<n):ixN n (i:Int)=some i:=by
 unfold ixN;have h2:(i:Int)< (n:Int):=aa
 simp[h,h2]
theorem aS5 (t:UE)(ρ:Ev)(Q:Bool->Ev->Prop):cO t ρ Q=t ρ (isB Q):=rfl
theorem a51 (g:D->D->(B->Prop)->Prop)(ta tb:UE)(ρ:Ev)(Q:B->Ev->Prop):uOp g ta tb ρ Q=ta ρ λx ρ1=>tb ρ1 λy ρ2=>g x.d y.d λb=>Q b ρ2:=rfl
theorem iR (c:UT)(t u:US)(E:UD)(ρ:Ev):fE c t u E ρ=c ρ λb ρ1=>if b=true then t E ρ1 else u E ρ1:=rfl
theorem aS6 {d:D}(h:ρ[i]? =some (~~~d)):aB i ρ Q=Q (.pu d) ρ:=by unfold aB aQ0;rw[h]
theorem dO1 (h:ρ[i]? =some (↑l)):aB i ρ Q=Q (.pu<|.lst l) (ρ.set i<|~~~.lst l):=by unfold aB aQ0;rw[h]
theorem c61: ∀r:List Int,pdL (r.map D.int)=some (r.map PyData.int)
 | []=>by simp[pdL]
 | a::r=>by simp[pdL,pd,c61 r]
theorem d81 (r:List Int):pd (aO r)=some (.tuple<|r.map .int):=by simp[aO,pd,c61]
theorem c62: ∀r:List Int,PyData.depthAll (r.map PyData.int)=0
 | []=>by simp[PyData.depthAll]
 | a::r=>by simp[PyData.depthAll,PyData.depth,c62 r]
theorem dO2 (r:List Int):(PyData.tuple<|r.map .int).depth<=60:=by simp[PyData.depth,c62]
theorem dO3 (a b:List Int):(PyData.tuple<|a.map .int).eqv (.tuple<|b.map .int)=decide (a=b):=by simp only[PyData.eqv];exact PySem.W.ked_eqvAll a b
theorem c63 {neg:Bool}{a b:List Int}{Q:B->Prop}(h:Q (.pu<|.bl<|neg ^^ decide (a=b))):cT9 neg (aO a) (aO b) Q:=⟨_,_,d81 a,d81 b,dO2 a,by rw[dO3];exact h⟩
noncomputable def gQ (f:∅):Nat->Nat
 | 0=>0
 | n+1=>if f n=0 then gQ f n else n+1
theorem wY (f:∅): ∀n,gQ f n<=n
 | 0=>aD _
 | n+1=>by
  unfold gQ;split
  .have:=wY f n;lia
  .exact aD _
theorem bQ4 (f:∅): ∀n,gQ f n=0\/f (gQ f n-1)≠0
 | 0=> .inl rfl
 | n+1=>by
  unfold gQ;split
  .exact bQ4 f n
  .rename_i h
   exact .inr (by exists h)
theorem bQ5 (f:∅): ∀n m,gQ f n<=m->m<n->f m=0
 | n+1,m,h1,h2=>by
  unfold gQ at h1;split at h1
  .rename_i h
   by_cases e:m=n
   .rw[e];exact h
   .exact bQ5 f n m h1 ad
  .lia
theorem u5 {f:∅}{k:Nat}: ∀{n:Nat},k<=n->(∀m,k<=m->m<n->f m=0)->(k=0\/f (k-1)≠0)->gQ f n=k
 | 0,h,_,_=>by have:k=0:=ad
               rw[this];rfl
 | n+1,h,hz,hl=>by
  unfold gQ
  by_cases e:k=n+1
  .subst e;rw[a6];rcases hl with h0|h0
   .lia
   .exists h0
  .rw[a7<|hz n ad ad]
   exact u5 ad (λm h1 h2=>hz m h1 ad) hl
theorem bC2 {f g:∅}: ∀{n:Nat},(∀m,m<n->f m=g m)->gQ f n=gQ g n
 | 0,_=>rfl
 | n+1,h=>by
  unfold gQ;rw[h n<|uQ n,bC2 λm hm=>h m (lJ hm)]
theorem c64 (n k:Nat)(f:∅)(h:k<=n):(rwF n f).take k=rwF k f:=by
 unfold rwF;rw[<-oC,List.take_range,uT h]
def aA8:Φ:=λds Q=> ∃(n:Nat) (f:∅),ds=[aO<|rwF n f]/\n<=1000/\Q (.pu<|aO<|rwF (gQ f n) f)
def bC3:US:=(aQ (bN 1<|jE<|aS 0)<|aQ (bV2 (aQ3 (cO<|uOp (pH λi j=>decide (j<i)) (aB 1)<|uC<|.int 0)<|cO<|uOp (fH false) (uIx (aS 0)<|uOp M.gSub (aB 1)<|uC<|.int 1)<|uC<|.int 0)<|c41 1 (gI2 λi j Q=>Q (.pu<|.int<|i-j))<|uC<|.int 1)<|d6<|uSlT (aB 0) jA<|n8<|aB 1)
theorem d82: Ra aA8 bC3 ["r","s"]:=by
 rintro ds Q ⟨n,f,rfl,hn,h⟩;unfold bC3;simp only[aO];show(aQ _ _:US) _ [~~~.tup ((rwF n f).map .int),none];rw[aL];left;rw[fB];refine⟨λm ρ=>ρ=[~~~.tup ((rwF n f).map .int),!(m:Int)]/\m<=n/\gQ f m=gQ f n,⟨n,rfl,aD _,rfl⟩,?_⟩
 rintro m ρ ⟨rfl,hm,hc⟩;left;have fin:gQ f m=m->Q (.pu<|.tup<|cutD ((rwF n f).map D.int) none<|some (m:Int)):=λe=>by
  rw[aN4 _ _ (by rw[fB];exact hm),<-oC,c64 _ _ _ hm]
  rw[<-hc,e]at h;exact h
 split
 .rename_i h0
  obtain⟨m',rfl⟩: ∃m',m=m'+1:=⟨m-1,ad⟩
  rw[show((m'+1:Nat):Int)-1=(m':Int)by lia,pM<|show m'<n by lia]
  right;split
  .rename_i h1
   refine⟨m',ad,?_,ad,?_⟩
   .simp
   .rw[<-hc];show _=if f m'=0 then gQ f m' else m'+1;rw[a7 h1]
  .rename_i h1
   refine fin ?_
   show(if f m'=0 then gQ f m' else m'+1)=m'+1
   rw[a6 h1]
 .have:m=0:=ad
  subst this;exact fin rfl
noncomputable def shF (b:∅)(n m:Nat):Int:=if n<=m then b (m-n)else 0
noncomputable def divS (b:∅)(d n:Nat)(f:∅):∅:=λm=>f m-f (n+d)*shF b n m
noncomputable def divL (b:∅)(d:Nat):Nat->∅->∅
 | 0,f=>f
 | n+1,f=>divL b d n (divS b d n f)
noncomputable def divQ (b:∅)(d:Nat):Nat->∅->∅
 | 0,_=>λ_=>0
 | n+1,f=>λx=>if x=n then f (n+d)else divQ b d n (divS b d n f) x
structure d83 (L d a e:Nat)(f b:∅):Prop where
 L9:L<=100
 d9:d<=100
 one:b d=1
 beyond: ∀j,d<j->b j=0
 fb: ∀m,m<L->(f m).natAbs<=2^a
 bb: ∀j,(b j).natAbs<=2^e
 room:a+(e+1)*L<8000
 e8:e<8000
theorem cI0 {b:∅}{d a e L:Nat}(hn:n+d<L)(hf: ∀m,m<L->(f m).natAbs<=2^a)(hb: ∀j,(b j).natAbs<=2^e): ∀m,m<L->(divS b d n f m).natAbs<=2^(a+(e+1)):=by
 intro m hm;unfold divS;have h1:=hf m hm;have h2:=hf (n+d) hn;have h3:(shF b n m).natAbs<=2^e:=by
  unfold shF;split
  .exact hb _
  .simp
 have h4:(f (n+d)*shF b n m).natAbs<=2^a*2^e:=by rw[dX];exact jQ h2 h3
 have h5:=oA (f m) (f (n+d)*shF b n m);have e1:2^(a+(e+1))=2^a*2^e+2^a*2^e:=by rw[<-iK,a28,lP];lia
 have h6:2^a<=2^a*2^e:=Nat.le_mul_of_pos_right _ (Nat.pow_pos ac)
 lia
theorem bQ6 (k:Nat):(replicate k [D.int 0]).flatten=(rwF k λ_=>0).map .int:=by
 rw[bB7]
 congr 1
 apply kM<;>simp[rwF]
def hZ:Φ:=λds Q=> ∃(L d a e:Nat) (f b:∅),ds=[aO<|rwF L f,aO<|rwF (d+1) b]/\d83 L d a e f b/\
 Q (.pu<|.tup [aO<|rwF (gQ (divQ b d (L-d) f)<|L-d)<|divQ b d (L-d) f,aO<|rwF (gQ (divL b d (L-d) f) L)<|divL b d (L-d) f])
def wZ:US:=(d6<|jD<|a8 (aV aA8<|a8 (aV eM<|a8 (aB 5) aP) aP)<|a8 (aV aA8<|a8 (aV eM<|a8 (aB 4) aP) aP) aP)
def xA:US:=(aQ (jI (d43<|a8 (aB 3) aP) (cE 6)<|aQ (bN 7<|uIx (aS 4)<|uOp gI (aB 6)<|aB 2)<|aQ (b95 5 (aB 7)<|aB 6)<|jI (d42<|a8 (aB 1) aP) (sH<|eO 8<|eO 9 sG)<|d41 4 (λi j=>i-j) (uOp gI (aB 6)<|aB 8)<|uOp bZ (aB 7)<|aB 9) wZ)
def rM:US:=(aQ (bN 2<|uOp M.gSub (jE<|aS 1)<|uC<|.int 1)<|aQ (bN 3<|aV gMax<|a8 (uC<|.int 0)<|a8 (uOp M.gSub (jE<|aS 0)<|aB 2) aP)<|aQ (bN 4<|aV aQ8<|a8 (aB 0) aP)<|aQ (bN 5<|uOp bZ (lY<|a8 (uC<|.int 0) aP)<|aB 3) xA)
theorem aZ9: Ra hZ rM ["f","g","d","s","l","q","a","m","j","c"]:=by
 rintro ds Q ⟨L,d,a,e,f,b,rfl,ok,h⟩;have L9:=ok.L9;have d9:=ok.d9;have room:=ok.room;unfold rM;simp only[aO]at h⊢;show(aQ _ _:US) _ [~~~.tup ((rwF L f).map .int),~~~.tup ((rwF (d+1) b).map .int),none,none,none,none,none,none,none,none];left;rw[fB,fB];obtain⟨N,hN⟩: ∃N:Nat,N=L-d:=⟨_,rfl⟩;have e1:((d+1:Nat):Int)-1=(d:Int):=ad
 have e2:(if(L:Int)-(d:Int)>0 then(L:Int)-(d:Int)else 0)=(N:Int):=by split<;>lia
 rw[e1,e2,dU,bQ6];refine⟨ac,⟨ad,ad,aI (show 1*N<=100 by lia) ac⟩,?_⟩
 unfold xA;rw[aL];rw[<-hN]at h;refine bM N (λk=> .int (((N:Int))-1-k)) _ ?_
  (λk ρ=> ∃g q z6 z7 z8 z9,ρ=[~~~.tup ((rwF L f).map .int),~~~.tup ((rwF (d+1) b).map .int),!(d:Int),!(N:Int),↑((rwF L g).map .int),↑((rwF N q).map .int),z6,z7,z8,z9]/\
   divL b d (N-k) g=divL b d N f/\(∀x,x<N->divQ b d N f x=if x<N-k then divQ b d (N-k) g x else q x)/\ ∀m,m<L->(g m).natAbs<=2^(a+(e+1)*k))
  ⟨f,λ_=>0,none,none,none,none,rfl,rfl,λx hx=>by rw[sub_zero,a7 hx],λm hm=>by simpa using ok.fb m hm⟩ ?_ ?_
 .intro Q' q;left;refine⟨⟨ad,ad⟩,?_⟩
  rw[dU];exact q
 .rintro k ρ hk ⟨g,q,z6,z7,z8,z9,rfl,hL,hQ,hb⟩;obtain⟨i,hi⟩: ∃i:Nat,i=N-1-k:=⟨_,rfl⟩;have ei:(N:Int)-1-(k:Int)=(i:Int):=ad
  have hiN:i<N:=ad
  have hid:i+d<L:=ad
  rw[ei];have c1:(i:Int)+(d:Int)=((i+d:Nat):Int):=ad
  left
  rw[c1,pM hid];right;rw[fB,bX9 hiN];right;rw[aS4 hiN];refine⟨ae,?_⟩
  have smg:Sm (g<|i+d):=Sm.pow (hb _ hid) (by
   have:(e+1)*k<=(e+1)*L:=uK _ ad
   lia)
  refine bM (d+1) (λj=> .tup [.int (j:Int),((rwF (d+1) b).map D.int).getD j .non]) [~~~.tup ((rwF L f).map .int),~~~.tup ((rwF (d+1) b).map .int),!(d:Int),!(N:Int),↑((rwF L g).map .int),some<|.ow<|(rwF N λx=>if x=i then g (i+d)else q x).map .int,!(i:Int),!g (i+d),z8,z9] ?_
   (λj ρ=> ∃z8 z9,ρ=[~~~.tup ((rwF L f).map .int),~~~.tup ((rwF (d+1) b).map .int),!(d:Int),!(N:Int),some<|.ow<|(rwF L λm=>if m<i+j then divS b d i g m else g m).map .int,some<|.ow<|(rwF N λx=>if x=i then g (i+d)else q x).map .int,!(i:Int),!g (i+d),z8,z9]) ⟨z8,z9,?_⟩ ?_ ?_
  .intro Q' qq;left;rw[fB];exact qq
  .have:(rwF L λm=>if m<i+0 then divS b d i g m else g m)=rwF L g:=by
    apply hV
    intro m hm
    by_cases c:m<i+0
    .rw[a7 c];unfold divS shF;rw[a6 ad]
     lia
    .rw[a6 c]
   rw[this]
  .rintro j ρ hj ⟨z8,z9,rfl⟩;rw[aA7 hj];have hij:i+j<L:=ad
   have c2:(i:Int)+(j:Int)=((i+j:Nat):Int):=ad
   simp only[d41];left;rw[c2,fB];refine⟨ae,ae,trivial,_,i+j,g<|i+j,rfl,bX9 hij,by rw[zE hij,a6 ad],.inr ⟨smg,Sm.pow (ok.bb j) (by have:=ok.e8;lia)⟩,_,rfl,!(j:Int),!b j,?_⟩
   rw[aS4 hij];have:(rwF L λx=>if x=i+j then g (i+j)-g (i+d)*b j else if x<i+j then divS b d i g x else g x)=rwF L λm=>if m<i+(j+1)then divS b d i g m else g m:=by
    apply hV
    intro m hm
    by_cases c:m=i+j
    .subst c;rw[a7 rfl,a7 ad]
     unfold divS shF;rw[a7 ad,show i+j-i=j by lia]
    .rw[a6 c]
     by_cases c3:m<i+j
     .rw[a7 c3,a7 ad]
     .rw[a6 c3,a6 ad]
   rw[this]
  .rintro ρ ⟨z8,z9,rfl⟩;have eg:(rwF L λm=>if m<i+(d+1)then divS b d i g m else g m)=rwF L (divS b d i g):=by
    apply hV
    intro m hm
    by_cases c:m<i+(d+1)
    .rw[a7 c]
    .rw[a6 c];unfold divS shF;rw[a7 ad,ok.beyond _ ad]
     lia
   rw[eg];have en:N-k=i+1:=ad
   have en2:N-(k+1)=i:=ad
   rw[en]at hL hQ;refine⟨_,_,_,_,_,_,rfl,by rw[en2];exact hL,λx hx=> ?_,?_⟩
   .rw[en2,hQ x hx]
    by_cases c:x<i
    .rw[a7 c,a7 ad]
     show(if x=i then _ else divQ b d i (divS b d i g) x)=_
     rw[a6 ad]
    .rw[a6 c]
     by_cases c2:x=i
     .subst c2;rw[a7 ad,a7 rfl]
      show(if x=x then _ else _)=_
      rw[a7 rfl]
     .rw[a6 ad,a6 c2]
   .have:=cI0 hid hb ok.bb;rw[show a+(e+1)*(k+1)=a+(e+1)*k+(e+1)by rw[a29];lia]
    exact this
 .rintro ρ ⟨g,q,z6,z7,z8,z9,rfl,hL,hQ,hb⟩;right;unfold wZ;rw[oF]at hL hQ;have hg:g=divL b d N f:=hL;have hq: ∀x,x<N->divQ b d N f x=q x:=λx hx=>by rw[hQ x hx,a6 ad]
  left
  refine⟨N,q,rfl,ad,?_⟩
  refine⟨L,g,rfl,ad,?_⟩
  left
  refine⟨ac,?_⟩
  have e3:gQ (divQ b d N f) N=gQ q N:=bC2 λm hm=>hq m hm
  have e4:rwF (gQ q N) (divQ b d N f)=rwF (gQ q N) q:=hV λm hm=>hq m (by have:=wY q N;lia)
  rw[e3,e4,<-hg]at h;exact h
noncomputable def conv (u b:∅):Nat->∅
 | 0,_=>0
 | n+1,m=>conv u b n m+u n*shF b n m
theorem oW {u b:∅}{d:Nat}(hb: ∀j,d<j->b j=0): ∀(n m:Nat),n+d<=m->conv u b n m=0
 | 0,m,_=>rfl
 | n+1,m,h=>by
  show conv u b n m+u n*shF b n m=0
  rw[oW hb n m ad]
  unfold shF;rw[a7 ad,hb _ ad]
  lia
theorem bC4 {u b low:∅}{d:Nat}(h1:b d=1)(hb: ∀j,d<j->b j=0)(hl: ∀m,d<=m->low m=0): ∀(n:Nat),divL b d n (λm=>conv u b n m+low m)=low/\ ∀x,x<n->divQ b d n (λm=>conv u b n m+low m) x=u x
 | 0=>⟨by funext m;show 0+low m=low m;lia,λx hx=>ad⟩
 | n+1=>by
  have top:conv u b (n+1) (n+d)+low (n+d)=u n:=by
   show conv u b n (n+d)+u n*shF b n (n+d)+low (n+d)=u n
   rw[oW hb n _<|aD _,hl _ ad]
   unfold shF;rw[a7 ad,show n+d-n=d by lia,h1]
   lia
  have st:divS b d n (λm=>conv u b (n+1) m+low m)=λm=>conv u b n m+low m:=by
   funext m
   show(conv u b (n+1) m+low m)-(conv u b (n+1) (n+d)+low (n+d))*shF b n m=_
   rw[top];show conv u b n m+u n*shF b n m+low m-u n*shF b n m=_
   lia
  obtain⟨i1,i2⟩:=bC4 (u:=u) h1 hb hl n;refine⟨?_,λx hx=> ?_⟩
  .show divL b d n (divS b d n _)=low
   rw[st];exact i1
  .show(if x=n then _ else divQ b d n (divS b d n _) x)=u x
   rw[st]
   by_cases c:x=n
   .rw[a7 c,c];exact top
   .rw[a6 c];exact i2 x ad
theorem c65 (h:0<n):atI ((rwF n f).map D.int) (-1)=some (.int<|f<|n-1):=by
 unfold L2.atI;have e:ixN ((rwF n f).map D.int).length (-1)=some (n-1):=by
  unfold ixN;rw[fB,a6 ac,a7 ad]
  congr 1
  lia
 rw[e];exact zE ad
theorem a52 (hf: ∀m,n<=m->f m=0): ∀m,gQ f n<=m->f m=0:=λm hm=>by
 by_cases c:m<n
 .exact bQ5 f n m hm c
 .exact hf m ad
noncomputable def md (p:Int)(f:∅):∅:=λj=>f j%p
noncomputable def bC5 (c p:Int):∅
 | 0=>1
 | n+1=>bC5 c p n*c%p
theorem bC6 {c p:Int}(hp:2<=p): ∀n,0<=bC5 c p n/\bC5 c p n<p
 | 0=>⟨by show(0:Int)<=1;lia,by show(1:Int)<p;lia⟩
 | n+1=>⟨cH _ ad,cG _ ad⟩
structure Pr (p:Int):Prop where
 lo:2<=p
 hi:p<200
 inv: ∀c:Int,0<c->c<p->bC5 c p (p.toNat-2)*c%p=1
def Cg (p:Int)(f g:∅):Prop:= ∀m,f m%p=g m%p
theorem Cg.divS {p:Int}{b f g:∅}{d n:Nat}(h:Cg p f g):Cg p (divS b d n f) (divS b d n g):=λm=>by
 show(f m-f (n+d)*shF b n m)%p=(g m-g (n+d)*shF b n m)%p
 have h1:=h m;have h2:f (n+d)*shF b n m%p=g (n+d)*shF b n m%p:=by rw[gY,h<|n+d,<-gY]
 rw[a30,h1,h2,<-a30]
theorem Cg.divL {p:Int}{b:∅}{d:Nat}: ∀(n:Nat) {f g:∅},Cg p f g->Cg p (divL b d n f) (divL b d n g)
 | 0,_,_,h=>h
 | n+1,_,_,h=>Cg.divL n h.divS
theorem Cg.divQ {p:Int}{b:∅}{d:Nat}: ∀(n:Nat) {f g:∅},Cg p f g->Cg p (divQ b d n f) (divQ b d n g)
 | 0,_,_,h=>λ_=>rfl
 | n+1,f,g,h=>λx=>by
  show(if x=n then f (n+d)else M.divQ b d n (M.divS b d n f) x)%p=(if x=n then g (n+d)else M.divQ b d n (M.divS b d n g) x)%p
  by_cases c:x=n
  .rw[a7 c,a7 c];exact h _
  .rw[a6 c,a6 c];exact Cg.divQ n h.divS x
theorem xB {b:∅}{d:Nat}: ∀(n:Nat) (f:∅) (x:Nat),n<=x->divQ b d n f x=0
 | 0,_,_,_=>rfl
 | n+1,f,x,h=>by
  show(if x=n then f (n+d)else divQ b d n (divS b d n f) x)=0
  rw[a6 ad]
  exact xB n _ x ad
theorem aS7 {p:Int}{u u' b b':∅}(h: ∀i j,u' i*b' j%p=u i*b j%p): ∀n,Cg p (conv u' b' n) (conv u b n)
 | 0,_=>rfl
 | n+1,m=>by
  show(conv u' b' n m+u' n*shF b' n m)%p=(conv u b n m+u n*shF b n m)%p
  have h1:=aS7 h n m;have h2:u' n*shF b' n m%p=u n*shF b n m%p:=by
   unfold shF
   by_cases c:n<=m
   .rw[a7 c,a7 c];exact h _ _
   .rw[a6 c,a6 c,aX,aX]
  rw[j0,h1,h2,<-j0]
theorem c66 {b:∅}{d:Nat}(hb: ∀j,d<j->b j=0):conv u b (U+1) (U+d)=u U*b d:=by
 show conv u b U (U+d)+u U*shF b U (U+d)=_
 rw[oW hb U _<|aD _];unfold shF;rw[a7 ad,show U+d-U=d by lia]
 lia
theorem d84 {p t:Int}{B0 low A:∅}{d:Nat}(hp:2<=p)(hB: ∀j,d<j->B0 j=0)(hU:U=0\/u (U-1)≠0)(uR: ∀j,0<=u j/\u j<p)(uz: ∀j,U<=j->u j=0)(lz: ∀j,d<=j->low j=0)(lR: ∀j,0<=low j/\low j<p)
  (ht:t*B0 d%p=1) (hA: ∀m,A m=(conv u B0 U m+low m)%p) (hn:U+d<=n) :
  let b:=λj=>t*B0 j%p
  let LA:=gQ A n
  LA<=U+d/\(∀j,t*divQ b d (LA-d) A j%p=u j)/\(∀j,divL b d (LA-d) A j%p=low j)/\(∀m,LA<=m->divL b d (LA-d) A m%p=0):=by
 intro b LA;have b1:b d=1:=ht;have bz: ∀j,d<j->b j=0:=λj hj=>by
  show t*B0 j%p=0
  rw[hB j hj,aX,cB]
 have tc: ∀x:Int,t*(B0 d*x)%p=x%p:=λx=>by
  rw[<-kQ,gY,ht,kS,jR]
 have cg:Cg p A (λm=>conv (λi=>B0 d*u i) b U m+low m):=λm=>by
  rw[hA m,jR];have:=aS7 (p:=p) (u:=u) (b:=B0) (u':=λi=>B0 d*u i) (b':=b) (λi j=>by
   show B0 d*u i*(t*B0 j%p)%p=u i*B0 j%p
   rw[gY,jR,<-gY];have e:B0 d*u i*(t*B0 j)=t*(B0 d*(u i*B0 j)):=by
    simp only[fZ,Int.mul_left_comm,kQ]
   rw[e,tc]) U m
  show(conv u B0 U m+low m)%p=(conv (λi=>B0 d*u i) b U m+low m)%p
  rw[j0,<-this,<-j0]
 obtain⟨e1,e2⟩:=bC4 (u:=λi=>B0 d*u i) (low:=low) b1 bz lz U
 have Az: ∀m,U+d<=m->A m=0:=λm hm=>by
  rw[hA m,oW hB U m hm,lz m ad]
  exact cB _
 have hL:(U=0/\LA<=d)\/(0<U/\LA=U+d):=by
  have hle:LA<=U+d:=by
   rcases bQ4 A n with h|h
   .show gQ A n<=U+d
    lia
   .exact aI8 λq=>h (Az _ (by show U+d<=LA-1;lia))
  by_cases c:U=0
  .exact .inl ⟨c,ad⟩
  .refine .inr ⟨ad,?_⟩
   refine u5 hn (λm m1 m2=>Az m m1) (.inr λq=> ?_)
   obtain⟨U',rfl⟩: ∃U',U=U'+1:=⟨U-1,ad⟩
   rw[show U'+1+d-1=U'+d by lia,hA,c66 hB,lz _ ad,dY]at q
   have h1:=tc (u U');rw[gY,show B0 d*u U'=u U'*B0 d from fZ _ _,q,aX,cB,dE (uR _).1 (uR _).2]at h1
   rcases hU with h|h
   .lia
   .exact h (by exists h1.symm)
 have hN:LA-d=U:=ad
 have r: ∀j,divL b d U A j%p=low j:=λj=>by
  rw[Cg.divL U cg j,e1,dE (lR j).1 (lR j).2]
 refine⟨ad,λj=> ?_,λj=>by rw[hN];exact r j,λm hm=> ?_⟩
 .rw[hN]
  by_cases c:j<U
  .have h1:=Cg.divQ (b:=b) (d:=d) U cg j;rw[e2 j c]at h1;rw[gY,h1,<-gY];show t*(B0 d*u j)%p=u j;rw[tc,dE (uR _).1 (uR _).2]
  .rw[xB U A j ad,uz j ad,aX,cB]
 .rw[hN];rcases hL with⟨h1,h2⟩| ⟨h1,h2⟩
  .subst h1;show A m%p=0;rw[a52 (λm hm=>Az m ad) m hm]
   exact cB _
  .rw[r m];exact lz m ad
def jT:Φ:=λds Q=> ∃(n:Nat) (f:∅) (p:Int),ds=[aO<|rwF n f,.int p]/\n<=1000/\0<p/\Q (.pu<|aO<|rwF (gQ (md p f) n)<|md p f)
def xZ:US:=(d6<|aV aA8<|a8 (aV eM<|a8 (fJ [1] [none,some 1,none] 2 (i7<|aB 0) (cE 0) (λρ Q=>Q true ρ)<|uOp jC (aB 0)<|aB 1) aP) aP)
theorem dO4 (Q:B->Ev->Prop)(n:Nat)(f:∅)(p:Int)(hn:n<=1000)(hp:0<p)(k:Nat->D)(tY:Ev)(x0:D)(hx:x0=aO (rwF n f)\/x0= .lst ((rwF n f).map .int))(h:Q (.ow<|(rwF n<|md p f).map .int) (some (.pu x0)::some (.pu<|.int p)::tY)) :
  (fJ [1] [none,some 1,none] 2 (i7<|aB 0) (cE 0) (λρ Q=>Q true ρ) (uOp jC (aB 0)<|aB 1):UE) (some (.pu x0)::some (.pu<|.int p)::tY) Q:=by
 refine eV (t0:=0) n (λk=>((rwF n f).map D.int).getD k .non) (some (.pu x0)::some (.pu<|.int p)::tY) ?_ ad (λx l=>[x,!p,↑l]) none rfl (λ_ _ _=>rfl) (λ_ _=>cN _) (λ_ _ _ q=>q) (λ_ _ _=>rfl) (λk=> .int (md p f k)) ?_ ?_
 .intro Q' q;rcases hx with rfl|rfl
  .simp only[aO]at q⊢;left;rw[fB];exact q
  .left
   rw[fB];exact q
 .intro k l Q' hk q;rw[aA7 hk]at q⊢;left;refine⟨ad,?_⟩
  rw[bY _ hp];exact q
 .rw[bC1];exact h
theorem bL2: Ra jT xZ ["r","p"]:=by
 rintro ds Q ⟨n,f,p,rfl,hn,hp,h⟩;unfold xZ;show(d6 _:US) _ [~~~aO (rwF n f),!p];rw[nT,gN,fU,gN,fU];refine dO4 _ n f p hn hp (λ_=> .non) [] _ (.inl rfl) ?_
 left
 exact⟨n,md p f,rfl,hn,h⟩
theorem cI1 (u b:∅)(i N:Nat):(rwF N λm=>if m<i+0 then conv u b (i+1) m else conv u b i m)=rwF N (conv u b i):=by
 apply hV
 intro m hm
 by_cases c:m<i+0
 .rw[a7 c];show conv u b i m+u i*shF b i m=_;unfold shF;rw[a6 ad]
  lia
 .rw[a6 c]
theorem cI2 {b:∅}{V:Nat}(hz: ∀j,V<=j->b j=0):(rwF N λm=>if m<i+V then conv u b (i+1) m else conv u b i m)=rwF N (conv u b (i+1)):=by
 apply hV
 intro m hm
 by_cases c:m<i+V
 .rw[a7 c]
 .rw[a6 c];show _=conv u b i m+u i*shF b i m;unfold shF;rw[a7 ad,hz _ ad]
  lia
theorem cI3 (u b:∅)(i j N:Nat):(rwF N λx=>if x=i+j then conv u b i (i+j)+u i*b j else if x<i+j then conv u b (i+1) x else conv u b i x)=rwF N λm=>if m<i+(j+1)then conv u b (i+1) m else conv u b i m:=by
 apply hV
 intro m hm
 by_cases c:m=i+j
 .subst c;rw[a7 rfl,a7 ad]
  show _=conv u b i (i+j)+u i*shF b i (i+j)
  unfold shF;rw[a7 ad,show i+j-i=j by lia]
 .rw[a6 c]
  by_cases c3:m<i+j
  .rw[a7 c3,a7 ad]
  .rw[a6 c3,a6 ad]
theorem aS8 {u b:∅}{U:Nat}: ∀n,(∀j,U<=j->j<n->u j=0)->U<=n-> ∀m,conv u b n m=conv u b U m
 | 0,h,h2,m=>by rw[show U=0 by lia]
 | n+1,h,h2,m=>by
  by_cases c:U=n+1
  .rw[c]
  .show conv u b n m+u n*shF b n m=_
   rw[h n ad ad,aS8 n (λj a c=>h j a ad) ad m]
   lia
theorem md_nat {p:Int}(h1:2<=p)(h2:p<200)(f:∅)(j:Nat):(md p f j).natAbs<=2^8:=by
 unfold md;have a1:=cH (f j) (show p≠0 by lia)
 have a2:=cG (f j) (show 0<p by lia)
 show _<=256
 lia
def xC:Φ:=λds Q=> ∃(n:Nat) (f:∅) (k p:Int),ds=[aO<|rwF n f,.int k,.int p]/\n<=1000/\0<=k/\k<200/\0<p/\Q (.pu<|aO<|rwF (gQ (λj=>k*f j%p) n) λj=>k*f j%p)
def aA9:US:=(d6<|aV jT<|a8 (aV eM<|a8 (fJ [1] [none,some 1,none] 2 (i7<|aB 0) (cE 0) (λρ Q=>Q true ρ)<|uOp bZ (aB 1)<|aB 0) aP)<|a8 (aB 2) aP)
theorem c67: Ra xC aA9 ["f","k","p"]:=by
 rintro ds Q ⟨n,f,k,p,rfl,hn,k0,k9,hp,h⟩;unfold aA9;show(d6 _:US) _ [~~~aO (rwF n f),!k,!p];rw[nT,gN,fU,gN,fU]
 refine eV (t0:=0) n (λi=>((rwF n f).map D.int).getD i .non) [~~~aO (rwF n f),!k,!p] ?_ ad (λx l=>[x,!k,↑l]) none rfl (λ_ _ _=>rfl) (λ_ _=>cN _) (λ_ _ _ q=>q) (λ_ _ _=>rfl) (λi=> .int (k*f i)) ?_ ?_
 .intro Q' q;simp only[aO]at q⊢;left;rw[fB];exact q
 .intro i l Q' hk q;rw[aA7 hk]at q⊢;left;exact⟨cmL ad ad,q⟩
 .rw[bC1];left;exact⟨n,λi=>k*f i,p,rfl,hn,hp,h⟩
def sY:Φ:=λds Q=> ∃c p:Int,ds=[.int c,.int p]/\0<=c/\c<p/\2<=p/\p<200/\Q (.pu<|.int<|bC5 c p<|p.toNat-2)
def sZ:US:=(aQ (bN 2<|uC<|.int 1)<|aQ (jI (jJ<|a8 (uOp M.gSub (aB 1)<|uC<|.int 2) aP) (cE 3)<|bN 2<|uOp jC (uOp bZ (aB 2)<|aB 0)<|aB 1)<|tP 2)
theorem b53: Ra sY sZ ["c","p","v","s"]:=by
 rintro ds Q ⟨c,p,rfl,c0,c1,p2,p9,h⟩;unfold sZ;show(aQ _ _:US) _ [!c,!p,none,none];left;refine bM (p.toNat-2) (λk=> .int (0+k)) _ ?_
  (λk ρ=> ∃z,ρ=[!c,!p,!bC5 c p k,z]) ⟨none,rfl⟩ ?_ ?_
 .intro Q' q;left;refine⟨⟨ad,ad⟩,?_⟩
  rw[show(p-2).toNat=p.toNat-2 by lia]
  exact q
 .rintro k ρ hk ⟨z,rfl⟩;have:=bC6 (c:=c) p2 k;left;refine⟨ae,cmL ad ad,ad,!(0+(k:Int)),?_⟩
  rw[bY _ ad]
  rfl
 .rintro ρ ⟨z,rfl⟩;left;exact h
def t7:Φ:=λds Q=> ∃(n k d:Nat) (f g:∅) (p:Int),ds=[aO<|rwF n f,aO<|rwF k g,.int p]/\n<=50/\k<=50/\Pr p/\(∀j,k<=j->g j=0)/\d<k/\(∀j,d<j->md p g j=0)/\md p g d≠0/\
 ∀t,t*md p g d%p=1->0<=t->t<p->
  let b:=λj=>t*md p g j%p
  let LA:=gQ (md p f) n
  let q:=divQ b d (LA-d) (md p f)
  let r:=divL b d (LA-d) (md p f)
  Q (.pu<|.tup [aO<|rwF (gQ (λj=>t*q j%p)<|gQ q<|LA-d) λj=>t*q j%p,aO<|rwF (gQ (md p r)<|gQ r LA)<|md p r])
def zF:US:=(d6<|jD<|a8 (aV xC<|a8 (aB 5)<|a8 (aB 4)<|a8 (aB 2) aP)<|a8 (aV jT<|a8 (aB 6)<|a8 (aB 2) aP) aP)
def rN:US:=(aQ (bK7 (aV hZ<|a8 (aV jT<|a8 (aB 0)<|a8 (aB 2) aP)<|a8 (aV xC<|a8 (aB 3)<|a8 (aB 4)<|a8 (aB 2) aP) aP)<|sH<|eO 5<|eO 6 sG) zF)
def t8:US:=(aQ (bN 3<|aV jT<|a8 (aB 1)<|a8 (aB 2) aP)<|aQ (bN 4<|aV sY<|a8 (uIx (aS 3)<|sJ<|uC<|.int 1)<|a8 (aB 2) aP) rN)
theorem b54: Ra t7 t8 ["a","b","p","l","t","q","r"]:=by
 rintro ds Q ⟨n,k,d,f,g,p,rfl,hn,hk,pp,gz,dk,dz,d0,h⟩;have p2:=pp.lo;have p9:=pp.hi;unfold t8;show(aQ _ _:US) _ [~~~aO (rwF n f),~~~aO (rwF k g),!p,none,none,none,none];have ed:gQ (md p g) k=d+1:=u5 ad (λm m1 m2=>dz m ad) (.inr<|by exists d0)
 have c1:=cH (g d) (show p≠0 by lia)
 have c2:=cG (g d) (show 0<p by lia)
 have c3:0<md p g d:=by
  have:md p g d=g d%p:=rfl
  lia
 have tR:=bC6 (c:=md p g d) p2 (p.toNat-2);have ht:=pp.inv _ c3 c2;generalize et:bC5 (md p g d) p (p.toNat-2)=t at tR ht;have bA: ∀j,0<=t*md p g j%p/\t*md p g j%p<p:=λj=>⟨cH _ ad,cG _ ad⟩
 have hc:gQ (λj=>t*md p g j%p) (d+1)=d+1:=u5 (aD _) (λm a b=>ad) (.inr (by
  show t*md p g d%p≠0
  rw[ht];decide))
 have LA9:=wY (md p f) n;have low:aO (rwF (gQ (md p g) k)<|md p g)= .tup ((rwF (d+1)<|md p g).map .int):=by rw[ed];rfl
 left
 refine⟨k,g,p,rfl,ad,ad,?_⟩
 rw[low];left;rw[c65 ad]
 left
 refine⟨md p g d,p,rfl,ad,c2,p2,p9,?_⟩
 rw[et];show rN _ [~~~aO (rwF n f),~~~aO (rwF k g),!p,~~~aO (rwF (d+1) (md p g)),!t,none,none];unfold rN;left;refine⟨n,f,p,rfl,ad,ad,?_⟩
 refine⟨d+1,md p g,t,p,rfl,ad,ad,ad,ad,?_⟩
 rw[hc];refine⟨gQ (md p f) n,d,8,8,md p f,λj=>t*md p g j%p,rfl,⟨ad,ad,ht,λj hj=>by
  show t*md p g j%p=0
  rw[dz j hj,aX,cB],λm _=>md_nat p2 p9 f m,λj=>by
   have:=bA j;show(t*md p g j%p).natAbs<=256
   lia,ad,ac⟩,?_⟩
 have hh:=h t ht tR.1 tR.2;have q9:=wY (divQ (λj=>t*md p g j%p) d (gQ (md p f) n-d)<|md p f) (gQ (md p f) n-d)
 have r9:=wY (divL (λj=>t*md p g j%p) d (gQ (md p f) n-d)<|md p f) (gQ (md p f) n)
 simp only[]at hh;left;refine⟨ae,ae,trivial,?_⟩
 unfold zF;left;refine⟨_,_,t,p,rfl,ad,ad,ad,ad,?_⟩
 refine⟨_,_,p,rfl,ad,ad,?_⟩
 left
 exact⟨ac,hh⟩
noncomputable def prB (i k:Nat):Bool:=if(2:Int)+(i:Int)=2+(k:Int)then true else not<|decide (((2:Int)+(i:Int))%(2+(k:Int))=0)
noncomputable def prC (i:Nat):Bool:=((List.range 13).map<|prB i).all id
noncomputable def prL:List Int:=((List.range 198).filter prC).map λi:Nat=>(2:Int)+(i:Int)
theorem c68 {c p:Nat}(hp:2<=p): ∀n,bC5 (c:Int) (p:Int) n=((c^n%p:Nat):Int)
 | 0=>by
  show(1:Int)=_
  rw[Nat.pow_zero,Nat.mod_eq_of_lt ad]
  rfl
 | n+1=>by
  show bC5 (c:Int) (p:Int) n*(c:Int)%(p:Int)=_
  rw[c68 hp n,<-aM6,<-Int.natCast_emod,a28,Nat.mod_mul_mod]
theorem pr_all:prL.all (λp=>decide (2<=p)&&decide (p<200)&&(List.range p.toNat).all λc=>decide (c=0)||decide (c^(p.toNat-2)%p.toNat*c%p.toNat=1))=true:=af
theorem a53 {p:Int}(h:p∈prL):Pr p:=by
 have h1:=kL.mp pr_all p h;simp only[iI,o7,kL,dW,Bool.or_eq_true]at h1;obtain⟨⟨a,b⟩,c⟩:=h1;refine⟨a,b,λx x0 x1=> ?_⟩
 obtain⟨q,rfl⟩: ∃q:Nat,p=(q:Int):=⟨p.toNat,ad⟩
 obtain⟨y,rfl⟩: ∃y:Nat,x=(y:Int):=⟨x.toNat,ad⟩
 have h2:=c y ad
 rw[dU]at h2⊢;rw[c68 ad,<-aM6,<-Int.natCast_emod]
 rcases h2 with h2|h2
 .lia
 .rw[h2];rfl
theorem b34 {u b:∅}{V:Nat}(hb: ∀j,V<=j->b j=0): ∀n m,n+V<=m->conv u b n m=0
 | 0,_,_=>rfl
 | n+1,m,h=>by
  show conv u b n m+u n*shF b n m=0
  rw[b34 hb n m ad]
  unfold shF;rw[a7 ad,hb _ ad]
  lia
noncomputable def T_SMALL_PRIMES:List Int:=[2,3,5,7,11,13,17,19,23,29,31,37,41,43,47,53,59,61,67,71,73,79,83,89,97,101,103,107,109,113,127,131,137,139,149,151,157,163,167,173,179,181,191,193,197,199]
theorem tp_ok: ∀p∈T_SMALL_PRIMES,2<=p/\p<200:=af
theorem d85:T_SMALL_PRIMES.Pairwise (λa b=>a<b):=af
theorem bC7:T_SMALL_PRIMES.length=46:=rfl
def lB:Φ:=λds Q=>ds=[]/\Q (.ow<|T_SMALL_PRIMES.map .int)
def pN:US:=(d6<|aV aQ8<|a8 (uC<|.tup<|T_SMALL_PRIMES.map .int) aP)
theorem aS9: Ra lB pN []:=by
 rintro ds Q ⟨rfl,h⟩;unfold pN;show(d6 _:US) _ [];left;exact h
theorem bY0:prL=T_SMALL_PRIMES:=af
noncomputable def ps (f:∅)(z:Int):∅
 | 0=>0
 | n+1=>ps f z n+f n*z^n
noncomputable def hor (f:∅)(n:Nat)(z:Int):∅
 | 0=>0
 | k+1=>hor f n z k*z+f (n-1-k)
theorem d86 (f:∅)(n:Nat)(z:Int): ∀k,k<=n->hor f n z k*z^(n-k)+ps f z (n-k)=ps f z n
 | 0,_=>by show(0:Int)*_+_=_;rw[cJ,bS];rfl
 | k+1,h=>by
  have ih:=d86 f n z k ad
  obtain⟨m,hm⟩: ∃m,n-k=m+1:=⟨n-k-1,ad⟩
  have e1:n-(k+1)=m:=ad
  have e2:n-1-k=m:=ad
  rw[hm]at ih;show(hor f n z k*z+f (n-1-k))*z^(n-(k+1))+ps f z (n-(k+1))=_;rw[e1,e2,<-ih];show _=hor f n z k*z^(m+1)+(ps f z m+f m*z^m);rw[gM,a35];have e3:hor f n z k*z*z^m=hor f n z k*(z^m*z):=by rw[kQ,fZ z]
  lia
theorem dO5 (f:∅)(n:Nat)(z:Int):hor f n z n=ps f z n:=by
 have:=d86 f n z n (aD _);rw[oF]at this;have e:hor f n z n*z^0+ps f z 0=hor f n z n:=by
  show hor f n z n*z^0+0=_
  rw[cR,lN,dY]
 lia
theorem bQ7 {f:∅}{n a b:Nat}{z:Int}(hf: ∀j,(f j).natAbs<=2^a)(hz:z.natAbs<=2^b): ∀k,(hor f n z k).natAbs<=2^(a+(b+1)*k)
 | 0=>by simp[hor]
 | k+1=>by
  show(hor f n z k*z+f (n-1-k)).natAbs<=_
  have ih:=bQ7 (n:=n) hf hz k;have h1:(hor f n z k*z).natAbs<=2^(a+(b+1)*k)*2^b:=by rw[dX];exact jQ ih hz
  have h2:=hf (n-1-k);have h3:=a12 (hor f n z k*z) (f<|n-1-k);have e1:2^(a+(b+1)*(k+1))=2^(a+(b+1)*k)*2^b+2^(a+(b+1)*k)*2^b:=by
   rw[a29,<-iK,<-iK,a28,lP 2 (a+(b+1)*k) b];lia
  have h4:2^a<=2^(a+(b+1)*k)*2^b:=by
   rw[<-lP];exact qO ac ad
  lia
theorem d87 (f g:∅)(z:Int): ∀n,ps (λj=>f j+g j) z n=ps f z n+ps g z n
 | 0=>rfl
 | n+1=>by
  show ps (λj=>f j+g j) z n+(f n+g n)*z^n=ps f z n+f n*z^n+(ps g z n+g n*z^n)
  rw[d87 f g z n,a35]
  lia
theorem d88 (c:Int)(f:∅)(z:Int): ∀n,ps (λj=>c*f j) z n=c*ps f z n
 | 0=>by show(0:Int)=c*0;rw[aX]
 | n+1=>by
  show ps (λj=>c*f j) z n+c*f n*z^n=c*(ps f z n+f n*z^n)
  rw[d88 c f z n,rG,kQ]
theorem aN5 {f:∅}{z:Int}{n:Nat}: ∀m,n<=m->(∀j,n<=j->j<m->f j=0)->ps f z m=ps f z n
 | 0,h,_=>by rw[show n=0 by lia]
 | m+1,h,hz=>by
  by_cases c:n=m+1
  .rw[c]
  .show ps f z m+f m*z^m=_
   rw[hz m ad ad,cJ,dY]
   exact aN5 m ad λj a b=>hz j a ad
theorem bQ8 (b:∅)(z:Int)(U:Nat): ∀n,n<=U->ps (shF b U) z n=0
 | 0,_=>rfl
 | n+1,h=>by
  show ps (shF b U) z n+shF b U n*z^n=0
  rw[bQ8 b z U n aa]
  unfold shF;rw[a6 aa,cJ]
  rfl
theorem aT0 (b:∅)(z:Int)(U:Nat): ∀m,ps (shF b U) z (U+m)=z^U*ps b z m
 | 0=>by rw[Nat.add_zero,bQ8 b z U U<|aD _];show(0:Int)=z^U*0;rw[aX]
 | m+1=>by
  show ps (shF b U) z (U+m)+shF b U (U+m)*z^(U+m)=z^U*(ps b z m+b m*z^m)
  rw[aT0 b z U m];unfold shF;rw[a7 ad,show U+m-U=m by lia,a36,rG,Int.mul_left_comm]
theorem bY1 {u b:∅}{z:Int}{V:Nat}(hb: ∀j,V<=j->b j=0): ∀U N,U+V<=N->ps (conv u b U) z N=ps u z U*ps b z V
 | 0,N,_=>by
  have:ps (conv u b 0) z N=0:=by
   have e:ps (conv u b 0) z N=ps (conv u b 0) z 0:=aN5 N (gA _) λ_ _ _=>rfl
   rw[e];rfl
  rw[this];show(0:Int)=0*_;rw[cJ]
 | U+1,N,h=>by
  have e:conv u b (U+1)=λm=>conv u b U m+u U*shF b U m:=rfl
  rw[e,d87 (conv u b U) λm=>u U*shF b U m,bY1 hb U N ad,d88]
  obtain⟨m,rfl⟩: ∃m,N=U+m:=⟨N-U,ad⟩
  rw[aT0,aN5 (n:=V) m ad λj a _=>hb j a]
  show _=(ps u z U+u U*z^U)*ps b z V
  rw[a35,kQ<|u U]
structure HorOk (n a b:Nat)(f:∅)(z:Int):Prop where
 fb: ∀j,(f j).natAbs<=2^a
 zb:z.natAbs<=2^b
 room:a+(b+1)*n<8000
 b8:b<8000
 n9:n<=200
def pO:Φ:=λds Q=> ∃(n a b:Nat) (f:∅) (z:Int),ds=[aO<|rwF n f,.int z]/\HorOk n a b f z/\Q (.pu<|.int<|ps f z n)
def a54:US:=(aQ (bN 2<|uC<|.int 0)<|aQ (jI (cM8<|a8 (aB 0) aP) (cE 3)<|bN 2<|uOp gI (uOp bZ (aB 2)<|aB 1)<|aB 3)<|tP 2)
theorem aT1: Ra pO a54 ["f","z","v","c"]:=by
 rintro ds Q ⟨n,a,b,f,z,rfl,ok,h⟩;unfold a54;simp only[aO];show(aQ _ _:US) _ [~~~.tup ((rwF n f).map .int),!z,none,none];left;refine bM n (λk=>((rwF n f).map D.int).getD (n-1-k) .non) _ ?_
  (λk ρ=> ∃c,ρ=[~~~.tup ((rwF n f).map .int),!z,!hor f n z k,c]) ⟨none,rfl⟩ ?_ ?_
 .intro Q' q;left;rw[fB];exact q
 .rintro k ρ hk ⟨c,rfl⟩;rw[aA7 aa]
  left
  have room:=ok.room;have:(b+1)*k<=(b+1)*n:=uK _ aa
  exact⟨ae,.inr ⟨Sm.pow (bQ7 ok.fb ok.zb k) aa,Sm.pow ok.zb (by have:=ok.b8;omega)⟩,_,rfl⟩
 .rintro ρ ⟨c,rfl⟩;left;rw[dO5];exact h
theorem cN8 (f g:∅)(n m:Nat):shF (λj=>f j+g j) n m=shF f n m+shF g n m:=by
 unfold shF;right;split<;>lia
theorem cN9 (c:Int)(f:∅)(n m:Nat):shF (λj=>c*f j) n m=c*shF f n m:=by
 unfold shF;right;split
 .rfl
 .rw[aX]
theorem shF_sh (h:∅)(n k m:Nat):shF (shF h n) k m=shF h (n+k) m:=by
 unfold shF
 by_cases c:k<=m
 .rw[a7 c]
  by_cases d:n<=m-k
  .rw[a7 d,a7 ad,show m-k-n=m-(n+k)by lia]
  .rw[a6 d,a6 ad]
 .rw[a6 c,a6 ad]
theorem b00 (f g b:∅)(m:Nat): ∀n,conv (λj=>f j+g j) b n m=conv f b n m+conv g b n m
 | 0=>rfl
 | n+1=>by
  show conv (λj=>f j+g j) b n m+(f n+g n)*shF b n m=conv f b n m+f n*shF b n m+(conv g b n m+g n*shF b n m)
  rw[b00 f g b m n,a35]
  lia
theorem aF4 (c:Int)(f b:∅)(m:Nat): ∀n,conv (λj=>c*f j) b n m=c*conv f b n m
 | 0=>by show(0:Int)=c*0;rw[aX]
 | n+1=>by
  show conv (λj=>c*f j) b n m+c*f n*shF b n m=c*(conv f b n m+f n*shF b n m)
  rw[aF4 c f b m n,rG,kQ]
theorem c69 (f b:∅)(k m:Nat): ∀n,conv (shF f k) b (k+n) m=shF (conv f b n) k m
 | 0=>by
  have e: ∀j,j<=k->conv (shF f k) b j m=0:=by
   intro j
   induction j with
   | zero=>intro _;rfl
   | succ j ih=>
    intro hj;show conv (shF f k) b j m+shF f k j*shF b j m=0;rw[ih ad]
    unfold shF;rw[a6 ad,cJ]
    rfl
  rw[Nat.add_zero,e k<|aD _];unfold shF;split<;>rfl
 | n+1=>by
  show conv (shF f k) b (k+n) m+shF f k (k+n)*shF b (k+n) m=shF (λm=>conv f b n m+f n*shF b n m) k m
  rw[c69 f b k m n,cN8,cN9,shF_sh,a27 n k]
  congr 2
  unfold shF;rw[a7 ad,show k+n-k=n by lia]
theorem bC8 {u b c:∅}{V:Nat}(hb: ∀j,V<=j->b j=0)(m:Nat): ∀U,conv u (conv b c V) U m=conv (conv u b U) c (U+V) m
 | 0=>by
  have e: ∀n,conv (conv u b 0) c n m=0:=by
   intro n
   induction n with
   | zero=>rfl
   | succ n ih=>
    show conv (conv u b 0) c n m+0*shF c n m=0
    rw[ih,cJ];rfl
  rw[e];rfl
 | U+1=>by
  show conv u (conv b c V) U m+u U*shF (conv b c V) U m=conv (λm=>conv u b U m+u U*shF b U m) c (U+1+V) m
  rw[b00,aF4,bC8 hb m U];have z1: ∀j,U+V<=j->j<U+1+V->conv u b U j=0:=λj h1 h2=>by
   have: ∀i,V<i+1->b i=0:=λi hi=>hb i ad
   by_cases v:V=0
   .subst v;have e:b=λ_=>0:=funext λj=>hb j (gA _)
    rw[e];have nul: ∀n,conv u (λ_=>0) n j=0:=by
     intro n
     induction n with
     | zero=>rfl
     | succ n ih=>
      show conv u (λ_=>0) n j+u n*shF (λ_=>0) n j=0
      rw[ih];unfold shF;split<;>rw[aX]<;>rfl
    exact nul U
   .exact oW (d:=V-1) (λi hi=>hb i ad) U j ad
  rw[aS8 (u:=conv u b U) (b:=c) (U:=U+V) (U+1+V) z1 ad]
  have z2: ∀j,U+V<=j->j<U+1+V->shF b U j=0:=λj h1 h2=>by
   unfold shF;rw[a7 ad]
   exact hb _ ad
  rw[aS8 (u:=shF b U) (b:=c) (U:=U+V) (U+1+V) z2 ad,c69]
theorem b01 (u f g:∅)(m:Nat): ∀n,conv u (λj=>f j+g j) n m=conv u f n m+conv u g n m
 | 0=>rfl
 | n+1=>by
  show conv u (λj=>f j+g j) n m+u n*shF (λj=>f j+g j) n m=conv u f n m+u n*shF f n m+(conv u g n m+u n*shF g n m)
  rw[b01 u f g m n,cN8,rG]
  lia
theorem aT2 (c:Int)(k:Nat)(hu: ∀j,n<=j->u j=0)(m:Nat):conv u (λj=>if j=k then c else 0) n m=c*shF u k m:=by
 have e: ∀n,conv u (λj=>if j=k then c else 0) n m=if k<=m/\m-k<n then c*u (m-k)else 0:=by
  intro n
  induction n with
  | zero=>rw[a6 aa];rfl
  | succ n ih=>
   show conv u (λj=>if j=k then c else 0) n m+u n*shF (λj=>if j=k then c else 0) n m=_
   have sh:shF (λj=>if j=k then c else 0) n m=if n<=m/\m-n=k then c else 0:=by
    unfold shF;right
    by_cases h3:n<=m
    .rw[a7 h3]
     by_cases h4:m-n=k
     .rw[a7 h4,a7 ⟨h3,h4⟩]
     .rw[a6 h4,a6 λz=>h4 z.2]
    .rw[a6 h3,a6 λz=>h3 z.1]
   rw[ih,sh]
   by_cases h1:k<=m/\m-k<n
   .rw[a7 h1,a6<|show ¬(n<=m/\m-n=k)by omega,a7<|show k<=m/\m-k<n+1 by omega,aX,dY]
   .rw[a6 h1]
    by_cases h2:k<=m/\m-k=n
    .rw[a7<|show n<=m/\m-n=k by omega,a7<|show k<=m/\m-k<n+1 by omega,h2.2,bS,fZ]
    .rw[a6<|show ¬(n<=m/\m-n=k)by omega,a6<|show ¬(k<=m/\m-k<n+1)by omega,aX]
     rfl
 rw[e n];unfold shF
 by_cases h1:k<=m
 .rw[a7 h1]
  by_cases h2:m-k<n
  .rw[a7 ⟨h1,h2⟩]
  .rw[a6 aa,hu _ aa,aX]
 .rw[a6 h1,a6 aa,aX]
theorem bQ9 {b:∅}{V:Nat}(hu: ∀j,U<=j->u j=0)(hb: ∀j,V<=j->b j=0)(m:Nat):conv u b U m=conv b u V m:=by
 have e: ∀n,conv u b n m=conv b (λj=>if j<n then u j else 0) V m:=by
  intro n
  induction n with
  | zero=>
   have:(λj=>if j<0 then u j else 0)=λj=>if j=0 then(0:Int)else 0:=funext λj=>ae
   rw[this,aT2 0 0 hb,cJ];rfl
  | succ n ih=>
   have:(λj=>if j<n+1 then u j else 0)=λj=>(if j<n then u j else 0)+(if j=n then u n else 0):=funext λj=>by
    by_cases h1:j<n
    .rw[a7 ad,a7 h1,a6 ad,dY]
    .by_cases h2:j=n
     .subst h2;rw[a7 ad,a6 h1,a7 rfl,bS]
     .rw[a6 ad,a6 h1,a6 h2];rfl
   rw[this,b01 b (λj=>if j<n then u j else 0) λj=>if j=n then u n else 0,aT2 _ _ hb,<-ih]
   rfl
 rw[e U]
 congr 1
 funext j
 by_cases h:j<U
 .rw[a7 h]
 .rw[a6 h,hu j ad]
theorem emL (a b p:Int):a%p*b%p=a*b%p:=by rw[gY,jR,<-gY]
theorem emR (a b p:Int):a*(b%p)%p=a*b%p:=by rw[gY,jR,<-gY]
structure MP (p:Int)(n:Nat)(f:∅):Prop where
 top:f n=1
 hi: ∀j,n<j->f j=0
 rng: ∀j,0<=f j/\f j<p
theorem MP.z {p:Int}(h:MP p n f): ∀j,n+1<=j->f j=0:=λj hj=>h.hi j hj
noncomputable def tm (p:Int)(a b:Nat×∅):Nat×∅:=(a.1+b.1,md p<|conv a.2 b.2 (a.1+1))
theorem bC9 {p:Int}(u b:∅)(n m:Nat):conv (md p u) b n m%p=conv u b n m%p:=aS7 (λi j=>by show u i%p*b j%p=_;rw[emL]) n m
theorem d89 {p:Int}(u b:∅)(n m:Nat):conv u (md p b) n m%p=conv u b n m%p:=aS7 (λi j=>by show u i*(b j%p)%p=_;rw[emR]) n m
theorem MP.tm {p:Int}{a b:Nat×∅}(hp:2<=p)(ha:MP p a.1 a.2)(hb:MP p b.1 b.2):MP p (M.tm p a b).1 (M.tm p a b).2:=by
 refine⟨?_,λj hj=> ?_,λj=>⟨cH _ ad,cG _ ad⟩⟩
 .show conv a.2 b.2 (a.1+1) (a.1+b.1)%p=1
  rw[c66 hb.hi,ha.top,hb.top];exact dE ac ad
 .show conv a.2 b.2 (a.1+1) j%p=0
  have hj':a.1+b.1<j:=hj;rw[oW (d:=b.1) hb.hi (a.1+1) j ad,cB]
theorem vR {p:Int}{a b c:Nat×∅}(hb: ∀j,b.1<j->b.2 j=0):tm p a (tm p b c)=tm p (tm p a b) c:=by
 refine j4 (iK _ _ _).symm (funext λm=> ?_)
 show conv a.2 (md p<|conv b.2 c.2 (b.1+1)) (a.1+1) m%p=conv (md p<|conv a.2 b.2 (a.1+1)) c.2 (a.1+b.1+1) m%p
 rw[d89,bC9,bC8 (V:=b.1+1) (λj hj=>hb j hj) m<|a.1+1]
 rw[aS8 (u:=conv a.2 b.2 (a.1+1)) (b:=c.2) (U:=a.1+b.1+1) (a.1+1+(b.1+1)) (λj h1 h2=>oW (d:=b.1) hb (a.1+1) j ad) ad]
theorem sB {p:Int}{a b:Nat×∅}(ha: ∀j,a.1<j->a.2 j=0)(hb: ∀j,b.1<j->b.2 j=0):tm p a b=tm p b a:=by
 refine j4 (a27 _ _) (funext λm=> ?_)
 show conv a.2 b.2 (a.1+1) m%p=conv b.2 a.2 (b.1+1) m%p
 rw[bQ9 (U:=a.1+1) (V:=b.1+1) (λj hj=>ha j hj) λj hj=>hb j hj]
noncomputable def gJ:Nat×∅:=(0,λj=>if j=0 then 1 else 0)
theorem MP.one {p:Int}(hp:2<=p):MP p gJ.1 gJ.2:=⟨rfl,λj hj=>a6 (by have:0<j:=hj;lia),λj=>by show 0<=(if j=0 then(1:Int)else 0)/\(if j=0 then(1:Int)else 0)<p;split<;>lia⟩
theorem bD0 {p:Int}{a:Nat×∅}(ha:MP p a.1 a.2):tm p gJ a=a:=by
 refine j4 (Nat.zero_add _) (funext λm=> ?_)
 show(0+(if(0:Nat)=0 then(1:Int)else 0)*shF a.2 0 m)%p=a.2 m
 rw[a7 rfl,kS,bS];unfold shF;rw[a7<|gA _,sub_zero];exact dE (ha.rng m).1 (ha.rng m).2
noncomputable def dR (c:Int):Nat×∅:=(1,λj=>if j=0 then c else if j=1 then 1 else 0)
theorem MP.lin {p:Int}(hp:2<=p)(h0:0<=c)(h1:c<p):MP p (dR c).1 (dR c).2:=⟨rfl,λj hj=>by
  have:1<j:=hj;show(if j=0 then c else if j=1 then 1 else 0)=0;rw[a6 ad,a6 ad],λj=>by
  show 0<=(if j=0 then c else if j=1 then 1 else 0)/\(if j=0 then c else if j=1 then 1 else 0)<p
  split
  .lia
  .split<;>lia⟩
noncomputable def va (p:Int)(a:Nat×∅)(z:Int):Int:=ps a.2 z (a.1+1)%p
theorem dU0 (p:Int)(f:∅)(z:Int): ∀n,ps (md p f) z n%p=ps f z n%p
 | 0=>rfl
 | n+1=>by
  show(ps (md p f) z n+f n%p*z^n)%p=(ps f z n+f n*z^n)%p
  rw[j0,dU0 p f z n,emL,<-j0]
theorem c70 {p:Int}{a b:Nat×∅}(hb: ∀j,b.1<j->b.2 j=0)(z:Int):va p (tm p a b) z=va p a z*va p b z%p:=by
 show ps (md p<|conv a.2 b.2 (a.1+1)) z (a.1+b.1+1)%p=ps a.2 z (a.1+1)%p*(ps b.2 z (b.1+1)%p)%p
 rw[dU0,<-gY];have h:=bY1 (u:=a.2) (b:=b.2) (z:=z) (V:=b.1+1) (λj hj=>hb j hj) (a.1+1) (a.1+1+(b.1+1)) (aD _)
 rw[<-h,aN5 (n:=a.1+b.1+1) (a.1+1+(b.1+1)) ad λj h1 h2=>oW (d:=b.1) hb (a.1+1) j ad]
noncomputable def hqA (c:Int)(f:∅)(n:Nat):∅
 | 0=>f n
 | k+1=>f (n-1-k)-c*hqA c f n k
noncomputable def hq (c:Int)(f:∅)(n:Nat):∅:=λj=>if j<n then hqA c f n (n-1-j)else 0
theorem cO0 (hf: ∀j,n<j->f j=0)(j:Nat)(hj:1<=j):f j=hq c f n (j-1)+c*hq c f n j:=by
 unfold hq
 by_cases h1:j<n
 .rw[a7<|show j-1<n by lia,a7 h1,show n-1-(j-1)=(n-1-j)+1 by lia]
  show f j=f (n-1-(n-1-j))-c*hqA c f n (n-1-j)+c*hqA c f n (n-1-j)
  rw[show n-1-(n-1-j)=j by lia]
  lia
 .by_cases h2:j=n
  .subst h2;rw[a7<|show j-1<j by lia,a6 h1,show j-1-(j-1)=0 by lia,aX,dY]
   rfl
  .rw[a6<|show ¬j-1<n by lia,a6 h1,hf j ad,aX]
   rfl
theorem dU1 {c:Int}{f:∅}{n:Nat}(hf: ∀j,n<j->f j=0): ∀m,ps f (-c) (m+1)=f 0-c*hq c f n 0+c*hq c f n m*(-c)^m
 | 0=>by
  show 0+f 0*(-c)^0=_
  rw[cR,lN,lN]
  lia
 | m+1=>by
  show ps f (-c) (m+1)+f (m+1)*(-c)^(m+1)=_
  rw[dU1 hf m,cO0 (c:=c) hf (m+1) ad,gW,gM]
  grind
theorem hq_at (hf: ∀j,n<j->f j=0):ps f (-c) (n+1)=f 0-c*hq c f n 0:=by
 rw[dU1 hf n];have:hq c f n n=0:=by unfold hq;rw[a6<|dI _]
 rw[this,aX,cJ,dY]
theorem c71 (c:Int)(hu: ∀j,n<=j->u j=0)(m:Nat):conv u (dR c).2 n m=c*u m+(if m=0 then 0 else u (m-1)):=by
 have e:(dR c).2=λj=>(if j=0 then c else 0)+(if j=1 then 1 else 0):=funext λj=>by
  show(if j=0 then c else if j=1 then 1 else 0)=_
  by_cases h0:j=0
  .subst h0;simp
  .rw[a6 h0,a6 h0,bS]
 rw[e,b01 u (λj=>if j=0 then c else 0) λj=>if j=1 then 1 else 0,aT2 c 0 hu,aT2 1 1 hu,kS]
 unfold shF;rw[a7<|gA _,sub_zero]
 congr 1
 by_cases h0:m=0
 .rw[a7 h0,a6 ad]
 .rw[a6 h0,a7 ad]
theorem dO6 (hf: ∀j,n<j->f j=0)(m:Nat):f m=conv (hq c f n) (dR c).2 n m+(if m=0 then f 0-c*hq c f n 0 else 0):=by
 rw[c71 c (λj hj=>by unfold hq;rw[a6 ad])]
 by_cases h0:m=0
 .subst h0;rw[a7 rfl,a7 rfl];lia
 .rw[a6 h0,a6 h0,cO0 (c:=c) hf m ad];lia
noncomputable def powT (p:Int)(a g:Nat×∅):Nat->Nat×∅
 | 0=>a
 | k+1=>tm p (powT p a g k) g
theorem MP.powT {p:Int}{a g:Nat×∅}(hp:2<=p)(ha:MP p a.1 a.2)(hg:MP p g.1 g.2): ∀k,MP p (M.powT p a g k).1 (M.powT p a g k).2
 | 0=>ha
 | k+1=>MP.tm hp (MP.powT hp ha hg k) hg
theorem vS (p:Int)(a g:Nat×∅): ∀k,(powT p a g k).1=a.1+g.1*k
 | 0=>rfl
 | k+1=>by
  show(powT p a g k).1+g.1=_
  rw[vS p a g k,a29,iK]
noncomputable def allT (p:Int)(a:Nat×∅):List ((Nat×∅)×Nat)->Nat×∅
 | []=>a
 | x::l=>allT p (powT p a x.1 x.2) l
theorem mD (p:Int): ∀(l m:List ((Nat×∅)×Nat)) (a:Nat×∅),allT p a (l++m)=allT p (allT p a l) m
 | [],m,a=>rfl
 | x::l,m,a=>mD p l m _
theorem MP.allT {p:Int}(hp:2<=p): ∀(l:List ((Nat×∅)×Nat)) {a:Nat×∅},MP p a.1 a.2->(∀x∈l,MP p x.1.1 x.1.2)->MP p (M.allT p a l).1 (M.allT p a l).2
 | [],a,ha,_=>ha
 | x::l,a,ha,h=>MP.allT hp l (MP.powT hp ha (h x<|.head _) x.2) λy hy=>h y (.tail _ hy)
theorem aT3 (p:Int): ∀(l:List ((Nat×∅)×Nat)) (a:Nat×∅) (x:(Nat×∅)×Nat),x∈l->a.1+x.1.1*x.2<=(allT p a l).1
 | y::l,a,x,hx=>by
  show _<=(allT p (powT p a y.1 y.2) l).1
  have mono: ∀(l:List ((Nat×∅)×Nat)) (a:Nat×∅),a.1<=(allT p a l).1:=by
   intro l
   induction l with
   | nil=>intro a;exact aD _
   | cons z l ih=>intro a;exact aI (by rw[vS];lia) (ih<|powT p a z.1 z.2)
  rcases bB.mp hx with rfl|hx
  .have:=mono l (powT p a x.1 x.2);rw[vS]at this;exact this
  .have:=aT3 p l (powT p a y.1 y.2) x hx;rw[vS]at this
   lia
noncomputable def aB0 (x:(Nat×∅)×Nat):D:= .tup [aO<|rwF (x.1.1+1) x.1.2,.int (x.2:Int)]
noncomputable def lnP (x:Int×Nat):(Nat×∅)×Nat:=(dR x.1,x.2)
structure LK (p:Int)(F:Nat×∅)(C:Nat)(cs:List (Int×Nat))(L:Nat×∅):Prop where
 prod:F=tm p (allT p gJ<|cs.map lnP) L
 mp:MP p L.1 L.2
 asc:cs.Pairwise λa b=>a.1<b.1
 mem: ∀x∈cs,0<=x.1/\x.1< (C:Int)/\1<=x.2
 nr: ∀c:Nat,c<C->va p L (-(c:Int))≠0
 len:cs.length<=C
theorem cO1 {p:Int}(hp:2<=p){cs:List (Int×Nat)}(h: ∀x∈cs,0<=x.1/\x.1<p): ∀y∈cs.map lnP,MP p y.1.1 y.1.2:=by
 intro y hy;obtain⟨x,hx,rfl⟩:=cC.mp hy;exact MP.lin hp (h x hx).1 (h x hx).2
def vT:Φ:=λds Q=> ∃(n:Nat) (f:∅) (p:Int),ds=[aO<|rwF (n+1) f,.int p]/\n<=40/\Pr p/\MP p n f/\ ∀cs L,LK p (n,f) p.toNat cs L->Q (.pu<|.tup [.lst<|cs.map λx=>aB0 (lnP x),aO<|rwF (L.1+1) L.2])
def a78:US:=(d6<|jD<|a8 (aB 2)<|a8 (aB 3) aP)
def a79:US:=(aQ (jI (jJ<|a8 (aB 1) aP) (cE 4)<|aQ (bN 5<|uC<|.int 0)<|aQ (bV2 (cO<|uOp (fH false) (uOp jC (aV pO<|a8 (aB 3)<|a8 (sJ<|aB 4) aP)<|aB 1)<|uC<|.int 0)<|aQ (bN 3<|uIx (uV<|aV t7<|a8 (aB 3)<|a8 (jD<|a8 (aB 4)<|a8 (uC<|.int 1) aP)<|a8 (aB 1) aP)<|uC<|.int 0)<|c41 5 (gI2 λi j Q=>Q (.pu<|.int<|i+j))<|uC<|.int 1)<|fE (cO<|uOp (pH λi j=>decide (j<i)) (aB 5)<|uC<|.int 0) (aQ4 2<|jD<|a8 (jD<|a8 (aB 4)<|a8 (uC<|.int 1) aP)<|a8 (aB 5) aP) cX) a78)
def a80:US:=(aQ (bN 3<|aB 0) a79)
def vU:US:=(aQ (bN 2<|lY aP) a80)
theorem d90 {p:Int}(pp:Pr p){L:Nat×∅}(mp:MP p L.1 L.2)(c0:0<=c)(c1:c<p)(hz:va p L (-c)=0){t:Int}(ht:t*md p (dR c).2 1%p=1)(t0:0<=t)(t1:t<p) :
  1<=L.1/\ ∃u:∅,MP p (L.1-1) u/\L=tm p (L.1-1,u) (dR c)/\
   (let b:=λj=>t*md p (dR c).2 j%p
    let LA:=gQ (md p L.2) (L.1+1)
    let q:=divQ b 1 (LA-1) (md p L.2)
    rwF (gQ (λj=>t*q j%p)<|gQ q<|LA-1) (λj=>t*q j%p)=rwF L.1 u):=by
 have p2:=pp.lo;have mdL:md p L.2=L.2:=funext λj=>dE (mp.rng j).1 (mp.rng j).2
 have ml:=MP.lin p2 c0 c1;have mdG:md p (dR c).2=(dR c).2:=funext λj=>dE (ml.rng j).1 (ml.rng j).2
 have l1:1<=L.1:=by
  refine Nat.pos_of_ne_zero λz=> ?_
  unfold va at hz;rw[z]at hz;have e:ps L.2 (-c) (0+1)=L.2 0*(-c)^0:=by show 0+L.2 0*(-c)^0=_;lia
  have e2:L.2 0=1:=by have:=mp.top;rw[z]at this;exact this
  rw[e,e2,cR,lN,dE ac ad]at hz
  cases hz
 have r0:(L.2 0-c*hq c L.2 L.1 0)%p=0:=by rw[<-hq_at mp.hi];exact hz
 have fm: ∀m,L.2 m=conv (md p<|hq c L.2 L.1) (dR c).2 L.1 m%p:=λm=>by
  have h:=dO6 (c:=c) mp.hi m;rw[bC9];have e:L.2 m%p=L.2 m:=dE (mp.rng m).1 (mp.rng m).2;rw[<-e]
  conv=>lhs;rw[h]
  by_cases h0:m=0
  .rw[a7 h0,j0,r0,dY,jR]
  .rw[a6 h0,dY]
 have ut:md p (hq c L.2 L.1) (L.1-1)=1:=by
  show hq c L.2 L.1 (L.1-1)%p=1
  unfold hq;rw[a7 ad,oF]
  show L.2 L.1%p=1
  rw[mp.top];exact dE ac ad
 have uz: ∀j,L.1<=j->md p (hq c L.2 L.1) j=0:=λj hj=>by
  show hq c L.2 L.1 j%p=0
  unfold hq;rw[a6 ad,cB]
 have ur: ∀j,0<=md p (hq c L.2 L.1) j/\md p (hq c L.2 L.1) j<p:=λj=>⟨cH _ ad,cG _ ad⟩
 refine⟨l1,md p<|hq c L.2 L.1,⟨ut,λj hj=>uz j ad,ur⟩,?_,?_⟩
 .refine j4 (show L.1=L.1-1+1 by lia) (funext λm=> ?_)
  show L.2 m=conv (md p<|hq c L.2 L.1) (dR c).2 (L.1-1+1) m%p
  rw[show L.1-1+1=L.1 by lia]
  exact fm m
 .have mm:=d84 (p:=p) (t:=t) (B0:=md p (dR c).2) (u:=md p (hq c L.2 L.1)) (low:=λ_=>0) (A:=md p L.2) (d:=1) (U:=L.1) (n:=L.1+1) p2 (λj hj=>by rw[mdG];exact ml.hi j hj) (.inr (by rw[ut];decide)) ur uz (λ_ _=>rfl) (λ_=>⟨ac,ad⟩) ht (λm=>by rw[mdL,mdG,dY];exact fm m) (aD _)
  obtain⟨_,e1,_,_⟩:=mm;have eLA:gQ (md p L.2) (L.1+1)=L.1+1:=u5 (aD _) (λm h1 h2=>ad) (.inr (by rw[mdL,gW,mp.top];decide))
  rw[eLA]at e1⊢;have eu:(λj=>t*divQ (λj=>t*md p (dR c).2 j%p) 1 (L.1+1-1) (md p L.2) j%p)=md p (hq c L.2 L.1):=funext e1
  right;rw[eu];have eq:gQ (divQ (λj=>t*md p (dR c).2 j%p) 1 (L.1+1-1)<|md p L.2) (L.1+1-1)=L.1:=by
   rw[gW];refine u5 (aD _) (λm h1 h2=>ad) (.inr λz=> ?_)
   have h:=e1 (L.1-1);rw[gW]at h;rw[z,aX,cB,ut]at h;cases h
  rw[eq,u5 (k:=L.1) (aD _) (λm h1 h2=>ad)<|.inr (by rw[ut];decide)]
theorem d91 {p:Int}{a b:Nat×∅}(hb: ∀j,b.1<j->b.2 j=0){z:Int}(h:va p (tm p a b) z≠0):va p a z≠0/\va p b z≠0:=by
 rw[c70 hb]at h;refine⟨λe=>h ?_,λe=>h ?_⟩
 .rw[e,cJ,cB]
 .rw[e,aX,cB]
theorem d92 {p:Int}(pp:Pr p)(h:MP p n f)(j:Nat):(f j).natAbs<=2^8:=by
 have h1:=h.rng j;have h2:=pp.hi;have:(2:Nat)^8=256:=rfl
 lia
theorem bD1: Ra vT vU ["f","p","a","l","c","o"]:=by
 rintro ds Q ⟨n,f,p,rfl,n4,pp,mp,h⟩;have p2:=pp.lo;have p3:=pp.hi;unfold vU;show(aQ _ _:US) _ [~~~aO (rwF (n+1) f),!p,none,none,none,none];rw[aL];left;refine⟨ac,?_⟩
 unfold a80;rw[aL];left;unfold a79;rw[aL];refine bM p.toNat (λi=> .int (0+i)) _ ?_
  (λi ρ=> ∃(cs:List (Int×Nat)) (L:Nat×∅) (x y:Option B),ρ=[~~~aO (rwF (n+1) f),!p,some<|.ow<|cs.map λx=>aB0 (lnP x),~~~aO (rwF (L.1+1) L.2),x,y]/\LK p (n,f) i cs L)
  ⟨[],(n,f),none,none,rfl,(bD0 (p:=p) (a:=(n,f)) mp).symm,mp,.nil,ae,ae,aD _⟩ ?_ ?_
 .intro Q' q;left;refine⟨⟨ad,ad⟩,?_⟩
  exact q
 .rintro i ρ hi ⟨cs,L,x,y,rfl,lk⟩;have hLn:L.1<=n:=by
   have:=bW Prod.fst lk.prod;have e:n=(allT p gJ<|cs.map lnP).1+L.1:=this
   lia
  have mcs:=cO1 p2 (cs:=cs) (λx hx=>⟨(lk.mem x hx).1,by have:=(lk.mem x hx).2.1;lia⟩)
  have mA:=MP.allT p2 (cs.map lnP) (MP.one p2) mcs;have mlin:=MP.lin p2 (c:=(i:Int)) ad ad
  rw[bS];left;refine⟨ae,?_⟩
  refine⟨λk ρ=> ∃(o:Nat) (L':Nat×∅),ρ=[~~~aO (rwF (n+1) f),!p,some<|.ow<|cs.map λx=>aB0 (lnP x),~~~aO (rwF (L'.1+1) L'.2),!(i:Int),!(o:Int)]/\k=L'.1/\L'.1<=n/\(n,f)=tm p (powT p (allT p gJ<|cs.map lnP) (dR (i:Int)) o) L'/\MP p L'.1 L'.2/\ ∀c:Nat,c<i->va p L' (-(c:Int))≠0,⟨L.1,0,L,rfl,rfl,hLn,lk.prod,lk.mp,lk.nr⟩,?_⟩
  rintro k ρ ⟨o,L',rfl,rfl,hL',e,mp',nr⟩;left;refine⟨L'.1+1,8,8,L'.2,-(i:Int),rfl,⟨d92 pp mp',by have:(2:Nat)^8=256:=rfl;lia,ad,ac,ad⟩,?_⟩
  left
  refine⟨ad,?_⟩
  rw[bY _ ad]
  by_cases c:va p L' (-(i:Int))=0
  .rw[a7<|show ps L'.2 (-(i:Int)) (L'.1+1)%p=0 from c]
   refine⟨ac,L'.1+1,2,1,L'.2,(dR (i:Int)).2,p,rfl,ad,ac,pp,λj hj=>mlin.hi j hj,ac,λj hj=>by show(dR (i:Int)).2 j%p=0;rw[mlin.hi j hj,cB],by show(1:Int)%p≠0;rw[dE ac ad];decide,λt ht t0 t1=> ?_⟩
   obtain⟨l1,u,mu,eu,er⟩:=d90 pp mp' (c:=(i:Int)) ad ad c ht t0 t1
   dsimp only at er⊢;rw[er,d72];right;have eL:rwF L'.1 u=rwF (L'.1-1+1) u:=by rw[show L'.1-1+1=L'.1 by lia]
   rw[eL];refine⟨L'.1-1,ad,o+1,(L'.1-1,u),by rw[Int.natCast_succ],rfl,by show L'.1-1<=n;lia,?_,mu,λc' hc'=> ?_⟩
   .show(n,f)=tm p (tm p (powT p (allT p gJ<|cs.map lnP) (dR (i:Int)) o)<|dR (i:Int)) (L'.1-1,u)
    rw[e]
    conv=>lhs;rw[eu]
    rw[sB (a:=(L'.1-1,u)) (λj hj=>mu.hi j hj) mlin.hi,vR mlin.hi]
   .have:=nr c' hc';rw[eu]at this;exact(d91 mlin.hi this).1
  .rw[a6<|show ¬ps L'.2 (-(i:Int)) (L'.1+1)%p=0 from c]
   have nr': ∀c:Nat,c<i+1->va p L' (-(c:Int))≠0:=λc' hc'=>by
    by_cases h1:c'<i
    .exact nr c' h1
    .rw[show c'=i by lia];exact c
   by_cases c2:(0:Int)< (o:Int)
   .rw[a7 c2];refine⟨ac,ac,?_,cs++[((i:Int),o)],L',_,_,by rw[bV];rfl,?_,mp',?_,?_,nr',?_⟩
    .rw[aF];exact qV lk.len (aZ hi<|aI (show p.toNat<=200 by lia) ac)
    .rw[bV,mD];exact e
    .rw[aL0];refine⟨lk.asc,a02 _ _,λa ha b hb=> ?_⟩
     rw[iH.mp hb];exact(lk.mem a ha).2.1
    .intro z hz;rcases bU.mp hz with hz|hz
     .have:=lk.mem z hz;exact⟨this.1,ad,this.2.2⟩
     .rw[iH.mp hz];exact⟨by show(0:Int)<=(i:Int);lia,by show(i:Int)< ((i+1:Nat):Int);lia,by show 1<=o;lia⟩
    .rw[dD];exact Nat.succ_le_succ lk.len
   .rw[a6 c2];have o0:o=0:=ad
    subst o0;exact⟨cs,L',_,_,rfl,e,mp',lk.asc,λz hz=>⟨(lk.mem z hz).1,by have:=(lk.mem z hz).2.1;lia,(lk.mem z hz).2.2⟩,nr',aM0 lk.len⟩
 .rintro ρ ⟨cs,L,x,y,rfl,lk⟩;right;unfold a78;left;exact⟨ac,h cs L lk⟩
noncomputable def quF (v u:Int):Nat×∅:=(2,λj=>if j=0 then v else if j=1 then u else if j=2 then 1 else 0)
theorem MP.qu {p u:Int}(hp:2<=p)(v0:0<=v)(v1:v<p)(u0:0<=u)(u1:u<p):MP p (quF v u).1 (quF v u).2:=⟨rfl,λj hj=>by
  have:2<j:=hj;show(if j=0 then v else if j=1 then u else if j=2 then 1 else 0)=0;rw[a6 ad,a6 ad,a6 ad],λj=>by
  show 0<=(if j=0 then v else if j=1 then u else if j=2 then 1 else 0)/\(if j=0 then v else if j=1 then u else if j=2 then 1 else 0)<p
  split
  .lia
  .split
   .lia
   .split<;>lia⟩
theorem bY2 (v u w s:Int):conv (quF v u).2 (quF w s).2 3 0=v*w/\conv (quF v u).2 (quF w s).2 3 1=v*s+u*w/\conv (quF v u).2 (quF w s).2 3 2=v+u*s+w/\conv (quF v u).2 (quF w s).2 3 3=u+s:=by
 refine⟨?_,?_,?_,?_⟩<;>simp[conv,shF,quF]
theorem d93 {p:Int}(mp:MP p 4 f){u:Int}(m1:MP p (quF v u).1 (quF v u).2)(m2:MP p (quF w s).1 (quF w s).2)(hp:2<=p) :
  ((4,f):Nat×∅)=tm p (quF v u) (quF w s)↔f 0=v*w%p/\f 1=(v*s+u*w)%p/\f 2=(v+u*s+w)%p/\f 3=(u+s)%p:=by
 obtain⟨e0,e1,e2,e3⟩:=bY2 v u w s;have mt:=MP.tm hp m1 m2;constructor
 .intro e;have h: ∀m,f m=conv (quF v u).2 (quF w s).2 3 m%p:=λm=>congrFun (bW Prod.snd e) m
  exact⟨by rw[h 0,e0],by rw[h 1,e1],by rw[h 2,e2],by rw[h 3,e3]⟩
 .rintro⟨h0,h1,h2,h3⟩;refine j4 rfl (funext λm=> ?_)
  show f m=conv (quF v u).2 (quF w s).2 3 m%p
  match m with
  | 0=>rw[h0,e0]
  | 1=>rw[h1,e1]
  | 2=>rw[h2,e2]
  | 3=>rw[h3,e3]
  | 4=>exact mp.top.trans mt.top.symm
  | m+5=>exact(mp.hi _ ad).trans (mt.hi (m+5)<|show 2+2<m+5 by lia).symm
def NoQ (p:Int)(F:Nat×∅):Prop:= ∀v u w s:Int,0<=v->v<p->0<=u->u<p->0<=w->w<p->0<=s->s<p->F≠tm p (quF v u) (quF w s)
def t9:Φ:=λds Q=> ∃(f:∅) (p:Int),ds=[aO<|rwF 5 f,.int p]/\Pr p/\MP p 4 f/\
 (∀v u w s:Int,0<=v->v<p->0<=u->u<p->0<=w->w<p->0<=s->s<p->((4,f):Nat×∅)=tm p (quF v u) (quF w s)->Q (.ow [aO [v,u,1],aO [w,s,1]]))/\(NoQ p (4,f)->Q (.ow []))
def zG:US:=(d6<|lY aP)
def tD:US:=(aQ (jI (jJ<|a8 (aB 1) aP) (cE 2)<|aQ (bN 3<|uOp jC (uOp M.gSub (uIx (aS 0)<|uC<|.int 3)<|aB 2)<|aB 1)<|aQ (bN 4<|uOp M.gSub (uIx (aS 0)<|uC<|.int 2)<|uOp bZ (aB 2)<|aB 3)<|jI (jJ<|a8 (aB 1) aP) (cE 5)<|aQ (bN 6<|uOp jC (uOp M.gSub (aB 4)<|aB 5)<|aB 1)<|fE (aQ3 (cO<|uOp (fH false) (uOp jC (uOp bZ (aB 5)<|aB 6)<|aB 1)<|uIx (aS 0)<|uC<|.int 0)<|cO<|uOp (fH false) (uOp jC (uOp gI (uOp bZ (aB 2)<|aB 6)<|uOp bZ (aB 5)<|aB 3)<|aB 1)<|uIx (aS 0)<|uC<|.int 1) (d6<|lY<|a8 (jD<|a8 (aB 5)<|a8 (aB 2)<|a8 (uC<|.int 1) aP)<|a8 (jD<|a8 (aB 6)<|a8 (aB 3)<|a8 (uC<|.int 1) aP) aP) cX) zG)
def cV4 (p:Int)(f:∅)(u v:Int):Prop:=v*((f 2-u*((f 3-u)%p)-v)%p)%p=f 0/\(u*((f 2-u*((f 3-u)%p)-v)%p)+v*((f 3-u)%p))%p=f 1
theorem c72 {p:Int}(h0:0<=a)(h1:a<p)(h:x=(a+b)%p):(x-b)%p=a:=by
 rw[h,a30,jR,<-a30,Int.add_sub_cancel];exact dE h0 h1
theorem b55: Ra t9 tD ["f","p","u","s","t","v","w"]:=by
 rintro ds Q ⟨f,p,rfl,pp,mp,yes,no⟩;have p2:=pp.lo;have p3:=pp.hi;have a0:atI ((rwF 5 f).map D.int) 0=some (.int<|f 0):=pM (i:=0) ac
 have a1:atI ((rwF 5 f).map D.int) 1=some (.int<|f 1):=pM (i:=1) ac
 have a2:atI ((rwF 5 f).map D.int) 2=some (.int<|f 2):=pM (i:=2) ac
 have a3:atI ((rwF 5 f).map D.int) 3=some (.int<|f 3):=pM (i:=3) ac
 unfold tD;simp only[aO];show(aQ _ _:US) _ [~~~.tup ((rwF 5 f).map .int),!p,none,none,none,none,none];rw[aL];refine bM p.toNat (λi=> .int (0+i)) _ ?_
  (λi ρ=> ∃x y z a b,ρ=[~~~.tup ((rwF 5 f).map .int),!p,x,y,z,a,b]/\ ∀u v:Nat,u<i->v<p.toNat-> ¬cV4 p f (u:Int) (v:Int))
  ⟨none,none,none,none,none,rfl,λu v hu=>ad⟩ ?_ ?_
 .intro Q' q;left;refine⟨⟨ad,ad⟩,?_⟩
  exact q
 .rintro i ρ hi ⟨x,y,z,a,b,rfl,nh⟩;rw[bS];left;rw[a3];right;refine⟨ae,ad,?_⟩
  rw[bY _ ad,a2]
  right;have s0:=cH (f 3-(i:Int)) (show p≠0 by lia)
  have s1:=cG (f 3-(i:Int)) (show 0<p by lia)
  generalize hS:(f 3-(i:Int))%p=S at *;refine⟨cmL ad ad,?_⟩
  refine bM p.toNat (λi=> .int (0+i)) _ ?_
   (λj ρ=> ∃a b,ρ=[~~~.tup ((rwF 5 f).map .int),!p,!(i:Int),!S,!(f 2-(i:Int)*S),a,b]/\ ∀v:Nat,v<j-> ¬cV4 p f (i:Int) (v:Int))
   ⟨a,b,rfl,λv hv=>ad⟩ ?_ ?_
  .intro Q' q;left;refine⟨⟨ad,ad⟩,?_⟩
   exact q
  .rintro j ρ hj ⟨a,b,rfl,nj⟩;rw[bS];left;refine⟨ae,ad,?_⟩
   rw[bY _ ad]
   have w0:=cH (f 2-(i:Int)*S-(j:Int)) (show p≠0 by lia)
   have w1:=cG (f 2-(i:Int)*S-(j:Int)) (show 0<p by lia)
   generalize hW:(f 2-(i:Int)*S-(j:Int))%p=W at *;refine⟨cmL ad ad,ad,?_⟩
   rw[bY _ ad,a0]
   right
   have step: ¬cV4 p f (i:Int) (j:Int)-> ∃a b,[some<|B.pu<|.tup<|(rwF 5 f).map .int,!p,!(i:Int),!S,!(f 2-(i:Int)*S),!(j:Int),!W]=[~~~.tup ((rwF 5 f).map .int),!p,!(i:Int),!S,!(f 2-(i:Int)*S),a,b]/\ ∀v:Nat,v<j+1-> ¬cV4 p f (i:Int) (v:Int):=λnh'=>⟨_,_,rfl,λv hv=>by
    by_cases h1:v<j
    .exact nj v h1
    .rw[show v=j by lia];exact nh'⟩
   by_cases c1:(j:Int)*W%p=f 0
   .rw[a7 c1];refine⟨cmL ad ad,cmL ad ad,ad,?_⟩
    rw[bY _ ad,a1]
    right
    by_cases c2:((i:Int)*W+(j:Int)*S)%p=f 1
    .rw[a7 c2];refine⟨ac,ac,ac,yes (j:Int) (i:Int) W S ad ad ad ad w0 w1 s0 s1<|(d93 mp (MP.qu p2 ad ad ad ad) (MP.qu p2 w0 w1 s0 s1) p2).mpr ⟨c1.symm,by rw[<-c2,a31],?_,?_⟩⟩
     .rw[<-hW,j0,jR,<-j0];have:(j:Int)+(i:Int)*S+(f 2-(i:Int)*S-(j:Int))=f 2:=ad
      rw[this];exact(dE (mp.rng 2).1 (mp.rng 2).2).symm
     .rw[<-hS,j0,jR,<-j0];have:(i:Int)+(f 3-(i:Int))=f 3:=ad
      rw[this];exact(dE (mp.rng 3).1 (mp.rng 3).2).symm
    .rw[a6 c2];exact step λz=>c2 (by have:=z.2;unfold cV4 at z;rw[hS,hW]at this;exact this)
   .rw[a6 c1];exact step λz=>c1 (by have:=z.1;rw[hS,hW]at this;exact this)
  .rintro ρ ⟨a,b,rfl,nj⟩;refine⟨_,_,_,_,_,rfl,λu v hu hv=> ?_⟩
   by_cases h1:u<i
   .exact nh u v h1 hv
   .rw[show u=i by lia];exact nj v hv
 .rintro ρ ⟨x,y,z,a,b,rfl,nh⟩;right;unfold zG;left;refine⟨ac,no ?_⟩
  intro v u w s v0 v1 u0 u1 w0 w1 s0 s1 e;obtain⟨h0,h1,h2,h3⟩:=(d93 mp (MP.qu p2 v0 v1 u0 u1) (MP.qu p2 w0 w1 s0 s1) p2).mp e;obtain⟨v',rfl⟩: ∃v':Nat,v=(v':Int):=⟨v.toNat,ad⟩
  obtain⟨u',rfl⟩: ∃u':Nat,u=(u':Int):=⟨u.toNat,ad⟩
  refine nh u' v' ad ad ?_
  have es:(f 3-(u':Int))%p=s:=c72 s0 s1 (by rw[h3,a31])
  have ew:(f 2-(u':Int)*s-(v':Int))%p=w:=by
   have:=c72 (x:=f 2) (b:=(v':Int)+(u':Int)*s) w0 w1 (by rw[h2,a31 w])
   rw[<-this]
   congr 1
   lia
  unfold cV4;rw[es,ew];exact⟨h0.symm,by rw[h1,a31]⟩
theorem at0 {a b:D}:atI [a,b] 0=some a:=cY (j:=0) rfl
theorem at1 {a b:D}:atI [a,b] 1=some b:=cY (j:=1) rfl
def NoR (p:Int)(F:Nat×∅):Prop:= ∀c:Nat,c<p.toNat->va p F (-(c:Int))≠0
def ltP (x y:(Nat×∅)×Nat):Prop:=x.1.1<y.1.1\/(x.1.1=y.1.1/\ltL (rwF (x.1.1+1) x.1.2) (rwF (y.1.1+1) y.1.2)=true)
structure RL (p:Int)(F:Nat×∅)(rs:List ((Nat×∅)×Nat)):Prop where
 prod: ∀a:Nat×∅,MP p a.1 a.2->allT p a rs=tm p a F
 mem: ∀x∈rs,MP p x.1.1 x.1.2/\2<=x.1.1/\x.1.1<=4/\1<=x.2/\x.2<=2/\NoR p x.1/\(x.1.1=4->NoQ p x.1)
 ord:rs.Pairwise ltP
 len:rs.length<=2
theorem cO2 {p:Int}(hp:2<=p){a:Nat×∅}(ha:MP p a.1 a.2):tm p a gJ=a:=by
 rw[sB ha.hi (MP.one hp).hi,bD0 ha]
theorem RL.single {p:Int}(mp:MP p F.1 F.2)(h2:2<=F.1)(h4:F.1<=4)(nr:NoR p F)(nq:F.1=4->NoQ p F):RL p F [(F,1)]:=
 ⟨λa _=>rfl,λx hx=>by rw[iH.mp hx];exact⟨mp,h2,h4,aD _,show 1<=2 by decide,nr,nq⟩,a02 _ _,show 1<=2 by decide⟩
theorem row_lt {u:Int}(h: ¬(v=w/\u=s)):ltL [w,s,1] [v,u,1]=false->ltL [v,u,1] [w,s,1]=true:=by
 unfold ltL
 by_cases c:v=w
 .rw[a7 c,a7 c.symm];unfold ltL;have:u≠s:=λz=>h ⟨c,z⟩
  rw[a6 this,a6 λz=>this z.symm]
  simp only[aJ7,o7]
  lia
 .rw[a6 c,a6 λz=>c z.symm]
  simp only[aJ7,o7]
  lia
def nI:Φ:=λds Q=> ∃(n:Nat) (f:∅) (p:Int),ds=[aO<|rwF (n+1) f,.int p]/\n<=4/\Pr p/\MP p n f/\NoR p (n,f)/\ ∀rs,RL p (n,f) rs->Q (.ow<|rs.map aB0)
def sM:US:=(d6<|fJ [] [none,none] 1 (i7<|aV cG7<|a8 (aB 2) aP) (cE 0) (λρ Q=>Q true ρ)<|jD<|a8 (aB 0)<|a8 (uC<|.int 1) aP)
def sN:US:=(aQ (fE (cO<|uOp (cT9 false) (uIx (aS 2)<|uC<|.int 0)<|uIx (aS 2)<|uC<|.int 1) (d6<|lY<|a8 (jD<|a8 (uIx (aS 2)<|uC<|.int 0)<|a8 (uC<|.int 2) aP) aP) cX) sM)
def jM:US:=(aQ (fE (cO<|uOp (fH false) (jE<|aS 2)<|uC<|.int 0) (d6<|lY<|a8 (jD<|a8 (aB 0)<|a8 (uC<|.int 1) aP) aP) cX) sN)
def sO:US:=(aQ (bN 2<|uIf (cO<|uOp (fH false) (jE<|aS 0)<|uC<|.int 5) (aV t9<|a8 (aB 0)<|a8 (aB 1) aP)<|lY aP) jM)
def nJ:US:=(aQ (fE (cO<|uOp (fH false) (jE<|aS 0)<|uC<|.int 1) (d6<|lY aP) cX) sO)
theorem d94 {p:Int}(pp:Pr p)(mp:MP p F.1 F.2)(h1:F.1=1)(nr:NoR p F):False:=by
 have p2:=pp.lo;have r:=mp.rng 0;refine nr (F.2 0).toNat ad ?_
 unfold va;rw[h1,show(((F.2 0).toNat:Nat):Int)=F.2 0 by lia]
 have t:F.2 1=1:=by have:=mp.top;rw[h1]at this;exact this
 show(0+F.2 0*(-F.2 0)^0+F.2 1*(-F.2 0)^1)%p=0
 rw[t,cR,gM,cR];have:0+F.2 0*1+1*(1* -F.2 0)=0:=ad
 rw[this,cB]
theorem aG2: Ra nI nJ ["f","p","a"]:=by
 rintro ds Q ⟨n,f,p,rfl,n4,pp,mp,nr,h⟩;have p2:=pp.lo;unfold nJ;simp only[aO];show(aQ _ _:US) _ [~~~.tup ((rwF (n+1) f).map .int),!p,none];rw[aL];left;rw[fB]
 by_cases n0:n=0
 .rw[a7 ad]
  subst n0;refine⟨ac,h [] ⟨λa ha=> ?_,ae,.nil,ac⟩⟩
  have e:((0,f):Nat×∅)=gJ:=j4 rfl (funext λj=>by
   show f j=if j=0 then 1 else 0
   by_cases c:j=0
   .rw[a7 c,c];exact mp.top
   .rw[a6 c];exact mp.hi j ad)
  rw[e,cO2 p2 ha];rfl
 rw[a6 ad]
 have n1:n≠1:=λz=>d94 pp (F:=(n,f)) mp z nr
 have alone:(n=4->NoQ p (n,f))->jM {nx:=λ_=>Q (.pu .non),rt:=Q} [~~~.tup ((rwF (n+1) f).map .int),!p,↑[]]:=λnq=>by
  unfold jM;rw[aL];left;rw[a7<|by rfl]
  exact⟨ac,ac,h [((n,f),1)]<|RL.single mp (by show 2<=n;lia) n4 nr nq⟩
 unfold sO;rw[aL];left;simp only[uIf,jE,aS,bO5,uC,isB,B.d,sI,fH,qH,fB]
 by_cases c:n=4
 .subst c;rw[a7<|by rfl]
  refine⟨f,p,rfl,pp,mp,λv u w s v0 v1 u0 u1 w0 w1 s0 s1 e=> ?_,λnq=> ?_⟩
  .have m1:=MP.qu p2 v0 v1 u0 u1;have m2:=MP.qu p2 w0 w1 s0 s1;have k1:NoR p (quF v u):=λc hc=>by have:=nr c hc;rw[e]at this;exact(d91 m2.hi this).1
   have k2:NoR p (quF w s):=λc hc=>by have:=nr c hc;rw[e]at this;exact(d91 m2.hi this).2
   right;simp only[aO];unfold jM;rw[aL];left;rw[a6 ac]
   unfold sN;rw[aL];left;rw[at0,at1];right;refine c63 ?_
   by_cases c:[v,u,(1:Int)]=[w,s,1]
   .have c1:v=w:=by simp at c;exact c.1
    have c2:u=s:=by simp at c;exact c.2
    subst c1 c2;rw[fL rfl];right;rw[a7 ac]
    refine⟨ac,ac,h [(quF v u,2)] ⟨λa ha=> ?_,λx hx=> ?_,a02 _ _,show 1<=2 by decide⟩⟩
    .show tm p (tm p a<|quF v u) (quF v u)=tm p a (4,f)
     rw[e,vR m1.hi]
    .rw[iH.mp hx];exact⟨m1,aD _,show 2<=4 by decide,show 1<=2 by decide,aD _,k1,λz=>by cases z⟩
   .rw[fX c];right;rw[a6 ac]
    have nc: ¬(v=w/\u=s):=λz=>c (by rw[z.1,z.2])
    unfold sM;rw[nT];have fin2: ∀(v u w s:Int),MP p (quF v u).1 (quF v u).2->MP p (quF w s).1 (quF w s).2->NoR p (quF v u)->NoR p (quF w s)->((4,f):Nat×∅)=tm p (quF v u) (quF w s)->ltL [v,u,1] [w,s,1]=true->Q (.ow [.tup [.tup<|[v,u,1].map D.int,.int 1],.tup [.tup<|[w,s,1].map D.int,.int 1]]):=λv u w s m1 m2 k1 k2 e lt=>by
     refine h [(quF v u,1),(quF w s,1)] ⟨λa ha=> ?_,λx hx=> ?_,?_,aD _⟩
     .show tm p (tm p a<|quF v u) (quF w s)=tm p a (4,f)
      rw[e,vR m1.hi]
     .rcases bB.mp hx with rfl|hx
      .exact⟨m1,aD _,show 2<=4 by decide,aD _,show 1<=2 by decide,k1,λz=>by cases z⟩
      .rw[iH.mp hx];exact⟨m2,aD _,show 2<=4 by decide,aD _,show 1<=2 by decide,k2,λz=>by cases z⟩
     .refine aL6.mpr ⟨λy hy=> ?_,a02 _ _⟩
      rw[iH.mp hy];exact .inr ⟨rfl,lt⟩
    refine eV (t0:=0) 2 (λk=>(if ltL [w,s,1] [v,u,1]=true then [D.tup<|[w,s,1].map D.int,.tup<|[v,u,1].map D.int]else [.tup<|[v,u,1].map D.int,.tup<|[w,s,1].map D.int]).getD k .non) [~~~.tup ((rwF (4+1) f).map .int),!p,~~~.lst [.tup<|[v,u,1].map D.int,.tup<|[w,s,1].map D.int]] ?_ ac (λx l'=>[x,↑l']) none rfl (λ_ _ _=>rfl) (λ_ _=>cN _) (λ_ _ _ q=>q) (λ_ _ _=>rfl)
     (λk=> .tup [(if ltL [w,s,1] [v,u,1]=true then [D.tup<|[w,s,1].map D.int,.tup<|[v,u,1].map D.int]else [.tup<|[v,u,1].map D.int,.tup<|[w,s,1].map D.int]).getD k .non,.int 1]) ?_ ?_
    .intro Q' q;left;refine⟨v,w,[u,1],[s,1],rfl,?_⟩;cases l:ltL [w,s,1] [v,u,1]
     .rw[l]at q;exact q
     .rw[l]at q;exact q
    .intro k l' Q' hk q;left;exact⟨ac,q⟩
    .cases l:ltL [w,s,1] [v,u,1]
     .exact fin2 v u w s m1 m2 k1 k2 e (row_lt nc l)
     .exact fin2 w s v u m2 m1 k2 k1 (by rw[e,sB m1.hi m2.hi]) l
  .exact alone λ_=>nq
 .rw[a6 (by simp;lia)]
  refine⟨ac,?_⟩
  exact alone λz=>absurd z c
structure SP (p:Int)(F:Nat×∅)(xs:List ((Nat×∅)×Nat)):Prop where
 prod:allT p gJ xs=F
 mem: ∀x∈xs,MP p x.1.1 x.1.2/\1<=x.1.1/\x.1.1<=4/\1<=x.2/\x.2<=4/\(2<=x.1.1->NoR p x.1)/\(x.1.1=4->NoQ p x.1)
 ord:xs.Pairwise ltP
 len:xs.length<=300
theorem SP.of {p:Int}(pp:Pr p){L:Nat×∅}{cs:List (Int×Nat)}{rs:List ((Nat×∅)×Nat)}(h4:F.1<=4)(lk:LK p F p.toNat cs L)(rl:RL p L rs):SP p F (cs.map lnP++rs):=by
 have p2:=pp.lo;have p3:=pp.hi;have rg: ∀x∈cs,0<=x.1/\x.1<p:=λx hx=>⟨(lk.mem x hx).1,by have:=(lk.mem x hx).2.1;lia⟩
 have mcs:=cO1 p2 rg;have mA:=MP.allT p2 (cs.map lnP) (MP.one p2) mcs;refine⟨by rw[mD,rl.prod _ mA];exact lk.prod.symm,λx hx=> ?_,?_,?_⟩
 .rcases bU.mp hx with hx|hx
  .obtain⟨y,hy,rfl⟩:=cC.mp hx;have hd:=aT3 p (cs.map lnP) gJ (lnP y) hx;have e:F.1=(allT p gJ<|cs.map lnP).1+L.1:=bW Prod.fst lk.prod;have hd':0+1*y.2<=(allT p gJ<|cs.map lnP).1:=hd;refine⟨mcs _ hx,aD _,show 1<=4 by decide,(lk.mem y hy).2.2,show y.2<=4 by lia,λz=> ?_,λz=> ?_⟩
   .have:2<=1:=z
    lia
   .have:1=4:=z
    lia
  .obtain⟨a,b,c,d,e,f,g⟩:=rl.mem x hx;exact⟨a,ad,c,d,ad,λ_=>f,g⟩
 .rw[aL0];refine⟨?_,rl.ord,λx hx y hy=> ?_⟩
  .rw[List.pairwise_map];refine lk.asc.imp λ{a b} h=> .inr ⟨rfl,?_⟩
   show ltL [a.1,1] [b.1,1]=true
   unfold ltL;rw[a6 ad,fL h]
  .obtain⟨z,hz,rfl⟩:=cC.mp hx;have:=(rl.mem y hy).2.1;exact .inl (show 1<y.1.1 by lia)
 .have a:=lk.len;have b:=rl.len;rw[dD,aF]
  lia
def y3:Φ:=λds Q=> ∃(n:Nat) (g:∅) (p:Int),ds=[aO<|rwF (n+1) g,.int p]/\n<=4/\p∈prL/\MP p n (md p g)/\ ∀xs,SP p (n,md p g) xs->Q (.ow<|xs.map aB0)
def aB1:US:=(d6<|uOp gI (aB 2)<|aV nI<|a8 (aB 3)<|a8 (aB 1) aP)
def aB2:US:=(aQ (bK7 (aV vT<|a8 (aV jT<|a8 (aB 0)<|a8 (aB 1) aP)<|a8 (aB 1) aP)<|sH<|eO 2<|eO 3 sG) aB1)
def y6:US:=(aQ (fE (cO<|uOp (gIn true) (aB 1)<|aV lB aP) (λ_ _=>False) cX) aB2)
theorem bL3: Ra y3 y6 ["f","p","a","l"]:=by
 rintro ds Q ⟨n,g,p,rfl,n4,hp,mp,h⟩;have pp:=a53 hp;have p2:=pp.lo;unfold y6;show(aQ _ _:US) _ [~~~aO (rwF (n+1) g),!p,none,none];rw[aL];left;refine⟨rfl,p,T_SMALL_PRIMES,rfl,.inr<|.inl rfl,?_⟩;rw[fL (show p∈T_SMALL_PRIMES by rw[<-bY0];exact hp)]
 right;rw[a6 ac]
 unfold aB2;rw[aL];left;refine⟨n+1,g,p,rfl,ad,ad,?_⟩
 left
 have e:gQ (md p g) (n+1)=n+1:=u5 (aD _) (λm h1 h2=>ad) (.inr (by rw[gW,mp.top];decide))
 rw[e];refine⟨n,md p g,p,rfl,ad,pp,mp,λcs L lk=> ?_⟩
 left
 refine⟨ac,ac,trivial,?_⟩
 unfold aB1;rw[nT,a51];left;have hL:L.1<=4:=by
  have e:n=(allT p gJ<|cs.map lnP).1+L.1:=bW Prod.fst lk.prod
  lia
 refine⟨L.1,L.2,p,rfl,hL,pp,lk.mp,lk.nr,λrs rl=> ?_⟩
 have sp:=SP.of pp (F:=(n,md p g)) n4 lk rl;have e2:(cs.map λx=>aB0 (lnP x))++rs.map aB0=(cs.map lnP++rs).map aB0:=by rw[bV,eZ];rfl
 left
 rw[e2];refine⟨?_,h _ sp⟩;rw[<-dD,e2,aF];exact aI sp.len ac
noncomputable def stB (xs:List ((Nat×∅)×Nat)):Bool:=match xs with
 | [x]=>decide (x.2=1)
 | _=>false
theorem bR0 {p:Int}(hp:2<=p){g a h:Nat×∅}(ma:MP p a.1 a.2)(mh:MP p h.1 h.2): ∀k,powT p (tm p g a) h k=tm p g (powT p a h k)
 | 0=>rfl
 | k+1=>by
  show tm p (powT p (tm p g a) h k) h=tm p g (tm p (powT p a h k) h)
  rw[bR0 hp ma mh k,vR (MP.powT hp ma mh k).hi]
theorem b02 {p:Int}(hp:2<=p){g:Nat×∅}: ∀(l:List ((Nat×∅)×Nat)) {a:Nat×∅},MP p a.1 a.2->(∀x∈l,MP p x.1.1 x.1.2)->allT p (tm p g a) l=tm p g (allT p a l)
 | [],a,_,_=>rfl
 | x::l,a,ma,h=>by
  show allT p (powT p (tm p g a) x.1 x.2) l=tm p g (allT p (powT p a x.1 x.2) l)
  rw[bR0 hp ma<|h x<|.head _,b02 hp l (MP.powT hp ma (h x<|.head _) x.2) λy hy=>h y (.tail _ hy)]
theorem bY3 {p:Int}(mp:MP p F.1 F.2)(h2:F.1=2):F=quF (F.2 0) (F.2 1):=by
 refine j4 h2 (funext λj=> ?_)
 show F.2 j=if j=0 then F.2 0 else if j=1 then F.2 1 else if j=2 then 1 else 0
 by_cases c0:j=0
 .rw[a7 c0,c0]
 .by_cases c1:j=1
  .rw[a6 c0,a7 c1,c1]
  .by_cases c2:j=2
   .rw[a6 c0,a6 c1,a7 c2,c2];have:=mp.top;rw[h2]at this;exact this
   .rw[a6 c0,a6 c1,a6 c2];exact mp.hi j ad
theorem c73 {t1:Nat}(n:Nat)(it i1 i2:Nat->D)(hit: ∀i,i<n->it i= .tup [i1 i,i2 i])(ρ1:Ev)(hui: ∀Q:Nat->(Nat->D)->Ev->Prop,Q n it ρ1->ui ρ Q)(hn:n<=1000000)
  (G:Option B->Option B->List D->Ev) (x0 y0:Option B) (h0:tQ (aA1 ρ1 js) cap last=G x0 y0 []) (h1: ∀x y l b c,((G x y l).set t0<|some b).set t1 (some c)=G (some b) (some c) l) (h1': ∀x y l,t0< (G x y l).length/\t1< (G x y l).length)
  (h2: ∀x y l (Q:List D->Prop),Q l->oU (G x y l) last Q) (h3: ∀x y l l',(G x y l).set last (↑l')=G x y l')
  (f:Nat->D) (hte: ∀i l (Q':B->Ev->Prop),i<n->Q' (.pu<|f i) (G (~~~i1 i) (~~~i2 i) l)->te (G (~~~i1 i) (~~~i2 i) l) Q') (hq:Q (.ow<|(List.range n).map f) (aA1 ρ1 js)) :
  fJ js cap last ui (sH<|eO t0<|eO t1 sG) (λρ Q=>Q true ρ) te ρ Q:=by
 refine hui _ ⟨λi ρ'=> ∃x y,ρ'=G x y ((List.range i).map f),⟨x0,y0,h0⟩,?_,?_⟩
 .rintro i ρ' hi ⟨x,y,rfl⟩;rw[hit i hi];refine⟨(h1' _ _ _).1,by rw[fY];exact(h1' _ _ _).2,rfl,?_⟩
  rw[h1];right;rw[a7 rfl];refine hte i _ _ hi (h2 _ _ _ _ ⟨?_,~~~i1 i,~~~i2 i,?_⟩)
  .rw[aF,uO];exact aZ hi (aI hn ac)
  .rw[h3,bL,bV];rfl
 .rintro ρ' ⟨x,y,rfl⟩;exact h2 _ _ _ _ hq
inductive bD2 (c:Nat->Bool) (R:Nat->D->Prop):Nat->List D->Prop
 | nil:bD2 c R 0 []
 | yes {i:Nat} {l:List D} {d:D} (h:bD2 c R i l) (hc:c i=true) (hd:R i d):bD2 c R (i+1) (l++[d])
 | no {i:Nat} {l:List D} (h:bD2 c R i l) (hc:c i=false):bD2 c R (i+1) l
theorem bD2.fn {c:Nat->Bool}{R:Nat->D->Prop}(h:bD2 c R n l): ∃g:Nat->D,(∀i,i<n->c i=true->R i (g i))/\l=((List.range n).filter c).map g:=by
 induction h with
 | nil=>exact⟨λ_=> .non,λi hi=>absurd hi (r6 _),rfl⟩
 | @yes i l d h hc hd ih=>
  obtain⟨g,g1,g2⟩:=ih;refine⟨λj=>if j=i then d else g j,λj hj cj=> ?_,?_⟩
  .by_cases e:j=i
   .show R j (if j=i then d else g j)
    rw[a7 e,e];exact hd
   .show R j (if j=i then d else g j)
    rw[a6 e];exact g1 j ad cj
  .rw[bL,List.filter_append,bV,g2]
   congr 1
   .refine nY λj hj=> ?_
    have:=dW.mp (kN.mp hj).1;rw[a6 ad]
   .simp[hc]
 | @no i l h hc ih=>
  obtain⟨g,g1,g2⟩:=ih;refine⟨g,λj hj cj=> ?_,?_⟩
  .by_cases e:j=i
   .rw[e,hc]at cj;cases cj
   .exact g1 j ad cj
  .rw[bL,List.filter_append,bV,g2];simp[hc]
theorem bD2.len {c:Nat->Bool}{R:Nat->D->Prop}(h:bD2 c R n l):l.length<=n:=by
 induction h with
 | nil=>exact aD _
 | yes h hc hd ih=>rw[dD];exact Nat.succ_le_succ ih
 | no h hc ih=>exact aM0 ih
theorem cV5 {tt:UT}(n:Nat)(it:Nat->D)(ρ1:Ev)(hui: ∀Q:Nat->(Nat->D)->Ev->Prop,Q n it ρ1->ui ρ Q)(hn:n<=1000)
  (G:Option B->List D->Ev) (x0:Option B) (h0:tQ (aA1 ρ1 js) cap last=G x0 []) (h1: ∀x l b,(G x l).set t0 (some b)=G (some b) l) (h1': ∀x l,t0< (G x l).length) (h2: ∀x l (Q:List D->Prop),Q l->oU (G x l) last Q) (h3: ∀x l l',(G x l).set last (↑l')=G x l')
  (c:Nat->Bool) (R:Nat->D->Prop) (htt: ∀i l (Q':Bool->Ev->Prop),i<n->Q' (c i) (G (~~~it i) l)->tt (G (~~~it i) l) Q')
  (hte: ∀i l (Q':B->Ev->Prop),i<n->c i=true->(∀d,R i d->Q' (.pu d) (G (~~~it i) l))->te (G (~~~it i) l) Q') (hq: ∀l:List D,bD2 c R n l->Q (.ow l) (aA1 ρ1 js)) :
  fJ js cap last ui (cE t0) tt te ρ Q:=by
 refine hui _ ⟨λi ρ'=> ∃x l,bD2 c R i l/\ρ'=G x l,⟨x0,[],.nil,h0⟩,?_,?_⟩
 .rintro i ρ' hi ⟨x,l,hl,rfl⟩;refine⟨h1' _ _,?_⟩;rw[h1];right;refine htt i _ _ hi ?_
  by_cases hc:c i=true
  .rw[a7 hc];refine hte i _ _ hi hc λd hd=>h2 _ _ _ ⟨?_,~~~it i,l++[d],.yes hl hc hd,?_⟩
   .exact qV hl.len (aZ hi<|aI hn ac)
   .rw[h3];rfl
  .rw[a6 hc];exact⟨~~~it i,l,.no hl<|by simpa using hc,rfl⟩
 .rintro ρ' ⟨x,l,hl,rfl⟩;exact h2 _ _ _ (hq l hl)
noncomputable def sP (n:Nat)(f:∅)(g:Nat×∅):List Int:=rwF (gQ (divL g.2 g.1 (n+1-g.1) f)<|n+1) (divL g.2 g.1 (n+1-g.1) f)
noncomputable def ptD (n:Nat)(f:∅)(x:(Nat×∅)×Nat):D:= .tup [aO<|rwF (x.1.1+1) x.1.2,.int (x.2:Int),aO<|sP n f x.1]
def y8:Φ:=λds Q=> ∃(n:Nat) (f:∅) (p:Int),ds=[aO<|rwF (n+1) f,.int p]/\n<=4/\p∈prL/\MP p n (md p f)/\(∀j,(f j).natAbs<=2^9)/\ ∀xs,SP p (n,md p f) xs->Q (.ow<|xs.map<|ptD n f)
def y9:US:=(d6<|fJ [0] [none,none,some 0,none] 3 (i7<|aV y3<|a8 (aB 0)<|a8 (aB 1) aP) (sH<|eO 0<|eO 1 sG) (λρ Q=>Q true ρ)<|jD<|a8 (aB 0)<|a8 (aB 1)<|a8 (uIx (uV<|aV hZ<|a8 (aB 2)<|a8 (aB 0) aP)<|uC<|.int 1) aP)
theorem cO3 {p:Int}(pp:Pr p)(n4:n<=4)(fb: ∀j,(f j).natAbs<=2^9)(mg:MP p g.1 g.2)(g4:g.1<=4):d83 (n+1) g.1 9 8 f g.2:=
 ⟨ad,ad,mg.top,mg.hi,λm _=>fb m,λj=>d92 pp mg j,ad,ac⟩
theorem bL4: Ra y8 y9 ["f","p"]:=by
 rintro ds Q ⟨n,f,p,rfl,n4,hp,mp,fb,h⟩;have pp:=a53 hp;unfold y9;show(d6 _:US) _ [~~~aO (rwF (n+1) f),!p];rw[nT]
 have key: ∀xs,SP p (n,md p f) xs->fJ [0] [none,none,some 0,none] 3 (λρ Q=>Q (xs.map aB0).length (λi=>(xs.map aB0).getD i .non) ρ) (sH<|eO 0<|eO 1 sG) (λρ Q=>Q true ρ) (jD<|a8 (aB 0)<|a8 (aB 1)<|a8 (uIx (uV<|aV hZ<|a8 (aB 2)<|a8 (aB 0) aP)<|uC<|.int 1) aP) [~~~aO (rwF (n+1) f),!p] λb _=>Q b:=by
  intro xs sp
  refine c73 (t0:=0) (t1:=1) xs.length (λi=>(xs.map aB0).getD i .non) (λi=>aO (rwF ((xs.getD i (gJ,0)).1.1+1) (xs.getD i (gJ,0)).1.2)) (λi=> .int ((xs.getD i (gJ,0)).2:Int)) (λi hi=> ?_) [~~~aO (rwF (n+1) f),!p] (λQ' q=> ?_) (aI sp.len ac) (λx y l=>[x,y,~~~aO (rwF (n+1) f),↑l]) none none rfl (λ_ _ _ _ _=>rfl) (λ_ _ _=>⟨ae,ae⟩) (λ_ _ _ _ q=>q) (λ_ _ _ _=>rfl) (λi=>ptD n f (xs.getD i (gJ,0))) ?_ ?_
  .rw[aJ,bI,aJ,aM hi];rfl
  .rw[aF];exact q
  .intro i l Q' hi q;have hm:xs.getD i (gJ,0)∈xs:=by
    rw[aJ,aM hi];exact cQ hi
   obtain⟨mx,x1,x4,_⟩:=sp.mem _ hm;generalize xs.getD i (gJ,0)=x at *;left;refine⟨n+1,x.1.1,9,8,f,x.1.2,rfl,cO3 pp n4 fb mx x4,?_⟩;left;rw[at1];exact⟨ac,q⟩
  .have e:(List.range xs.length).map (λi=>ptD n f (xs.getD i (gJ,0)))=xs.map (ptD n f):=by
    apply kM
    .simp
    .intro i h1 h2;simp at h1;simp[aJ,h1]
   rw[e];exact h xs sp
 exact⟨n,f,p,rfl,n4,hp,mp,λxs sp=>key xs sp⟩
structure RF (n:Nat)(f:∅):Prop where
 n1:1<=n
 n4:n<=4
 top:f n=1
 hi: ∀j,n<j->f j=0
 fb: ∀j,(f j).natAbs<=2^9
theorem RF.mp (h:RF n f){p:Int}(hp:2<=p):MP p n (md p f):=by
 refine⟨?_,λj hj=> ?_,λj=>⟨cH _ ad,cG _ ad⟩⟩
 .show f n%p=1
  rw[h.top];exact dE ac ad
 .show f j%p=0
  rw[h.hi j hj,cB]
noncomputable def dO7 (n:Nat)(f:∅)(xf:Int->List ((Nat×∅)×Nat))(p:Int):D:= .tup [.int p,.lst<|(xf p).map<|ptD n f]
noncomputable def sqB (size p:Int):Bool:=decide (size%(p*p)=0)
noncomputable def d95 (n:Nat)(f:∅)(size:Int)(xf:Int->List ((Nat×∅)×Nat)):List D:=(prL.filter<|sqB size).map (dO7 n f xf)
def SPs (n:Nat)(f:∅)(size:Int)(xf:Int->List ((Nat×∅)×Nat)):Prop:= ∀p∈prL,sqB size p=true->SP p (n,md p f) (xf p)
def vV:Φ:=λds Q=> ∃(n:Nat) (f:∅) (size:Int),ds=[aO<|rwF (n+1) f,.int size]/\RF n f/\ ∀xf,SPs n f size xf->Q (.ow<|d95 n f size xf)
def vW:US:=(d6<|fJ [0,1] [none,some 0,some 1,none] 3 (i7<|aV lB aP) (cE 0) (cO<|uOp (fH false) (uOp jC (aB 2)<|uOp bZ (aB 0)<|aB 0)<|uC<|.int 0)<|jD<|a8 (aB 0)<|a8 (aV y8<|a8 (aB 1)<|a8 (aB 0) aP) aP)
theorem bD3: Ra vV vW ["f","s"]:=by
 rintro ds Q ⟨n,f,size,rfl,rf,h⟩;unfold vW;show(d6 _:US) _ [~~~aO (rwF (n+1) f),!size];rw[nT];have et: ∀i,i<46->(T_SMALL_PRIMES.map D.int).getD i .non= .int (T_SMALL_PRIMES.getD i 0):=λi hi=>by
  have hi':i<T_SMALL_PRIMES.length:=by rw[bC7];exact hi
  rw[aJ,bI,aJ,aM hi'];rfl
 have mt: ∀i,i<46->T_SMALL_PRIMES.getD i 0∈prL:=λi hi=>by
  have hi':i<T_SMALL_PRIMES.length:=by rw[bC7];exact hi
  rw[bY0,aJ,aM hi'];exact cQ hi'
 refine cV5 (t0:=0) 46 (λi=>(T_SMALL_PRIMES.map D.int).getD i .non) [~~~aO (rwF (n+1) f),!size] (λQ' q=> ?_) ac (λx l=>[x,~~~aO (rwF (n+1) f),!size,↑l]) none rfl (λ_ _ _=>rfl) (λ_ _=>cN _) (λ_ _ _ q=>q) (λ_ _ _=>rfl)
  (λi=>sqB size (T_SMALL_PRIMES.getD i 0)) (λi d=> ∃xs,SP (T_SMALL_PRIMES.getD i 0) (n,md (T_SMALL_PRIMES.getD i 0) f) xs/\d= .tup [.int<|T_SMALL_PRIMES.getD i 0,.lst<|xs.map<|ptD n f]) ?_ ?_ (λl hl=> ?_)
 .exact⟨rfl,q⟩
 .intro i l Q' hi q;obtain⟨p2,p3⟩:=tp_ok _ (bY0▸mt i hi);rw[et i hi]at q⊢;unfold sqB at q;generalize T_SMALL_PRIMES.getD i 0=p at *;have pq:0<p*p:=rH ad ad
  left
  refine⟨cmL ad ad,ad,?_⟩
  rw[bY _ pq];exact q
 .intro i l Q' hi hc q;have hm:=mt i hi;have pp:=a53 hm;rw[et i hi]at q⊢;generalize T_SMALL_PRIMES.getD i 0=p at *;left;refine⟨n,f,p,rfl,rf.n4,hm,rf.mp pp.lo,rf.fb,λxs sp=> ?_⟩
  left
  exact⟨ac,q _ ⟨xs,sp,rfl⟩⟩
 .obtain⟨g,g1,g2⟩:=hl.fn;have ex: ∀p:Int,∃xs,∀i,i<46->T_SMALL_PRIMES.getD i 0=p->sqB size p=true->SP p (n,md p f) xs/\g i= .tup [.int p,.lst<|xs.map<|ptD n f]:=λp=>by
   by_cases c: ∃i,i<46/\T_SMALL_PRIMES.getD i 0=p/\sqB size p=true
   .obtain⟨i,hi,e,hc⟩:=c;obtain⟨xs,sp,eg⟩:=g1 i hi (by rw[e];exact hc)
    rw[e]at sp eg;refine⟨xs,λj hj e' _=> ?_⟩
    have:j=i:=by
     have hj':j<T_SMALL_PRIMES.length:=by rw[bC7];exact hj
     have hi':i<T_SMALL_PRIMES.length:=by rw[bC7];exact hi
     rw[aJ,aM hj']at e';rw[aJ,aM hi']at e;have e1:T_SMALL_PRIMES[j]=T_SMALL_PRIMES[i]:=gX (by
      have a1:(some T_SMALL_PRIMES[j]).getD 0=p:=e';have a2:(some T_SMALL_PRIMES[i]).getD 0=p:=e;exact bW some (a1.trans a2.symm))
     rcases Nat.lt_trichotomy j i with z|z|z
     .have:=List.pairwise_iff_getElem.mp d85 j i hj' hi' z
      lia
     .exact z
     .have:=List.pairwise_iff_getElem.mp d85 i j hi' hj' z
      lia
    rw[this];exact⟨sp,eg⟩
   .exact⟨[],λi hi e hc=>absurd ⟨i,hi,e,hc⟩ c⟩
  obtain⟨X,hX⟩: ∃X:Int->List ((Nat×∅)×Nat),∀p i,i<46->T_SMALL_PRIMES.getD i 0=p->sqB size p=true->SP p (n,md p f) (X p)/\g i= .tup [.int p,.lst<|(X p).map<|ptD n f]:=⟨λp=>(ex p).choose,λp=>(ex p).choose_spec⟩
  have key:=h X (λp hp hs=>by
   rw[bY0]at hp;obtain⟨i,hi,e⟩:=a10 hp;have hi':i<46:=by rw[<-bC7];exact hi
   refine(hX p i hi' ?_ hs).1
   rw[aJ,aM hi];exact e)
  have el:l=d95 n f size X:=by
   have e0:prL=(List.range 46).map λi=>T_SMALL_PRIMES.getD i 0:=af
   have e1:prL.filter (sqB size)=((List.range 46).filter λi=>sqB size (T_SMALL_PRIMES.getD i 0)).map λi=>T_SMALL_PRIMES.getD i 0:=by
    rw[e0,List.filter_map];rfl
   rw[g2];unfold d95;rw[e1,eZ];refine nY λi hi=> ?_
   obtain⟨h1,h2⟩:=kN.mp hi;exact(hX (T_SMALL_PRIMES.getD i 0) i (dW.mp h1) rfl h2).2
  rw[el];exact key
theorem b03 {p:Int}(hp:2<=p)(sp:SP p F xs){x:(Nat×∅)×Nat}(hx:x∈xs)(h2:2<=x.2): ∃R:Nat×∅,MP p R.1 R.2/\F=tm p (tm p x.1 x.1) R:=by
 obtain⟨l,m,rfl⟩:=aL7 hx;obtain⟨k,hk⟩: ∃k,x.2=k+2:=⟨x.2-2,aa⟩
 have mx:=(sp.mem x hx).1;have ml: ∀y∈l,MP p y.1.1 y.1.2:=λy hy=>(sp.mem y<|a06 _ hy).1
 have mm: ∀y∈m,MP p y.1.1 y.1.2:=λy hy=>(sp.mem y<|gL _<|.tail _ hy).1
 have mA:=MP.allT hp l (MP.one hp) ml;have mP:=MP.powT hp mA mx k;have mxx:=MP.tm hp mx mx;refine⟨allT p (powT p (allT p gJ l) x.1 k) m,MP.allT hp m mP mm,?_⟩;rw[<-sp.prod,mD];show allT p (powT p (allT p gJ l) x.1 x.2) m=_;rw[hk];show allT p (tm p (tm p (powT p (allT p gJ l) x.1 k) x.1) x.1) m=_;rw[<-vR mx.hi,sB mP.hi mxx.hi,b02 hp m mP mm]
structure bY4 (n:Nat)(f:∅)(size p:Int)(g:Nat×∅):Prop where
 pr:p∈prL
 sq:size%(p*p)=0
 mg:MP p g.1 g.2
 g1:1<=g.1
 g4:g.1<=4
 tw: ∃R:Nat×∅,MP p R.1 R.2/\(n,md p f)=tm p (tm p g g) R
 all: ∀c∈sP n f g,c%(p*p)=0
noncomputable def bY5 (n:Nat)(f:∅)(g:Nat×∅):List Int:=rwF (gQ (divQ g.2 g.1 (n+1-g.1) f)<|n+1-g.1) (divQ g.2 g.1 (n+1-g.1) f)
def a55 (n:Nat)(f:∅)(p:Int)(xs:List ((Nat×∅)×Nat)):Prop:= ∀x∈xs,2<=x.2-> ∃c∈sP n f x.1,c%(p*p)≠0
def tE:Φ:=λds Q=> ∃(n:Nat) (f:∅) (size:Int) (xf:Int->List ((Nat×∅)×Nat)),ds=[aO<|rwF (n+1) f,.lst<|d95 n f size xf]/\RF n f/\SPs n f size xf/\((∀p∈prL,sqB size p=true->a55 n f p (xf p))->Q (.pu .non))/\ ∀p g,bY4 n f size p g->(¬ ∀p∈prL,sqB size p=true->a55 n f p (xf p))->Q (.pu<|.tup [.int p,aO<|bY5 n f g])
def b04:US:=(d6<|uC .non)
def tF:US:=(aQ (jI (i7<|aB 1) (sH<|eO 2<|eO 3 sG)<|jI (i7<|aB 3) (sH<|eO 4<|eO 5<|eO 6 sG)<|fE (aQ3 (cO<|uOp (pH λi j=>decide (j<=i)) (aB 5)<|uC<|.int 2)<|cO<|aV c45<|a8 (fJ [2] [none,some 2,none] 2 (i7<|aB 6) (cE 0) (λρ Q=>Q true ρ)<|uOp (fH false) (uOp jC (aB 0)<|uOp bZ (aB 1)<|aB 1)<|uC<|.int 0) aP) (d6<|jD<|a8 (aB 2)<|a8 (uIx (uV<|aV hZ<|a8 (aB 0)<|a8 (aB 4) aP)<|uC<|.int 0) aP) cX) b04)
theorem b56: Ra tE tF ["f","r","p","a","g","o","c"]:=by
 rintro ds Q ⟨n,f,size,xf,rfl,rf,hP,h0,h1⟩;have hm0: ∀p∈prL.filter (sqB size),p∈prL/\sqB size p=true:=λp hp=>kN.mp hp
 have hm1: ∀p,p∈prL->sqB size p=true->p∈prL.filter (sqB size):=λp h1 h2=>kN.mpr ⟨h1,h2⟩
 unfold d95;generalize prL.filter (sqB size)=ps' at *;generalize el:ps'.map (dO7 n f xf)=l at *;have ll:l.length=ps'.length:=by rw[<-el,aF]
 unfold tF;show(aQ _ _:US) _ [~~~aO (rwF (n+1) f),~~~.lst l,none,none,none,none,none];rw[aL];refine bM l.length (λi=>l.getD i .non) _ (λQ' q=>q)
  (λi ρ=>(∃a b c d e,ρ=[~~~aO (rwF (n+1) f),~~~.lst l,a,b,c,d,e])/\ ∀j,j<i->a55 n f (ps'.getD j 0) (xf<|ps'.getD j 0)) ⟨⟨none,none,none,none,none,rfl⟩,λj hj=>absurd hj (r6 _)⟩ ?_ ?_
 .rintro i ρ hi ⟨⟨a,b,c,d,e,rfl⟩,fi⟩;have hi':i<ps'.length:=by rw[<-ll];exact hi
  have e1:l.getD i .non=dO7 n f xf (ps'.getD i 0):=by
   rw[<-el,aJ,bI,aJ,aM hi'];rfl
  have hmp:ps'.getD i 0∈ps':=by
   rw[aJ,aM hi'];exact cQ hi'
  obtain⟨hp,hs0⟩:=hm0 _ hmp;have sp:=hP _ hp hs0;have hs:size%(ps'.getD i 0*ps'.getD i 0)=0:=o9 hs0;have go:a55 n f (ps'.getD i 0) (xf<|ps'.getD i 0)-> ∀j,j<i+1->a55 n f (ps'.getD j 0) (xf<|ps'.getD j 0):=λz j hj=>by
   by_cases c:j=i
   .rw[c];exact z
   .exact fi j ad
  rw[e1];unfold dO7;generalize ps'.getD i 0=p at *;generalize exs:xf p=xs at *;have pp:=a53 hp;refine⟨ae,ae,rfl,?_⟩
  show(jI _ _ _:US) _ [~~~aO (rwF (n+1) f),~~~.lst l,!p,~~~.lst (xs.map (ptD n f)),c,d,e]
  refine bM xs.length (λi=>(xs.map<|ptD n f).getD i .non) _ (λQ' q=> ?_)
   (λj ρ=>(∃c d e,ρ=[~~~aO (rwF (n+1) f),~~~.lst l,!p,~~~.lst (xs.map (ptD n f)),c,d,e])/\a55 n f p (xs.take j)) ⟨⟨c,d,e,rfl⟩,λx hx=>by simp at hx⟩ ?_ ?_
  .left
   rw[aF];exact q
  .rintro j ρ hj ⟨⟨c,d,e,rfl⟩,fj⟩;have nf:(2<=xs[j].2-> ∃c∈sP n f xs[j].1,c%(p*p)≠0)->a55 n f p (xs.take<|j+1):=λz x hx=>by
    rw[List.take_succ,aM hj]at hx;rcases bU.mp hx with hx|hx
    .exact fj x hx
    .have:x=xs[j]:=by exists hx
     rw[this];exact z
   have hx:xs[j]∈xs:=cQ hj;have e2:(xs.map<|ptD n f).getD j .non=ptD n f xs[j]:=by
    rw[aJ,bI,aM hj];rfl
   rw[e2];obtain⟨mx,x1,x4,_⟩:=sp.mem _ hx;have tw:2<=xs[j].2->_:=λh2=>b03 pp.lo sp hx h2
   generalize xs[j]=x at *;refine⟨ae,ae,ae,rfl,?_⟩
   show(fE _ _ _:US) _ [~~~aO (rwF (n+1) f),~~~.lst l,!p,~~~.lst (xs.map (ptD n f)),~~~aO (rwF (x.1.1+1) x.1.2),!(x.2:Int),~~~aO (sP n f x.1)]
   simp only[aO];left
   by_cases c2:(2:Int)<=(x.2:Int)
   .rw[a7 c2];have p2:=pp.lo;have p3:=pp.hi;have pq:0<p*p:=rH ad ad
    generalize hr:sP n f x.1=r at *;have rl:r.length<=1000:=by
     rw[<-hr];unfold sP;rw[mT];have:=wY (divL x.1.2 x.1.1 (n+1-x.1.1) f) (n+1);have:=rf.n4
     lia
    refine eV (t0:=0) r.length (λk=>(r.map D.int).getD k .non) [~~~.tup ((rwF (n+1) f).map .int),~~~.lst l,!p,~~~.lst (xs.map (ptD n f)),~~~.tup ((rwF (x.1.1+1) x.1.2).map .int),!(x.2:Int),~~~.tup (r.map .int)] (λQ' q=> ?_) ad (λx l'=>[x,!p,↑l']) none rfl (λ_ _ _=>rfl) (λ_ _=>cN _) (λ_ _ _ q=>q) (λ_ _ _=>rfl) (λk=> .bl (decide (r.getD k 0%(p*p)=0))) ?_ ?_
    .left
     rw[aF];exact q
    .intro k l' Q' hk q;have e3:(r.map D.int).getD k .non= .int (r.getD k 0):=by
      rw[aJ,bI,aJ,aM hk];rfl
     rw[e3]at q⊢;left;refine⟨cmL ad ad,ad,?_⟩
     rw[bY _ pq];exact q
    .have e4:(List.range r.length).map (λk=>D.bl (decide (r.getD k 0%(p*p)=0)))=((List.range r.length).map λk=>decide (r.getD k 0%(p*p)=0)).map D.bl:=by rw[eZ];rfl
     rw[e4];right;rw[lZ];right
     by_cases c3:(((List.range r.length).map λk=>decide (r.getD k 0%(p*p)=0)).all id)=true
     .rw[a7 c3];left;refine⟨n+1,x.1.1,9,8,f,x.1.2,rfl,cO3 pp rf.n4 rf.fb mx x4,?_⟩;left;rw[at0];have al: ∀c∈sP n f x.1,c%(p*p)=0:=λc hc=>by
       rw[hr]at hc;obtain⟨k,hk,rfl⟩:=List.mem_iff_getElem.mp hc;rw[kL]at c3;have:=c3 (decide (r.getD k 0%(p*p)=0)) (cC.mpr ⟨k,dW.mpr hk,rfl⟩);have:=o9 (show decide (r.getD k 0%(p*p)=0)=true from this)
       rw[aJ,aM hk]at this;exact this
      refine⟨ac,h1 p x.1 ⟨hp,hs,mx,x1,x4,tw ad,al⟩ λall=> ?_⟩
      have:=all p hp hs0;rw[exs]at this;obtain⟨c,hc,ne⟩:=this x hx ad
      exact ne (al c hc)
     .rw[a6 c3];refine⟨⟨_,_,_,rfl⟩,nf λ_=> ?_⟩
      refine gK λno=>c3 ?_
      rw[kL];intro z hz;obtain⟨k,hk,rfl⟩:=cC.mp hz;have hk':=dW.mp hk;refine fL (gK λne=>no ⟨r.getD k 0,?_,ne⟩)
      rw[aJ,aM hk'];exact cQ hk'
   .rw[a6 c2];exact⟨⟨_,_,_,rfl⟩,nf λz=>absurd z ad⟩
  .rintro ρ ⟨⟨c,d,e,rfl⟩,fj⟩;rw[a04<|aD _]at fj;exact⟨⟨_,_,_,_,_,rfl⟩,go fj⟩
 .rintro ρ ⟨⟨a,b,c,d,e,rfl⟩,fi⟩;refine h0 λp hp hs=> ?_
  obtain⟨j,hj,e⟩:=a10 (hm1 p hp hs);have:=fi j (by rw[ll];exact hj)
  rw[aJ,aM hj]at this;rw[<-e];exact this
theorem amgm {g:Int}(h1:g+(q+1)<=2*(b+1))(hg:0<=g)(hq:0<=q)(h2:m<g*(q+1)):m< (b+1)*(b+1):=by
 have a1:0<=(g-(q+1))*(g-(q+1)):=by
  rcases le_total 0 (g-(q+1))with h|h
  .exact mul_nonneg h h
  .exact Int.mul_nonneg_of_nonpos_of_nonpos h h
 have a2:(g+(q+1))*(g+(q+1))<=(2*(b+1))*(2*(b+1)):=Int.mul_le_mul h1 h1 ad ad
 grind
theorem cI4 {g:Int}(hg:1<=g)(h:g<=(g+m/g)/2):g*g<=m:=by
 have h1:g<=m/g:=ad
 have h2:g*(m/g)<=m:=by
  have:=qL m g;have:=cH m (show g≠0 by lia)
  lia
 exact Int.le_trans (uD h1 ad) h2
theorem c74 {g:Int}(hg:1<=g)(hm:0<=m):m< ((g+m/g)/2+1)*((g+m/g)/2+1):=by
 have e:=qL m g;have l:=cG m (show 0<g by lia)
 have q0:0<=m/g:=Int.ediv_nonneg hm ad
 refine amgm (g:=g) (q:=m/g) ad ad q0 ?_
 rw[rG,lN]
 lia
def b05:Φ:=λds Q=> ∃m:Int,ds=[.int m]/\0<=m/\Sm m/\ ∀r:Int,0<=r->r*r<=m->m< (r+1)*(r+1)->Q (.pu<|.int r)
def b06:US:=(aQ (bN 1<|aB 0)<|aQ (bN 2<|uOp aQ5 (uOp gI (aB 0)<|uC<|.int 1)<|uC<|.int 2)<|aQ (bV2 (cO<|uOp (pH λi j=>decide (i<j)) (aB 2)<|aB 1)<|aQ (bN 1<|aB 2)<|bN 2<|uOp aQ5 (uOp gI (aB 1)<|uOp aQ5 (aB 0)<|aB 1)<|uC<|.int 2)<|tP 1)
theorem Sm.le {i:Int}(h:Sm m)(h0:0<=i)(h1:i<=m):Sm i:=by
 unfold Sm at h⊢;exact qV ad h
theorem cV6: Ra b05 b06 ["m","g","b"]:=by
 rintro ds Q ⟨m,rfl,m0,ms,h⟩;unfold b06;show(aQ _ _:US) _ [!m,none,none];left;rw[sK _ ac]
 refine⟨⟨ac,aN3 ac ac⟩,?_⟩
 refine⟨λn ρ=> ∃g b:Int,ρ=[!m,!g,!b]/\n=g.toNat/\0<=g/\g<=m/\m< (g+1)*(g+1)/\((m=0/\b=0)\/(1<=g/\b=(g+m/g)/2)),⟨_,m,(m+1)/2,rfl,rfl,m0,Int.le_refl _,?_,?_⟩,?_⟩
 .have:m*1<=m*m+m:=by
   rcases le_total m 0 with z|z
   .have:m=0:=ad
    subst this;decide
   .have:=mul_nonneg z z
    lia
  grind
 .by_cases z:m=0
  .subst z;exact .inl ⟨rfl,rfl⟩
  .right
   rw[Int.ediv_self z];exact⟨ad,rfl⟩
 .rintro n ρ ⟨g,b,rfl,rfl,g0,gm,hg,hb⟩;left;split
  .rename_i hlt
   rcases hb with⟨rfl,rfl⟩| ⟨g1,rfl⟩
   .lia
   .have b1:1<=(g+m/g)/2:=by
     have:1<=m/g:=Int.le_ediv_of_mul_le ad ad
     lia
    rw[sK _<|show 0< (g+m/g)/2 by lia,sK _ ac]
    refine⟨⟨ad,ms.le ad ad⟩,⟨ac,aN3 ac ac⟩,_,?_,_,_,rfl,rfl,ad,ad,c74 g1 m0,.inr ⟨b1,rfl⟩⟩
    lia
  .rename_i hge
   refine h g g0 ?_ hg
   rcases hb with⟨rfl,rfl⟩| ⟨g1,rfl⟩
   .have:g=0:=ad
    subst this;decide
   .exact cI4 g1 ad
noncomputable def ev (p:List Int)(z:Int):Int:=ps (λj=>p.getD j 0) z p.length
theorem ev2 (a b z:Int):ev [a,b,1] z=a+b*z+z*z:=by simp[ev,ps];grind
theorem ev3 (a b c z:Int):ev [a,b,c,1] z=a+b*z+c*(z*z)+z*z*z:=by simp[ev,ps];grind
theorem ev4 (a b c d z:Int):ev [a,b,c,d,1] z=a+b*z+c*(z*z)+d*(z*z*z)+z*z*z*z:=by simp[ev,ps];grind
noncomputable def qq (v u w s:Int):List Int:=[v*w,u*w+v*s,v+w+u*s,u+s,1]
def Red (p:List Int):Prop:=(∃z,ev p z=0)\/ ∃v u w s,p=qq v u w s
structure Fac (p l r:List Int):Prop where
 l2:2<=l.length
 r2:2<=r.length
 l4:l.length<=4
 r4:r.length<=4
 l1:l.getD (l.length-1) 0=1
 r1:r.getD (r.length-1) 0=1
 pr:rwF (l.length+r.length-1) (conv (λj=>l.getD j 0) (λj=>r.getD j 0) l.length)=p
 bl: ∀x∈l,x.natAbs<=2^40
 br: ∀x∈r,x.natAbs<=2^40
theorem dO.cs (h:dO p):(∃a b,p=[a,b,1])\/(∃a b c,p=[a,b,c,1])\/ ∃a b c d,p=[a,b,c,d,1]:=by
 obtain⟨q,rfl⟩:=h.one;have lo:=h.ok.lo;have hi:=h.ok.hi;rw[dD,aK4]at lo hi
 match q,lo,hi with
 | [a,b],_,_=>exact .inl ⟨a,b,rfl⟩
 | [a,b,c],_,_=>exact .inr (.inl ⟨a,b,c,rfl⟩)
 | [a,b,c,d],_,_=>exact .inr (.inr ⟨a,b,c,d,rfl⟩)
 | [],h,_=>simp at h
 | [_],h,_=>simp at h
 | _::_::_::_::_::_,_,h=>simp at h
theorem c75 (h:dO p){z:Int}(hz:ev p z=0):z∣p.getD 0 0:=by
 rcases h.cs with⟨a,b,rfl⟩| ⟨a,b,c,rfl⟩| ⟨a,b,c,d,rfl⟩
 .rw[ev2]at hz;exact⟨-(b+z),by show a=_;grind⟩
 .rw[ev3]at hz;exact⟨-(b+c*z+z*z),by show a=_;grind⟩
 .rw[ev4]at hz;exact⟨-(b+c*z+d*(z*z)+z*z*z),by show a=_;grind⟩
theorem bY6 (h:dO p):ev p 0=p.getD 0 0:=by
 rcases h.cs with⟨a,b,rfl⟩| ⟨a,b,c,rfl⟩| ⟨a,b,c,d,rfl⟩
 .rw[ev2];simp
 .rw[ev3];simp
 .rw[ev4];simp
noncomputable def wT (z:Int):∅:=λj=>[-z,1].getD j 0
theorem aR {m:Nat}(h1:a.natAbs<=m)(h2:b.natAbs<=n):(a*b).natAbs<=m*n:=by rw[dX];exact jQ h1 h2
set_option maxHeartbeats 2000000 in
theorem l3 (h:a=a')(h2:b=b')(h3:c=c'):[a,b,c]=[a',b',c']:=by rw[h,h2,h3]
theorem l4 {d:Int}(h:a=a')(h2:b=b')(h3:c=c')(h4:d=d'):[a,b,c,d]=[a',b',c',d']:=by rw[h,h2,h3,h4]
theorem l5 {d e':Int}(h:a=a')(h2:b=b')(h3:c=c')(h4:d=d')(h5:e=e'):[a,b,c,d,e]=[a',b',c',d',e']:=by rw[h,h2,h3,h4,h5]
theorem cvA2 (s z:Int):rwF 3 (λm=>conv (λj=>([s,1]:List Int).getD j 0) (wT z) 2 m+0)=[0+s*(-z)+1*0+0,0+s*1+1*(-z)+0,0+s*0+1*1+0]:=by kernel_rfl
theorem cvB2 (s z:Int):rwF 3 (conv (λj=>([-z,1]:List Int).getD j 0) (λj=>([s,1]:List Int).getD j 0) 2)=[0+(-z)*s+1*0,0+(-z)*1+1*s,0+(-z)*0+1*1]:=by kernel_rfl
theorem cvA3 (s t z:Int):rwF 4 (λm=>conv (λj=>([s,t,1]:List Int).getD j 0) (wT z) 3 m+0)=[0+s*(-z)+t*0+1*0+0,0+s*1+t*(-z)+1*0+0,0+s*0+t*1+1*(-z)+0,0+s*0+t*0+1*1+0]:=by kernel_rfl
theorem cvB3 (s t z:Int):rwF 4 (conv (λj=>([-z,1]:List Int).getD j 0) (λj=>([s,t,1]:List Int).getD j 0) 2)=[0+(-z)*s+1*0,0+(-z)*t+1*s,0+(-z)*1+1*t,0+(-z)*0+1*1]:=by kernel_rfl
theorem cvA4 (s t u z:Int):rwF 5 (λm=>conv (λj=>([s,t,u,1]:List Int).getD j 0) (wT z) 4 m+0)=[0+s*(-z)+t*0+u*0+1*0+0,0+s*1+t*(-z)+u*0+1*0+0,0+s*0+t*1+u*(-z)+1*0+0,0+s*0+t*0+u*1+1*(-z)+0,0+s*0+t*0+u*0+1*1+0]:=by kernel_rfl
theorem cvB4 (s t u z:Int):rwF 5 (conv (λj=>([-z,1]:List Int).getD j 0) (λj=>([s,t,u,1]:List Int).getD j 0) 2)=[0+(-z)*s+1*0,0+(-z)*t+1*s,0+(-z)*u+1*t,0+(-z)*1+1*u,0+(-z)*0+1*1]:=by kernel_rfl
theorem m2 {P:Int->Prop}(h:P a)(h2:P b): ∀x∈[a,b],P x:=λx hx=>by
 rcases bB.mp hx with rfl|hx
 .exact h
 .rw[iH.mp hx];exact h2
theorem m3 {P:Int->Prop}{l:List Int}(h:P a)(h2: ∀x∈l,P x): ∀x∈a::l,P x:=λx hx=>by
 rcases bB.mp hx with rfl|hx
 .exact h
 .exact h2 x hx
theorem na2 {A B:Nat}(h:a.natAbs<=A)(h2:b.natAbs<=B):(a+b).natAbs<=A+B:=aI (a12 a b) (rD h h2)
theorem quo (h:dO p){z:Int}(hz:ev p z=0)(z9:z.natAbs<=499): ∃r:List Int,r.length+1=p.length/\2<=r.length/\r.getD (r.length-1) 0=1/\p=rwF p.length (λm=>conv (λj=>r.getD j 0) (wT z) r.length m+0)/\(∀x∈r,x.natAbs<=2^40)/\Fac p [-z,1] r:=by
 have sm:=h.ok.small;have le: ∀{a b:Nat},Nat.ble a b=true->a<=b:=Nat.le_of_ble_eq_true;have k1:(1:Int).natAbs<=2^40:=ac
 have bl: ∀x∈[-z,1],x.natAbs<=2^40:=m2 (by rw[uW];exact aI z9 ac) k1
 have m1:(z*z).natAbs<=499*499:=aR z9 z9;rcases h.cs with⟨a,b,rfl⟩| ⟨a,b,c,rfl⟩| ⟨a,b,c,d,rfl⟩
 .rw[ev2]at hz;have s1:=sm b ae
  have bd: ∀x∈[b+z,1],x.natAbs<=2^40:=m2 (aI (na2 s1 z9) ac) k1
  exact⟨[b+z,1],rfl,le rfl,rfl,(cvA2 (b+z) z).trans (l3 (by grind) (by grind)<|by grind) |>.symm,bd,⟨le rfl,le rfl,le rfl,le rfl,rfl,rfl,(cvB2 (b+z) z).trans<|l3 (by grind) (by grind)<|by grind,bl,bd⟩⟩
 .rw[ev3]at hz;have s1:=sm b ae
  have s2:=sm c ae
  have m2':(c*z).natAbs<=499*499:=aR s2 z9;have bd: ∀x∈[b+c*z+z*z,c+z,1],x.natAbs<=2^40:=m3 (aI (na2 (na2 s1 m2') m1) ac) (m2 (aI (na2 s2 z9) ac) k1)
  exact⟨[b+c*z+z*z,c+z,1],rfl,le rfl,rfl,(cvA3 _ (c+z) z).trans (l4 (by grind) (by grind) (by grind)<|by grind) |>.symm,bd,⟨le rfl,le rfl,le rfl,le rfl,rfl,rfl,(cvB3 _ (c+z) z).trans<|l4 (by grind) (by grind) (by grind)<|by grind,bl,bd⟩⟩
 .rw[ev4]at hz;have s1:=sm b ae
  have s2:=sm c ae
  have s3:=sm d ae
  have m2':(c*z).natAbs<=499*499:=aR s2 z9;have m3':(d*(z*z)).natAbs<=499*(499*499):=aR s3 m1;have m4:(z*z*z).natAbs<=499*499*499:=aR m1 z9;have m5:(d*z).natAbs<=499*499:=aR s3 z9;have bd: ∀x∈[b+c*z+d*(z*z)+z*z*z,c+d*z+z*z,d+z,1],x.natAbs<=2^40:=m3 (aI (na2 (na2 (na2 s1 m2') m3') m4) ac) (m3 (aI (na2 (na2 s2 m5) m1) ac)<|m2 (aI (na2 s3 z9) ac) k1)
  exact⟨[b+c*z+d*(z*z)+z*z*z,c+d*z+z*z,d+z,1],rfl,le rfl,rfl,(cvA4 _ _ (d+z) z).trans (l5 (by grind) (by grind) (by grind) (by grind)<|by grind) |>.symm,bd,⟨le rfl,le rfl,le rfl,le rfl,rfl,rfl,(cvB4 _ _ (d+z) z).trans<|l5 (by grind) (by grind) (by grind) (by grind)<|by grind,bl,bd⟩⟩
theorem fac_qq {u:Int}(h: ∀x∈[v,u,w,s],x.natAbs<=2^40):Fac (qq v u w s) [v,u,1] [w,s,1]:=by
 simp only[dS]at h;have k1:(1:Int).natAbs<=2^40:=ac
 refine⟨ae,ae,ae,ae,rfl,rfl,?_,?_,?_⟩
 .simp[rwF,conv,shF,qq,bL]
  grind
 .simp only[dS];exact⟨h.1,h.2.1,k1,ae⟩
 .simp only[dS];exact⟨h.2.2.1,h.2.2.2.1,k1,ae⟩
def sC:Φ:=λds Q=> ∃m:Int,ds=[.int m]/\m.natAbs<=499/\ ∀l:List Int,l.length<=1000->(m=0->l=[0])->(m≠0-> ∀x,x∈l↔x∣m)->(∀x∈l,x.natAbs<=499)->Q (.ow<|l.map .int)
def aB3:US:=(aQ (bN 1<|lY aP)<|aQ (jI (vE<|a8 (uC<|.int 1)<|a8 (uOp gI (aV c42<|a8 (aB 0) aP)<|uC<|.int 1) aP) (cE 2)<|fE (cO<|uOp (fH false) (uOp jC (aB 0)<|aB 2)<|uC<|.int 0) (aQ (aQ4 1<|aB 2)<|aQ4 1<|sJ<|aB 2) cX)<|tP 1)
def yA:US:=(aQ (fE (cO<|uOp (fH false) (aB 0)<|uC<|.int 0) (d6<|lY<|a8 (uC<|.int 0) aP) cX) aB3)
theorem sD (h:x∣m)(hm:m≠0):x.natAbs<=m.natAbs/\1<=x.natAbs:=by
 have h1:=Int.natAbs_dvd_natAbs.mpr h;refine⟨Nat.le_of_dvd ad h1,?_⟩
 rcases Nat.eq_zero_or_pos x.natAbs with z|z
 .rw[z]at h1;have:=Nat.zero_dvd.mp h1
  lia
 .exact z
theorem bL5: Ra sC yA ["m","f","d"]:=by
 rintro ds Q ⟨m,rfl,m9,h⟩;unfold yA;show(aQ _ _:US) _ [!m,none,none];rw[aL];left
 by_cases m0:m=0
 .rw[a7 m0];exact⟨ac,h [0] ae (λ_=>rfl) (λz=>absurd m0 z) ae⟩
 rw[a6 m0];unfold aB3;rw[aL];left;refine⟨ac,?_⟩
 refine bM m.natAbs (λk=> .int (1+k)) _ ?_
  (λi ρ=> ∃(l:List Int) (z:Option B),ρ=[!m,↑(l.map .int),z]/\l.length<=2*i/\ ∀x,x∈l↔(x∣m/\1<=x.natAbs/\x.natAbs<=i)) ⟨[],none,rfl,ae,λx=> ?_⟩ ?_ ?_
 .intro Q' q;left;have e:(if m<0 then -m else m)=(m.natAbs:Int):=by split<;>lia
  rw[e];refine⟨ad,?_⟩
  rw[show((m.natAbs:Int)+1-1).toNat=m.natAbs by lia]
  exact q
 .simp;lia
 .rintro i ρ hi ⟨l,z,rfl,ll,hl⟩;left;refine⟨ae,ad,?_⟩
  rw[bY _<|show(0:Int)<1+(i:Int)by lia]
  split
  .rename_i hd
   have dv:(1+(i:Int))∣m:=b7 hd;refine⟨?_,?_,l++[1+(i:Int),-(1+(i:Int))],!(1+(i:Int)),?_,?_,λx=> ?_⟩
   .rw[aF];exact aZ (show _<2000 by lia) ac
   .rw[dD,aF];exact aZ (show _<2000 by simp;lia) ac
   .rw[bV];simp
   .rw[dD];simp;lia
   .rw[bU,hl];constructor
    .rintro(⟨h1,h2,h3⟩|hx)
     .exact⟨h1,h2,ad⟩
     .simp at hx
      rcases hx with rfl|rfl
      .exact⟨dv,ad,ad⟩
      .exact⟨by first|exact Int.neg_dvd.mpr dv| (rw[show -1+ -(i:Int)= -(1+(i:Int))by lia];exact Int.neg_dvd.mpr dv),ad,ad⟩
    .rintro⟨h1,h2,h3⟩
     by_cases c:x.natAbs<=i
     .exact .inl ⟨h1,h2,c⟩
     .refine .inr ?_
      simp
      lia
  .rename_i hd
   have dv: ¬(1+(i:Int))∣m:=λz=>hd (bP z)
   refine⟨l,_,rfl,ad,λx=> ?_⟩
   rw[hl];constructor
   .rintro⟨h1,h2,h3⟩;exact⟨h1,h2,ad⟩
   .rintro⟨h1,h2,h3⟩;refine⟨h1,h2,?_⟩
    by_cases c:x.natAbs<=i
    .exact c
    .exfalso
     have:x=1+(i:Int)\/x= -(1+(i:Int)):=ad
     rcases this with rfl|rfl
     .exact dv h1
     .exact dv (Int.neg_dvd.mp h1)
 .rintro ρ ⟨l,z,rfl,ll,hl⟩;left;refine h l ad (λz=>absurd z m0) (λ_ x=> ?_) λx hx=> ?_
  .rw[hl];exact⟨λq=>q.1,λq=>⟨q,(sD q m0).2,(sD q m0).1⟩⟩
  .have:=(hl x).mp hx
   lia
def oJ:Φ:=λds Q=> ∃p:List Int,ds=[aO p]/\dO p/\((∀z,ev p z≠0)->Q (.pu .non))/\ ∀l r,Fac p l r->Red p->Q (.pu<|.tup [aO l,aO r])
def tU:US:=(d6<|uC .non)
def oK:US:=(aQ (jI (i7<|aV sC<|a8 (uIx (aS 0)<|uC<|.int 0) aP) (cE 1)<|fE (cO<|uOp (fH false) (aV pO<|a8 (aB 0)<|a8 (aB 1) aP)<|uC<|.int 0) (aQ (bN 2<|jD<|a8 (sJ<|aB 1)<|a8 (uC<|.int 1) aP)<|d6<|jD<|a8 (aB 2)<|a8 (uIx (uV<|aV hZ<|a8 (aB 0)<|a8 (aB 2) aP)<|uC<|.int 0) aP) cX) tU)
theorem b35 (p:List Int)(j:Nat)(h:p.length<=j):p.getD j 0=0:=by rw[aJ,kH h];rfl
theorem aN6: Ra oJ oK ["p","z","l"]:=by
 rintro ds Q ⟨p,rfl,hp,hn,hy⟩;have hlo:=hp.ok.lo;have hhi:=hp.ok.hi;unfold oK;show(aQ _ _:US) _ [~~~.tup (p.map .int),none,none];rw[aL];have p0:(p.getD 0 0).natAbs<=499:=fA hp.ok.small 0;have key: ∀l:List Int,(p.getD 0 0=0->l=[0])->(p.getD 0 0≠0-> ∀x,x∈l↔x∣p.getD 0 0)->(∀x∈l,ev p x≠0)-> ∀z,ev p z≠0:=λl l0 l1 hl z hz=>by
  by_cases c:p.getD 0 0=0
  .have:=hl 0 (by rw[l0 c];simp)
   rw[bY6 hp]at this;exact this c
  .exact hl z ((l1 c z).mpr<|c75 hp hz) hz
 unfold jI;simp only[i7];left;rw[zD ad]
 refine⟨p.getD 0 0,rfl,p0,λl l9 l0 l1 lb=> ?_⟩
 right;rw[aF];refine⟨λi ρ=> ∃z1 z2,ρ=[~~~.tup (p.map .int),z1,z2]/\ ∀k,k<i->ev p (l.getD k 0)≠0,⟨none,none,rfl,λk hk=>ad⟩,?_,?_⟩
 .rintro i ρ hi ⟨z1,z2,rfl,hk⟩;have e3:(l.map D.int).getD i .non= .int (l.getD i 0):=by
   rw[aJ,bI,aM hi,aJ,aM hi];rfl
  rw[e3];have mem:l.getD i 0∈l:=by rw[aJ,aM hi];exact cQ hi
  have zb:=lb _ mem;generalize ez:l.getD i 0=z at zb;left;refine⟨ae,?_⟩
  refine⟨p.length,9,9,λj=>p.getD j 0,z,by rw[<-bX8];rfl,⟨λj=>aI (fA hp.ok.small j) ac,aI zb ac,ad,ac,ad⟩,?_⟩
  show(if ev p z=0 then _ else _)
  by_cases c:ev p z=0
  .rw[a7 c];refine⟨ac,?_⟩
   obtain⟨r,r1,r2,r3,r4,r5,fac⟩:=quo hp c zb;refine⟨p.length,1,9,9,λm=>conv (λj=>r.getD j 0) (wT z) r.length m+0,wT z,?_,⟨ad,ac,rfl,λj hj=> ?_,λm hm=> ?_,λj=> ?_,ad,ac⟩,?_⟩
   .rw[<-r4];rfl
   .unfold wT;rw[b35];simp;lia
   .have e:p.getD m 0=conv (λj=>r.getD j 0) (wT z) r.length m+0:=by
     have:p[m]? =some (conv (λj=>r.getD j 0) (wT z) r.length m+0):=by
      conv=>lhs;rw[r4]
      rw[wX hm]
     rw[aJ,this];rfl
    rw[<-e];exact aI (fA hp.ok.small m) ac
   .unfold wT;refine fA (b:=2^9) (λx hx=> ?_) j
    simp at hx
    rcases hx with rfl|rfl
    .rw[uW];exact aI zb ac
    .decide
   .have dc:=bC4 (u:=λj=>r.getD j 0) (b:=wT z) (low:=λ_=>0) (d:=1) rfl (λj hj=>by unfold wT;rw[b35];simp;lia) (λ_ _=>rfl) r.length
    have el:p.length-1=r.length:=ad
    rw[el];have qe:rwF (gQ (divQ (wT z) 1 r.length λm=>conv (λj=>r.getD j 0) (wT z) r.length m+0) r.length) (divQ (wT z) 1 r.length λm=>conv (λj=>r.getD j 0) (wT z) r.length m+0)=r:=by
     have cn:gQ (divQ (wT z) 1 r.length λm=>conv (λj=>r.getD j 0) (wT z) r.length m+0) r.length=r.length:=u5 (aD _) (λm a b=>ad) (.inr (by
      rw[dc.2 (r.length-1) ad,r3];decide))
     rw[cn]
     conv=>rhs;rw[bX8 r]
     exact hV λj hj=>dc.2 j hj
    rw[qe];left;rw[show atI [aO r,aO<|rwF (gQ (divL (wT z) 1 r.length λm=>conv (λj=>r.getD j 0) (wT z) r.length m+0) p.length)<|divL (wT z) 1 r.length λm=>conv (λj=>r.getD j 0) (wT z) r.length m+0] 0=some (aO r)from cY (j:=0) rfl]
    refine⟨ac,hy [-z,1] r fac<|.inl ⟨z,c⟩⟩
  .rw[a6 c];refine⟨_,_,rfl,λk hk2=> ?_⟩
   by_cases ck:k<i
   .exact hk k ck
   .have:k=i:=ad
    rw[this,ez];exact c
 .rintro ρ ⟨z1,z2,rfl,hk⟩;unfold tU;left;refine hn (key l l0 l1 λx hx=> ?_)
  obtain⟨k,hk2,rfl⟩:=a10 hx;have:=hk k hk2;rw[aJ,aM hk2]at this;exact this
def yB:Φ:=λds Q=> ∃t m:Int,ds=[.int t,.int m]/\t.natAbs<=2^20/\m.natAbs<=2^20/\ ∀l:List Int,l.length<=2->(∀u,u∈l↔u*(t-u)=m)->Q (.ow<|l.map .int)
def aB4:US:=(aQ (fE (cO<|uOp (fH true) (uOp bZ (aB 3)<|aB 3)<|aB 2) (d6<|lY aP) cX)<|d6<|lY<|a8 (uOp aQ5 (uOp gI (aB 0)<|aB 3)<|uC<|.int 2)<|a8 (uOp aQ5 (uOp M.gSub (aB 0)<|aB 3)<|uC<|.int 2) aP)
def aB5:US:=(aQ (bN 3<|aV b05<|a8 (aB 2) aP) aB4)
def aB6:US:=(aQ (fE (cO<|uOp (pH λi j=>decide (i<j)) (aB 2)<|uC<|.int 0) (d6<|lY aP) cX) aB5)
def yC:US:=(aQ (bN 2<|uOp M.gSub (uOp bZ (aB 0)<|aB 0)<|uOp bZ (uC<|.int 4)<|aB 1) aB6)
theorem sq_nn (x:Int):0<=x*x:=by
 rcases le_total 0 x with h|h
 .exact mul_nonneg h h
 .exact Int.mul_nonneg_of_nonpos_of_nonpos h h
theorem d96 (ha:0<=a)(h:a<=b):a*a<=b*b:=Int.mul_le_mul h h ha ad
theorem dU2 {g:Int}(hg:0<=g)(h1:g*g<=x*x)(h2:x*x< (g+1)*(g+1)):x=g\/x= -g:=by
 have e:(x.natAbs:Int)*(x.natAbs:Int)=x*x:=Int.natAbs_mul_self;have a1:(x.natAbs:Int)<=g:=by
  by_cases c:(x.natAbs:Int)<=g
  .exact c
  .have:=d96 (a:=g+1) (b:=(x.natAbs:Int)) ad ad
   lia
 have a2:g<=(x.natAbs:Int):=by
  by_cases c:g<=(x.natAbs:Int)
  .exact c
  .have:=d96 (a:=(x.natAbs:Int)+1) (b:=g) ad ad
   have h3:(x.natAbs:Int)*(x.natAbs:Int)< ((x.natAbs:Int)+1)*((x.natAbs:Int)+1):=by
    have:((x.natAbs:Int)+1)*((x.natAbs:Int)+1)=(x.natAbs:Int)*(x.natAbs:Int)+2*(x.natAbs:Int)+1:=by grind
    lia
   lia
 lia
theorem par {t g:Int}(h:g*g=t*t-4*m):(t+g)%2=0/\(t-g)%2=0:=by
 have h1:(t-g)*(t+g)=4*m:=by grind
 rcases Int.emod_two_eq (t+g)with c|c
 .exact⟨c,ad⟩
 .exfalso
  obtain⟨a,ha⟩: ∃a,t+g=2*a+1:=⟨(t+g)/2,ad⟩
  obtain⟨b,hb⟩: ∃b,t-g=2*b+1:=⟨(t-g)/2,ad⟩
  rw[ha,hb]at h1;have:2*(2*(b*a)+b+a-2*m)+1=0:=by grind
  lia
theorem bL6: Ra yB yC ["t","m","s","g"]:=by
 rintro ds Q ⟨t,m,rfl,ht,hm,h⟩;have p20:(2:Nat)^20=1048576:=ac
 have tt:(t*t).natAbs<=2^20*2^20:=aR ht ht;unfold yC;show(aQ _ _:US) _ [!t,!m,none,none];rw[aL];left;refine⟨cmL aa aa,cmL ac ac,?_⟩
 have id1: ∀u:Int,u*(t-u)=m↔(2*u-t)*(2*u-t)=t*t-4*m:=λu=>by
  constructor
  .intro q;grind
  .intro q;have:4*(u*(t-u))=4*m:=by grind
   omega
 generalize esq:t*t-4*m=sq at id1;have sqb:sq.natAbs<=2^60:=by
  have:(2:Nat)^60=1152921504606846976:=ac
  have:(2:Nat)^20*2^20=1099511627776:=ac
  omega
 unfold aB6;rw[aL];left
 by_cases s0:sq<0
 .rw[a7 s0];refine⟨ac,h [] ae λu=> ?_⟩
  rw[id1];simp;intro q;have:=sq_nn (2*u-t);omega
 rw[a6 s0];unfold aB5;rw[aL];left;refine⟨sq,rfl,aa,Sm.pow sqb ac,λg g0 g1 g2=> ?_⟩
 have g30:g<=2^30:=by
  by_cases c:g<=2^30
  .exact c
  .have:=d96 (a:=2^30+1) (b:=g) ac aa
   have:((2:Int)^30+1)*(2^30+1)>2^60:=ac
   have:((2^60:Nat):Int)=2^60:=ac
   omega
 have k30:(2:Int)^30=1073741824:=ac
 unfold aB4;right;rw[aL];left;refine⟨cmL aa aa,?_⟩
 by_cases c:g*g=sq
 .rw[a6 λz=>z c]
  rw[sK _ ac,sK _ ac]
  have pp:=par (t:=t) (g:=g) (m:=m) (by rw[c,esq])
  refine⟨⟨ac,aN3 ac ac⟩,⟨ac,aN3 ac ac⟩,ac,?_⟩
  refine h [(t+g)/2,(t-g)/2] ae λu=> ?_
  rw[id1];simp;constructor
  .rintro(rfl|rfl)
   .have:2*((t+g)/2)-t=g:=aa
    rw[this];exact c
   .have:2*((t-g)/2)-t= -g:=aa
    rw[this,Int.neg_mul_neg];exact c
  .intro q;have:=dU2 (g:=g) (x:=2*u-t) g0 aa aa
   omega
 .rw[a7 c];refine⟨ac,h [] ae λu=> ?_⟩
  rw[id1];simp;intro q;rw[<-q]at g1 g2 c;rcases dU2 g0 g1 g2 with z|z
  .rw[z]at c;exact c rfl
  .rw[z,Int.neg_mul_neg]at c;exact c rfl
def d97 (g:UG)(tb:US)(E:UD)(b:B)(ρ1:Ev):Prop:=match sI b.d with
 | some l=> ∃Pv:Nat->Ev->Prop,Pv 0 ρ1/\(∀i ρ,i<l.length->Pv i ρ->g (.pu<|l.getD i .non) ρ λρ2=>tb {E with nx:=Pv (i+1),ct:=Pv (i+1),bk:=E.nx} ρ2)/\ ∀ρ,Pv l.length ρ->E.nx ρ
 | none=>False
theorem bD4 {φ:Φ}{t:UA}{g:UG}:jI (i7<|aV φ t) g tb E ρ=t ρ λds ρ1=>φ ds λb=>d97 g tb E b ρ1:=rfl
theorem b36 {g:UG}{ρ1:Ev}(l:List Int)(Pv:Nat->Ev->Prop)(h0:Pv 0 ρ1)(hs: ∀i ρ,i<l.length->Pv i ρ->g (.pu<|.int<|l.getD i 0) ρ λρ2=>tb {E with nx:=Pv (i+1),ct:=Pv (i+1),bk:=E.nx} ρ2)(hd: ∀ρ,Pv l.length ρ->E.nx ρ):d97 g tb E (.ow<|l.map .int) ρ1:=by
 show ∃Pv:Nat->Ev->Prop,Pv 0 ρ1/\(∀i ρ,i< (l.map D.int).length->Pv i ρ->g (.pu<|(l.map D.int).getD i .non) ρ λρ2=>tb {E with nx:=Pv (i+1),ct:=Pv (i+1),bk:=E.nx} ρ2)/\ ∀ρ,Pv (l.map D.int).length ρ->E.nx ρ
 rw[aF];refine⟨Pv,h0,λi ρ hi hp=> ?_,hd⟩
 have e3:(l.map D.int).getD i .non= .int (l.getD i 0):=by
  rw[aJ,bI,aM hi,aJ,aM hi];rfl
 rw[e3];exact hs i ρ hi hp
theorem bR1 {l:List Int}(hi:i<l.length):l.getD i 0∈l:=by rw[aJ,aM hi];exact cQ hi
theorem c76 {l:List Int}{P:Int->Prop}(h: ∀k,k<l.length->P (l.getD k 0)): ∀x∈l,P x:=λx hx=>by
 obtain⟨k,hk,rfl⟩:=a10 hx;have:=h k hk;rw[aJ,aM hk]at this;exact this
def l6:Φ:=λds Q=> ∃a b c d:Int,ds=[aO [a,b,c,d,1]]/\(∀x∈[a,b,c,d],x.natAbs<=499)/\a≠0/\((∀v u w s,[a,b,c,d,1]≠qq v u w s)->Q (.pu .non))/\
 ∀v u w s,[a,b,c,d,1]=qq v u w s->(∀x∈[v,u,w,s],x.natAbs<=2^40)->Q (.pu<|.tup [aO [v,u,1],aO [w,s,1]])
def l7:US:=(aQ (jI (i7<|aV sC<|a8 (uIx (aS 0)<|uC<|.int 0) aP) (cE 1)<|aQ (bN 2<|uOp aQ5 (uIx (aS 0)<|uC<|.int 0)<|aB 1)<|jI (i7<|aV yB<|a8 (uIx (aS 0)<|uC<|.int 3)<|a8 (uOp M.gSub (uOp M.gSub (uIx (aS 0)<|uC<|.int 2)<|aB 1)<|aB 2) aP) (cE 3)<|aQ (bN 4<|uOp M.gSub (uIx (aS 0)<|uC<|.int 3)<|aB 3)<|fE (cO<|uOp (fH false) (uOp gI (uOp bZ (aB 3)<|aB 2)<|uOp bZ (aB 1)<|aB 4)<|uIx (aS 0)<|uC<|.int 1) (d6<|jD<|a8 (jD<|a8 (aB 1)<|a8 (aB 3)<|a8 (uC<|.int 1) aP)<|a8 (jD<|a8 (aB 2)<|a8 (aB 4)<|a8 (uC<|.int 1) aP) aP) cX)<|d6<|uC .non)
theorem cV7 {u t:Int}(h:u*(t-u)=m)(ht:t.natAbs<=2^20)(hm:m.natAbs<=2^20):u.natAbs<=2^20:=by
 by_cases c:t-u=0
 .have:u=t:=ad
  rw[this];exact ht
 .have h1:m.natAbs=u.natAbs*(t-u).natAbs:=by rw[<-h,dX]
  have h2:u.natAbs*1<=u.natAbs*(t-u).natAbs:=uK _ ad
  lia
theorem a88: Ra l6 l7 ["p","v","w","u","s"]:=by
 rintro ds Q ⟨a,b,c,d,rfl,hs,a0,hn,hy⟩;simp only[dS]at hs;obtain⟨ha,hb,hc,hd,_⟩:=hs;have p20:(2:Nat)^20=1048576:=ac
 have p40:(2:Nat)^40=1099511627776:=ac
 unfold l7;show(aQ _ _:US) _ [~~~.tup [.int a,.int b,.int c,.int d,.int 1],none,none,none,none];have i0:atI [D.int a,.int b,.int c,.int d,.int 1] 0=some (.int a):=cY (j:=0) rfl;have i1:atI [D.int a,.int b,.int c,.int d,.int 1] 1=some (.int b):=cY (j:=1) rfl;have i2:atI [D.int a,.int b,.int c,.int d,.int 1] 2=some (.int c):=cY (j:=2) rfl
 have i3:atI [D.int a,.int b,.int c,.int d,.int 1] 3=some (.int d):=cY (j:=3) rfl;rw[aL,bD4];left;rw[i0];refine⟨a,rfl,ha,λl l9 _ l1 lb=> ?_⟩
 have ld:=l1 a0;refine b36 l (λi ρ=> ∃z1 z2 z3 z4,ρ=[~~~.tup [.int a,.int b,.int c,.int d,.int 1],z1,z2,z3,z4]/\ ∀k,k<i-> ∀u w s,[a,b,c,d,1]≠qq (l.getD k 0) u w s) ⟨none,none,none,none,rfl,λk hk=>ad⟩ ?_ ?_
 .rintro i ρ hi ⟨z1,z2,z3,z4,rfl,hk⟩;have mem:=bR1 hi;have vb:=lb _ mem;have vd:=(ld _).mp mem;generalize ev':l.getD i 0=v at vb vd;obtain⟨w,rfl⟩:=vd;have v0:v≠0:=λz=>a0 (by rw[z,cJ])
  have wb:w.natAbs<=499:=by
   rw[dX]at ha;have:1*w.natAbs<=v.natAbs*w.natAbs:=uH _ ad
   lia
  refine⟨ae,?_⟩
  show(aQ _ _:US) _ [~~~.tup [.int<|v*w,.int b,.int c,.int d,.int 1],!v,z2,z3,z4]
  rw[aL,pJ];left;rw[i0];right;rw[aJ2 _ v0];refine⟨⟨v0,aN3 ad ad⟩,?_⟩
  rw[bD4];left;rw[i3,i2];right;have cv:(c-v-w).natAbs<=2^20:=by
   have:=na2 (na2 hc (B:=499) (b:= -v) (by rw[uW];exact vb)) (B:=499) (b:= -w) (by rw[uW];exact wb)
   exact aI this ac
  have d2:d.natAbs<=2^20:=aI hd ac
  refine⟨d,c-v-w,rfl,d2,cv,λus _ hus=> ?_⟩
  refine b36 us (λj ρ=> ∃z3 z4,ρ=[~~~.tup [.int<|v*w,.int b,.int c,.int d,.int 1],!v,!w,z3,z4]/\ ∀k,k<j->us.getD k 0*w+v*(d-us.getD k 0)≠b) ⟨_,_,rfl,λk hk=>ad⟩ ?_ ?_
  .rintro j ρ hj ⟨z3,z4,rfl,hk2⟩;have um:=(hus _).mp (bR1 hj);generalize eu:us.getD j 0=u at um;have ub:=cV7 um d2 cv;refine⟨ae,?_⟩
   show(aQ _ _:US) _ [~~~.tup [.int<|v*w,.int b,.int c,.int d,.int 1],!v,!w,!u,z4]
   rw[aL];left;rw[i3];right;rw[i1];refine⟨cmL ad ad,cmL ad ad,?_⟩
   right
   by_cases q:u*w+v*(d-u)=b
   .rw[a7 q];refine⟨ac,ac,ac,hy v u w (d-u) ?_ ?_⟩
    .unfold qq;rw[<-q];have e1:v+w+u*(d-u)=c:=by rw[um];lia
     have e2:u+(d-u)=d:=ad
     rw[e1,e2]
    .simp only[dS];exact⟨ad,ad,ad,ad,ae⟩
   .rw[a6 q];refine⟨_,_,rfl,λk hk3=> ?_⟩
    by_cases ck:k<j
    .exact hk2 k ck
    .have:k=j:=ad
     rw[this,eu];exact q
  .rintro ρ ⟨z3,z4,rfl,hk2⟩;have no:=c76 (P:=λu=>u*w+v*(d-u)≠b) hk2
   refine⟨_,_,_,_,rfl,λk hk3=> ?_⟩
   by_cases ck:k<i
   .exact hk k ck
   .have:k=i:=ad
    rw[this,ev'];intro u w' s q;unfold qq at q
    injection q with q0 q;injection q with q1 q;injection q with q2 q;injection q with q3 q
    have ww:w'=w:=by
     have:=nW v0 q0
     lia
    subst ww;have us':s=d-u:=ad
    subst us';exact no u ((hus u).mpr ad) q1.symm
 .rintro ρ ⟨z1,z2,z3,z4,rfl,hk⟩;left;refine hn λv u w s q=> ?_
  have no:=c76 (P:=λv=> ∀u w s,[a,b,c,d,1]≠qq v u w s) hk
  refine no v ((ld v).mpr ?_) u w s q
  unfold qq at q
  injection q with q0 q
  exact⟨w,q0⟩
def aN7:Φ:=λds Q=> ∃p:List Int,ds=[aO p]/\dO p/\(¬Red p->Q (.pu .non))/\ ∀l r,Fac p l r->Red p->Q (.pu<|.tup [aO l,aO r])
def sQ:US:=(tP 1)
def aB7:US:=(aQ (fE (aQ3 (cO<|c51 false<|aB 1)<|cO<|uOp (fH false) (jE<|aS 0)<|uC<|.int 5) (bN 1<|aV l6<|a8 (aB 0) aP) cX) sQ)
def b37:US:=(aQ (bN 1<|aV oJ<|a8 (aB 0) aP) aB7)
def aN8:US:=(aQ (aQ9<|aV iQ<|a8 (aB 0) aP) b37)
theorem cI5: Ra aN7 aN8 ["p","q"]:=by
 rintro ds Q ⟨p,rfl,hp,hn,hy⟩;unfold aN8;show(aQ _ _:US) _ [~~~.tup (p.map .int),none];rw[aL];left;refine⟨p,rfl,hp,?_⟩;try right
 unfold b37;rw[aL];left;refine⟨p,rfl,hp,λnr=> ?_,λl r fac red=> ?_⟩
 .try right
  unfold aB7;rw[aL];left;rw[aF]
  by_cases c:(p.length:Int)=5
  .simp only[c,dM];have sm:=hp.ok.small;rcases hp.cs with⟨a,b,rfl⟩| ⟨a,b,c',rfl⟩| ⟨a,b,c',d,rfl⟩
   .simp at c
   .simp at c
   .simp only[dS]at sm;refine⟨a,b,c',d,rfl,by simp only[dS];exact⟨sm.1,sm.2.1,sm.2.2.1,sm.2.2.2.1,ae⟩,λz=> ?_,λnq=> ?_,λv u w s q bd=> ?_⟩
    .refine nr 0 ?_
     rw[bY6 hp];exact z
    .unfold sQ;left;refine hn λrd=> ?_
     rcases rd with⟨z,hz⟩| ⟨v,u,w,s,q⟩
     .exact nr z hz
     .exact nq v u w s q
    .unfold sQ;left;exact hy _ _ (by rw[q];exact fac_qq bd) (.inr ⟨v,u,w,s,q⟩)
  .simp only[c,dM,dL];unfold sQ;left;refine hn λrd=> ?_
   rcases rd with⟨z,hz⟩| ⟨v,u,w,s,q⟩
   .exact nr z hz
   .rw[q]at c;exact c rfl
 .try right
  unfold aB7;rw[aL];left;unfold sQ;left;exact hy l r fac red
noncomputable def fOf (p:List Int):∅:=λj=>p.getD j 0
theorem dO.rf (h:dO p):RF (p.length-1) (fOf p):=by
 have lo:=h.ok.lo;have hi:=h.ok.hi;refine⟨aa,aa,?_,λj hj=> ?_,λj=> ?_⟩
 .obtain⟨q,rfl⟩:=h.one;show(q++[1]).getD _ 0=1;rw[dD,aJ,qF ae]
  simp
 .show p.getD j 0=0
  rw[aJ,kH aa]
  rfl
 .exact aI (fA h.ok.small j) ac
theorem dO.row (h:dO p):aO p=aO (rwF (p.length-1+1)<|fOf p):=by
 have lo:=h.ok.lo;have e:=bX8 p;rw[show p.length-1+1=p.length by omega]
 exact bW aO e
def aB8:Φ:=λds Q=> ∃(r:List Int) (k:Int),ds=[aO r,.int k]/\r.length<=1000/\ -1000<=k/\k<=1000/\Q (.pu<|aO<|r++replicate (k-(r.length:Int)).toNat 0)
def aB9:US:=(d6<|uOp gI (aB 0)<|uOp cN0 (jD<|a8 (uC<|.int 0) aP)<|uOp M.gSub (aB 1)<|jE<|aS 0)
theorem c77: Ra aB8 aB9 ["r","s"]:=by
 rintro ds Q ⟨r,k,rfl,hr,k0,k1,h⟩;unfold aB9;simp only[aO];show(d6 _:US) _ [~~~.tup (r.map .int),!k];left;rw[aF];have e:(replicate (k-(r.length:Int)).toNat [D.int 0]).flatten=(replicate (k-(r.length:Int)).toNat 0).map D.int:=bB7 _ _;rw[e,<-bV];refine⟨ac,⟨ae,ad,ad,aI (show 1*(k-(r.length:Int)).toNat<=1000 by lia) ac⟩,?_,h⟩
 rw[aF,aK3];exact aI (show r.length+(k-(r.length:Int)).toNat<=3000 by lia) ac
def jY:ΦX:=λds Q Ex=> ∃p:List Int,ds=[aO p]/\dO p/\(¬Red p->Q (.pu .non))/\(Red p-> ∀l r,Fac p l r->Ex "FallsApart" [aO l,aO r])
def nK:USX:=(λEx=>aQ ((λ_=>(bN 1<|aV aN7<|a8 (aB 0) aP)) Ex) ((λEx=>fE (cO<|c51 true<|aB 1) ((aR6 "FallsApart" (uIx (aS 1)<|uC<|.int 0)<|uIx (aS 1)<|uC<|.int 1) Ex) ((λ_=>cX) Ex)) Ex))
theorem aC0: ∀ds Q Ex,jY ds Q Ex->ds.length=1:=by rintro ds Q Ex ⟨p,rfl,_⟩;rfl
theorem aG3: ∀ds Q Ex,jY ds Q Ex->nK Ex {nx:=λ_=>Q (.pu .non),rt:=Q} (init ["p","q"] ds):=by
 rintro ds Q Ex ⟨p,rfl,rp,h0,h1⟩;unfold nK;right;show(aQ _ _:US) _ [~~~aO p,none];rw[aL];left;refine⟨p,rfl,rp,λnr=> ?_,λl r fac red=> ?_⟩
 .left
  simpa using h0 nr
 .left
  simp only[at0,at1];exact h1 red l r fac
def Wh (n:Nat)(f:∅)(size:Int):Prop:= ∃xf,SPs n f size xf/\ ∀p∈prL,sqB size p=true->a55 n f p (xf p)
def NWh (n:Nat)(f:∅)(size:Int):Prop:= ∃xf,SPs n f size xf/\ ¬ ∀p∈prL,sqB size p=true->a55 n f p (xf p)
noncomputable def bY7 (n:Nat)(f:∅)(q:Int)(g:Nat×∅):List Int:=((List.range (bY5 n f g).length).map λk=>(bY5 n f g).getD k 0%q)++replicate ((n:Int)-(((List.range (bY5 n f g).length).map λk=>(bY5 n f g).getD k 0%q).length:Int)).toNat 0
def mU:ΦX:=λds Q Ex=> ∃(p:List Int) (size:Int),ds=[aO p,.int size]/\dO p/\(Wh (p.length-1) (fOf p) size->Q (.pu .non))/\(NWh (p.length-1) (fOf p) size-> ∀q g,bY4 (p.length-1) (fOf p) size q g->Ex "NotWhole" [.int q,aO<|bY7 (p.length-1) (fOf p) q g])
def rO:USX:=(λEx=>aQ ((λ_=>(bN 2<|aV tE<|a8 (aB 0)<|a8 (aV vV<|a8 (aB 0)<|a8 (aB 1) aP) aP)) Ex) ((λEx=>fE (cO<|c51 true<|aB 2) ((λEx=>aQ ((λ_=>(bK7 (aB 2)<|sH<|eO 3<|eO 4 sG)) Ex) ((aR6 "NotWhole" (aB 3)<|aV aB8<|a8 (aV eM<|a8 (fJ [3] [none,some 3,none] 2 (i7<|aB 4) (cE 0) (λρ Q=>Q true ρ)<|uOp jC (aB 0)<|aB 1) aP)<|a8 (uOp M.gSub (jE<|aS 0)<|uC<|.int 1) aP) Ex)) Ex) ((λ_=>cX) Ex)) Ex))
theorem aT4: ∀ds Q Ex,mU ds Q Ex->ds.length=2:=by rintro ds Q Ex ⟨p,size,rfl,_⟩;rfl
theorem b07: ∀ds Q Ex,mU ds Q Ex->rO Ex {nx:=λ_=>Q (.pu .non),rt:=Q} (init ["p","s","o","q","f"] ds):=by
 rintro ds Q Ex ⟨p,size,rfl,rp,h0,h1⟩;have rf:=rp.rf;rw[rp.row];generalize p.length-1=n at *;generalize fOf p=f at *;unfold rO;right;show(aQ _ _:US) _ [~~~aO (rwF (n+1) f),!size,none,none,none];rw[aL];left;refine⟨n,f,size,rfl,rf,λxf hP=>⟨n,f,size,xf,rfl,rf,hP,λfine=> ?_,λq g outs nf=> ?_⟩⟩
 .left
  simpa using h0 ⟨xf,hP,fine⟩
 .have pp:=a53 outs.pr;have p2:=pp.lo;have p3:=pp.hi;have ql:(bY5 n f g).length<=5:=by
   unfold bY5;rw[mT];have:=wY (divQ g.2 g.1 (n+1-g.1) f) (n+1-g.1);have:=rf.n4
   lia
  have h1':=h1 ⟨xf,hP,nf⟩ q g outs;unfold bY7 at h1';generalize bY5 n f g=r at *;simp only[aO]at h1'⊢;left;refine⟨ac,ac,trivial,?_⟩
  refine eV (t0:=0) r.length (λk=>(r.map D.int).getD k .non) [~~~.tup ((rwF (n+1) f).map .int),!size,~~~.tup [.int q,.tup<|r.map .int],!q,~~~.tup (r.map .int)] (λQ' q=> ?_) ad (λx l'=>[x,!q,↑l']) none rfl (λ_ _ _=>rfl) (λ_ _=>cN _) (λ_ _ _ q=>q) (λ_ _ _=>rfl) (λk=> .int (r.getD k 0%q)) ?_ ?_
  .left
   rw[aF];exact q
  .intro k l' Q' hk q';have e3:(r.map D.int).getD k .non= .int (r.getD k 0):=by
    rw[aJ,bI,aJ,aM hk];rfl
   rw[e3]at q'⊢;left;refine⟨ad,?_⟩
   rw[bY _ ad]
   exact q'
  .have e4:(List.range r.length).map (λk=>D.int (r.getD k 0%q))=((List.range r.length).map λk=>r.getD k 0%q).map D.int:=by rw[eZ];rfl
   rw[e4];have n4:=rf.n4;left;refine⟨_,(n:Int),?_,by rw[aF,uO];lia,ad,ad,h1'⟩
   rw[fB];refine bW (λz=>[_,D.int z]) ad
def aC1:ΦM:=λds Q Ex=> ∃p:List Int,ds=[aO p]/\dO p/\(¬Red p->(d5 4<|bT p).natAbs<=39999->Wh (p.length-1) (fOf p) (d5 4<|bT p)->Q [aO p,.int<|(p.length:Int)-1,.int<|d5 4<|bT p])/\(Red p-> ∀l r,Fac p l r->Ex "FallsApart" [aO l,aO r])/\(¬Red p->39999< (d5 4<|bT p).natAbs->Ex "TooGreat" [])/\(¬Red p->(d5 4<|bT p).natAbs<=39999->NWh (p.length-1) (fOf p) (d5 4<|bT p)-> ∀q g,bY4 (p.length-1) (fOf p) (d5 4<|bT p) q g->Ex "NotWhole" [.int q,aO<|bY7 (p.length-1) (fOf p) q g])
def bD5:USX:=(λEx=>aQ ((λ_=>(aQ9<|aV iQ<|a8 (aB 1) aP)) Ex) ((λEx=>aQ ((λEx=>aQ9 (bW8 jY (a8 (aB 1) aP) Ex)) Ex) ((λEx=>aQ ((λ_=>(bN 2<|aV a49<|a8 (aB 1) aP)) Ex) ((λEx=>aQ ((λEx=>fE (cO<|uOp (pH λi j=>decide (j<i)) (aV c42<|a8 (aB 2) aP)<|uC<|.int 39999) ((bW9 "TooGreat"<|a8 (uC<|.str "a ring's measure is from -39,999 to 39,999") aP) Ex) ((λ_=>cX) Ex)) Ex) ((λEx=>aQ9 (bW8 mU (a8 (aB 1)<|a8 (aB 2) aP) Ex)) Ex)) Ex)) Ex)) Ex))
def bD6:UE:=(aB 1)
def bD7:UE:=(uOp M.gSub (jE<|aS 1)<|uC<|.int 1)
def bD8:UE:=(aB 2)
theorem cV8: ∀ds Q Ex,aC1 ds Q Ex->ds.length+1=2:=by rintro ds Q Ex ⟨p,rfl,_⟩;rfl
theorem d98: ∀a ds Q Ex,aC1 ds Q Ex->bD5 Ex {nx:=λρ=>ρ[0]? =some (~~~.adr a)/\bD6 ρ λb1 ρ1=>bD7 ρ1 λb2 ρ2=>bD8 ρ2 λb3 _=>Q [b1.d,b2.d,b3.d],rt:=λ_=>False} (init ["s","p","m"] (.adr a::ds)):=by
 rintro a ds Q Ex ⟨p,rfl,rp,h0,hr,h1,h2⟩;have lo:=rp.ok.lo;unfold bD5;right;show(aQ _ _:US) _ [~~~.adr a,~~~aO p,none];rw[aL];left;refine⟨p,rfl,rp,?_⟩;left;refine⟨p,rfl,rp,λnr=> ?_,hr⟩
 refine⟨p,rfl,rp,?_⟩
 left
 by_cases c:(39999:Int)< (if d5 4 (bT p)<0 then -d5 4 (bT p)else d5 4 (bT p))
 .rw[a7 c];exact⟨ac,h1 nr (by split at c<;>omega)⟩
 .rw[a6 c];have me:(d5 4<|bT p).natAbs<=39999:=by split at c<;>omega
  refine⟨p,d5 4<|bT p,rfl,rp,λwh=>⟨trivial,?_⟩,λnw=>h2 nr me nw⟩
  unfold bD6 bD7 bD8;simp only[aO];left;rw[aF];exact h0 nr me wh
theorem b08 {p:Int}(mp:MP p F.1 F.2)(h1:F.1=1):F=dR (F.2 0):=by
 refine j4 h1 (funext λj=> ?_)
 show F.2 j=if j=0 then F.2 0 else if j=1 then 1 else 0
 by_cases c0:j=0
 .rw[a7 c0,c0]
 .by_cases c1:j=1
  .rw[a6 c0,a7 c1,c1];have:=mp.top;rw[h1]at this;exact this
  .rw[a6 c0,a6 c1];exact mp.hi j ad
noncomputable def bR2 (C:Addr)(p:List Int):D:= .obj C ["poly","degree","measure"] [aO p,.int<|(p.length:Int)-1,.int<|d5 4<|bT p]
theorem b38 (h:ρ[i]? =some (~~~bR2 C p)):aZ2 "degree" (aB i) ρ Q=Q (.pu<|.int<|(p.length:Int)-1) ρ:=by
 unfold aZ2;rw[aS6 h];rfl
theorem bR3 (h:ρ[i]? =some (~~~bR2 C p)):aZ2 "poly" (aB i) ρ Q=Q (.pu<|aO p) ρ:=by
 unfold aZ2;rw[aS6 h];rfl
noncomputable def ttF (p:List Int)(n:Nat)(u:∅):∅:=λi=>(if i=0 then 0 else u (i-1))-u (n-1)*p.getD i 0
noncomputable def itT (p:List Int)(n:Nat)(u:∅):Nat->∅
 | 0=>u
 | k+1=>ttF p n (itT p n u k)
noncomputable def gT (n:Nat)(f:∅):Int:=((List.range n).map f).sum
noncomputable def eU (p:List Int)(n:Nat)(u v:∅):∅:=λj=>gT n λi=>v i*itT p n u i j
theorem cV9 {a:Nat}(hp: ∀x∈p,x.natAbs<=499)(hu: ∀j,(u j).natAbs<=2^a)(j:Nat):(ttF p n u j).natAbs<=2^(a+9):=by
 unfold ttF;have h1:(if j=0 then(0:Int)else u (j-1)).natAbs<=2^a:=by
  split
  .simp
  .exact hu _
 have h2:(u (n-1)*p.getD j 0).natAbs<=2^a*499:=by rw[dX];exact jQ (hu _) (fA hp j)
 have h3:=oA (if j=0 then(0:Int)else u (j-1)) (u (n-1)*p.getD j 0);rw[lP];have:(2:Nat)^9=512:=rfl
 lia
theorem b09 {p:List Int}{n a:Nat}{u:∅}(hp: ∀x∈p,x.natAbs<=499)(hu: ∀j,(u j).natAbs<=2^a): ∀k j,(itT p n u k j).natAbs<=2^(a+9*k)
 | 0,j=>hu j
 | k+1,j=>by
  have:=cV9 (n:=n) hp (λj=>b09 (n:=n) hp hu k j) j
  rw[a29,<-iK];exact this
noncomputable def b57 (p:List Int)(n k:Nat)(f:∅):∅:=λm=>if k-n<=m/\m<k then f m-f k*p.getD (m-(k-n)) 0 else f m
noncomputable def a89 (p:List Int)(n:Nat)(f:∅):Nat->∅
 | 0=>f
 | t+1=>b57 p n (2*n-2-t) (a89 p n f t)
theorem red2 (p:List Int)(u v:∅)(hu: ∀j,2<=j->u j=0)(hv: ∀j,2<=j->v j=0): ∀j,j<2->a89 p 2 (conv u v 2) 1 j=eU p 2 u v j
 | 0,_=>by simp[a89,b57,conv,shF,eU,gT,itT,ttF,bL,hv];grind
 | 1,_=>by simp[a89,b57,conv,shF,eU,gT,itT,ttF,bL,hv];grind
theorem red3 (p:List Int)(u v:∅)(hu: ∀j,3<=j->u j=0)(hv: ∀j,3<=j->v j=0): ∀j,j<3->a89 p 3 (conv u v 3) 2 j=eU p 3 u v j
 | 0,_=>by simp[a89,b57,conv,shF,eU,gT,itT,ttF,bL,hv];grind
 | 1,_=>by simp[a89,b57,conv,shF,eU,gT,itT,ttF,bL,hv];grind
 | 2,_=>by simp[a89,b57,conv,shF,eU,gT,itT,ttF,bL,hv];grind
theorem red4 (p:List Int)(u v:∅)(hu: ∀j,4<=j->u j=0)(hv: ∀j,4<=j->v j=0): ∀j,j<4->a89 p 4 (conv u v 4) 3 j=eU p 4 u v j
 | 0,_=>by simp[a89,b57,conv,shF,eU,gT,itT,ttF,bL,hv];grind
 | 1,_=>by simp[a89,b57,conv,shF,eU,gT,itT,ttF,bL,hv];grind
 | 2,_=>by simp[a89,b57,conv,shF,eU,gT,itT,ttF,bL,hv];grind
 | 3,_=>by simp[a89,b57,conv,shF,eU,gT,itT,ttF,bL,hv];grind
def bD9:Φ:=λds Q=> ∃(p:List Int) (n e:Nat) (u v:∅),ds=[aO p,aO<|rwF n u,aO<|rwF n v]/\dO p/\p.length=n+1/\e<=8900/\(∀j,(u j).natAbs<=2^e)/\(∀j,(v j).natAbs<=2^e)/\(∀j,n<=j->u j=0)/\(∀j,n<=j->v j=0)/\Q (.pu<|aO<|rwF n<|eU p n u v)
def bR4:US:=(d6<|aV eM<|a8 (uSl (aS 4) jA<|n8<|aB 3) aP)
def bR5:US:=(aQ (jI (c46<|a8 (uOp M.gSub (uOp bZ (uC<|.int 2)<|aB 3)<|uC<|.int 2)<|a8 (uOp M.gSub (aB 3)<|uC<|.int 1)<|a8 (sJ<|uC<|.int 1) aP) (cE 7)<|jI (jJ<|a8 (aB 3) aP) (cE 6)<|aQ (bN 8<|uOp gI (uOp M.gSub (aB 7)<|aB 3)<|aB 6)<|b95 4 (uOp M.gSub (uIx (aS 4)<|aB 8)<|uOp bZ (uIx (aS 4)<|aB 7)<|uIx (aS 0)<|aB 6)<|aB 8) bR4)
def bR6:US:=(aQ (jI (jJ<|a8 (aB 3) aP) (cE 5)<|jI (jJ<|a8 (aB 3) aP) (cE 6)<|b95 4 (uOp gI (uIx (aS 4)<|uOp gI (aB 5)<|aB 6)<|uOp bZ (uIx (aS 1)<|aB 5)<|uIx (aS 2)<|aB 6)<|uOp gI (aB 5)<|aB 6) bR5)
def bR7:US:=(aQ (bN 4<|uOp bZ (lY<|a8 (uC<|.int 0) aP)<|uOp M.gSub (uOp bZ (uC<|.int 2)<|aB 3)<|uC<|.int 1) bR6)
def bE0:US:=(aQ (bN 3<|uOp M.gSub (jE<|aS 0)<|uC<|.int 1) bR7)
theorem bY8 {v:∅}(n2:2<=n)(n4:n<=4)(hu: ∀j,n<=j->u j=0)(hv: ∀j,n<=j->v j=0):rwF n (a89 p n (conv u v n)<|n-1)=rwF n (eU p n u v):=by
 refine hV λj hj=> ?_
 rcases(show n=2\/n=3\/n=4 by lia)with rfl|rfl|rfl
 .exact red2 p u v hu hv j hj
 .exact red3 p u v hu hv j hj
 .exact red4 p u v hu hv j hj
noncomputable def bL7 (p:List Int)(n k j:Nat)(f:∅):∅:=λm=>if k-n<=m/\m<k-n+j then f m-f k*p.getD (m-(k-n)) 0 else f m
theorem d99: Ra bD9 bE0 ["p","x","y","n","r","i","j","k","a"]:=by
 rintro ds Q ⟨p,n,e,u,v,rfl,rp,hn,he,hu,hv,uz,vz,h⟩;have lo:=rp.ok.lo;have hi:=rp.ok.hi;unfold bE0;simp only[aO];show(aQ _ _:US) _ [~~~.tup (p.map .int),~~~.tup ((rwF n u).map .int),~~~.tup ((rwF n v).map .int),none,none,none,none,none,none];rw[aL];left;rw[aF,show(p.length:Int)-1=(n:Int)by lia]
 unfold bR7;rw[aL];left;rw[show 2*(n:Int)-1=((2*n-1:Nat):Int)by lia,dU,bQ6]
 refine⟨ac,cmL ac ac,⟨ad,ad,aI (show 1*(2*n-1)<=300 by lia) ac⟩,?_⟩
 unfold bR6;rw[aL];refine bM n (λi=> .int (0+i)) _ (λQ' q=> ?_)
  (λi ρ=> ∃x y,ρ=[~~~.tup (p.map .int),~~~.tup ((rwF n u).map .int),~~~.tup ((rwF n v).map .int),!(n:Int),↑((rwF (2*n-1)<|conv u v i).map .int),x,y,none,none]) ⟨none,none,rfl⟩ ?_ ?_
 .left
  refine⟨⟨ad,ad⟩,?_⟩
  rw[dU];exact q
 .rintro i ρ hi' ⟨x,y,rfl⟩;rw[bS];refine⟨ae,?_⟩
  show(jI _ _ _:US) _ [~~~.tup (p.map .int),~~~.tup ((rwF n u).map .int),~~~.tup ((rwF n v).map .int),!(n:Int),↑((rwF (2*n-1)<|conv u v i).map .int),!(i:Int),y,none,none]
  refine bM n (λj=> .int (0+j)) _ (λQ' q=> ?_)
   (λj ρ=> ∃y,ρ=[~~~.tup (p.map .int),~~~.tup ((rwF n u).map .int),~~~.tup ((rwF n v).map .int),!(n:Int),some<|.ow<|(rwF (2*n-1) λm=>if m<i+j then conv u v (i+1) m else conv u v i m).map .int,!(i:Int),y,none,none]) ⟨y,by rw[cI1]⟩ ?_ ?_
  .left
   refine⟨⟨ad,ad⟩,?_⟩
   rw[dU];exact q
  .rintro j ρ hj ⟨y,rfl⟩;rw[bS];have hij:i+j<2*n-1:=ad
   have c2:(i:Int)+(j:Int)=((i+j:Nat):Int):=ad
   left
   rw[c2,pM hij,pM hi',pM hj];right;rw[fB,bX9 hij,a6<|show ¬i+j<i+j by lia]
   refine⟨ae,.inr ⟨Sm.pow (hu i) ad,Sm.pow (hv j) ad⟩,!(j:Int),?_⟩
   rw[aS4 hij,cI3]
  .rintro ρ ⟨y,rfl⟩;rw[cI2 vz];exact⟨_,_,rfl⟩
 .rintro ρ ⟨x,y,rfl⟩;right;unfold bR5;rw[aL];refine bM (n-1) (λt=> .int ((2*n-2:Nat)-(t:Int))) _ (λQ' q=> ?_)
   (λt ρ=> ∃y z w,ρ=[~~~.tup (p.map .int),~~~.tup ((rwF n u).map .int),~~~.tup ((rwF n v).map .int),!(n:Int),↑((rwF (2*n-1)<|a89 p n (conv u v n) t).map .int),x,y,z,w]) ⟨y,none,none,rfl⟩ ?_ ?_
  .left
   refine⟨cmL ac ac,trivial,⟨ad,ad,ad,ad⟩,?_⟩
   rw[show(2*(n:Int)-2-((n:Int)-1)).toNat=n-1 by lia,show 2*(n:Int)-2=((2*n-2:Nat):Int)by lia]
   exact q
  .rintro t ρ ht ⟨y,z,w,rfl⟩;obtain⟨k,hk⟩: ∃k:Nat,k=2*n-2-t:=⟨_,rfl⟩;rw[show((2*n-2:Nat):Int)-(t:Int)=(k:Int)by lia]
   generalize hf:a89 p n (conv u v n) t=f;refine⟨ae,?_⟩
   show(jI _ _ _:US) _ [~~~.tup (p.map .int),~~~.tup ((rwF n u).map .int),~~~.tup ((rwF n v).map .int),!(n:Int),↑((rwF (2*n-1) f).map .int),x,y,!(k:Int),w]
   refine bM n (λj=> .int (0+j)) [~~~.tup (p.map .int),~~~.tup ((rwF n u).map .int),~~~.tup ((rwF n v).map .int),!(n:Int),↑((rwF (2*n-1) f).map .int),x,y,!(k:Int),w] (λQ' q=> ?_)
    (λj ρ=> ∃y w,ρ=[~~~.tup (p.map .int),~~~.tup ((rwF n u).map .int),~~~.tup ((rwF n v).map .int),!(n:Int),↑((rwF (2*n-1)<|bL7 p n k j f).map .int),x,y,!(k:Int),w]) ⟨y,w,?_⟩ ?_ ?_
   .left
    refine⟨⟨ad,ad⟩,?_⟩
    rw[dU];exact q
   .have e0:bL7 p n k 0 f=f:=funext λm=>by unfold bL7;rw[a6 ad]
    rw[e0]
   .rintro j ρ hj ⟨y,w,rfl⟩;rw[bS];have hat:k-n+j<2*n-1:=ad
    have hkk:k<2*n-1:=ad
    have c2:(k:Int)-(n:Int)+(j:Int)=((k-n+j:Nat):Int):=ad
    have e5:atI (p.map D.int) (j:Int)=some (.int<|p.getD j 0):=cY (by rw[bI,aM ad,aJ,aM ad];rfl)
    have e6:=fA rp.ok.small j;left;rw[c2,pM hat,pM hkk,e5];right;rw[fB,bX9 hat];refine⟨ae,cmR ad ad,!(j:Int),!((k-n+j:Nat):Int),?_⟩
    rw[aS4 hat];have e7:(λx=>if x=k-n+j then bL7 p n k j f (k-n+j)-bL7 p n k j f k*p.getD j 0 else bL7 p n k j f x)=bL7 p n k (j+1) f:=funext λm=>by
     unfold bL7
     by_cases c:m=k-n+j
     .rw[a7 c,a6 ad,a6 ad,a7 ad,c,show k-n+j-(k-n)=j by lia]
     .rw[a6 c]
      by_cases c3:k-n<=m/\m<k-n+j
      .rw[a7 c3,a7 ad]
      .rw[a6 c3,a6 ad]
    rw[e7]
   .rintro ρ ⟨y,w,rfl⟩;refine⟨y,!(k:Int),w,?_⟩;have e8:bL7 p n k n f=a89 p n (conv u v n) (t+1):=by
     show _=b57 p n (2*n-2-t) (a89 p n (conv u v n) t)
     rw[hf,<-hk];unfold bL7 b57
     funext m
     rw[show k-n+n=k by lia]
    rw[e8]
  .rintro ρ ⟨y,z,w,rfl⟩;right;unfold bR4;left;rw[aN4 _ _ (by rw[fB];lia),<-oC,c64 _ _ _ ad,bY8 ad ad uz vz]
   exact h
theorem bE1 (row:List Int)(s:Int): ∀k,(aS3 row s k).length=row.length
 | 0=>rfl
 | k+1=>by unfold aS3;rw[fY];exact bE1 row s k
theorem cO4 (p:List Int)(s:Int): ∀k,(shK p s k).length=p.length
 | 0=>rfl
 | k+1=>by unfold shK;rw[bE1];exact cO4 p s k
theorem c78 (h:k<n):ixN n (k:Int)=some k:=by
 unfold ixN;rw[a7 ad,a7 ad,dU]
theorem dA0 (l:List Int)(k:Nat)(x:Int):(l.map D.int).set k (.int x)=(l.set k x).map D.int:=by rw[List.map_set]
def aN9:Φ:=λds Q=> ∃(p:List Int) (s:Int),ds=[aO p,.int s]/\3<=p.length/\p.length<=5/\s.natAbs<=3/\Q (.pu<|aO<|shK p s<|p.length-1)
def aO0:US:=(aQ (bN 2<|aV aQ8<|a8 (aB 0) aP)<|aQ (jI (jJ<|a8 (uOp M.gSub (jE<|aS 2)<|uC<|.int 1) aP) (cE 3)<|jI (c46<|a8 (uOp M.gSub (jE<|aS 2)<|uC<|.int 2)<|a8 (uOp M.gSub (aB 3)<|uC<|.int 1)<|a8 (sJ<|uC<|.int 1) aP) (cE 4)<|b95 2 (uOp gI (uIx (aS 2)<|aB 4)<|uOp bZ (aB 1)<|uIx (aS 2)<|uOp gI (aB 4)<|uC<|.int 1)<|aB 4)<|d6<|aV eM<|a8 (aB 2) aP)
theorem cI6: Ra aN9 aO0 ["p","s","r","l","a"]:=by
 rintro ds Q ⟨p,s,rfl,h3,h5,hs,h⟩;have lp:(p.map D.int).length=p.length:=aF _;unfold aO0;show(aQ _ _:US) _ [~~~.tup (p.map .int),!s,none,none,none];left;refine bM (p.length-1) (λi=> .int (0+i)) _ ?_
  (λi ρ=> ∃x y,ρ=[~~~.tup (p.map .int),!s,↑((shK p s i).map .int),x,y]) ⟨none,none,rfl⟩ ?_ ?_
 .intro Q' q;simp only[jJ];left;rw[lp];refine⟨ad,?_⟩
  rw[show((p.length:Int)-1).toNat=p.length-1 by lia]
  exact q
 .rintro i ρ hi ⟨x,y,rfl⟩;have lk:=cO4 p s i;have e1:shK p s (i+1)=aS3 (shK p s i) s (p.length-1-i):=rfl;rw[e1];generalize shK p s i=row at lk;have lrow:(row.map D.int).length=row.length:=aF _;left;refine⟨ac,?_⟩
  refine bM (p.length-1-i) (λk=> .int ((p.length:Int)-2-k)) _ ?_
   (λk ρ=> ∃y,ρ=[~~~.tup (p.map .int),!s,↑((aS3 row s k).map .int),!(0+(i:Int)),y]) ⟨y,rfl⟩ ?_ ?_
  .intro Q' q;simp only[c46];left;rw[lrow,lk];refine⟨trivial,ad,?_⟩
   rw[show((p.length:Int)-2-(0+(i:Int)-1)).toNat=p.length-1-i by lia]
   exact q
  .rintro k ρ hk ⟨y,rfl⟩;have l2:=bE1 row s k;left;refine⟨ac,?_⟩
   have a1:(p.length:Int)-2-(k:Int)=((p.length-2-k:Nat):Int):=ad
   have a2:((p.length-2-k:Nat):Int)+1=((p.length-1-k:Nat):Int):=ad
   rw[a1,a2,sL<|show p.length-2-k< (aS3 row s k).length by lia,sL<|show p.length-1-k< (aS3 row s k).length by lia]
   right;rw[c78 (show p.length-2-k< ((aS3 row s k).map D.int).length by rw[aF];lia)]
   refine⟨cmL ad ad,!((p.length-2-k:Nat):Int),?_⟩
   rw[dA0];rw[<-lk];rfl
  .rintro ρ ⟨y,rfl⟩;exact⟨_,_,rfl⟩
 .rintro ρ ⟨x,y,rfl⟩;left;exact h
def cI7:US:=(aQ (fE (uOr (aY3<|cO<|aV d30<|a8 (aB 0)<|a8 (uC<|.ty "tuple") aP)<|cO<|uOp (fH true) (jE<|aS 0)<|aB 1) (d6<|uC<|.bl false) cX)<|d6<|aV c45<|a8 (fJ [] [none,none] 1 (i7<|aB 0) (cE 0) (λρ Q=>Q true ρ)<|aV vL<|a8 (aB 0) aP) aP)
def b10:Φ:=λds Q=> ∃(r:List Int),ds=[aO r,.int (r.length:Int)]/\r.length<=1000/\Q (.pu<|.bl true)
theorem rd_row: Ra b10 cI7 ["f","m"]:=by
 rintro ds Q ⟨r,rfl,hl,h⟩;unfold cI7;simp only[aO];show(aQ _ _:US) _ [~~~.tup (r.map .int),!(r.length:Int)];rw[aL];have two:(d6 (aV c45<|a8 (fJ [] [none,none] 1 (i7<|aB 0) (cE 0) (λρ Q=>Q true ρ)<|aV vL<|a8 (aB 0) aP) aP):US) {nx:=λ_=>Q (.pu .non),rt:=Q} [~~~.tup (r.map .int),!(r.length:Int)]:=by
  rw[nT,gN,fU];refine eV (t0:=0) r.length (λk=>(r.map D.int).getD k .non) [~~~.tup (r.map .int),!(r.length:Int)] ?_ ad (λx l=>[x,↑l]) none rfl (λ_ _ _=>rfl) (λ_ _=>cN _) (λ_ _ _ q=>q) (λ_ _ _=>rfl) (λ_=> .bl true) ?_ ?_
  .intro Q' q;left;rw[aF];exact q
  .intro k l Q' hk q;obtain⟨z,hz⟩:=d73 (ys:=r) (i:=k) (by rw[aF];exact hk)
   rw[hz]at q⊢;left;exact⟨z,rfl,q⟩
  .left
   have e:(List.range r.length).map (λ_=>D.bl true)=(replicate r.length true).map D.bl:=by apply kM<;>simp
   rw[e,lZ];right;have e2:(replicate r.length true).all id=true:=ae
   rw[e2];exact h
 left
 simp only[aF,Bool.not_true,decide_true,uN,dL];exact two
noncomputable def cz (n:Nat)(u:∅):∅:=λj=>if j<n then u j else 0
theorem cz_row (n:Nat)(u:∅):rwF n (cz n u)=rwF n u:=hV λi hi=>a7 hi
theorem dA1 (h:n<=j):cz n u j=0:=a6 ad
theorem dA2 {e:Nat}(h: ∀j,(u j).natAbs<=2^e)(j:Nat):(cz n u j).natAbs<=2^e:=by
 unfold cz;split
 .exact h j
 .exact gA _
noncomputable def mV (k:Int):∅:=λj=>if j=0 then k else 0
theorem aT5 (h:ρ[i]? =some (~~~bR2 C p)):aZ2 "measure" (aB i) ρ Q=Q (.pu<|.int<|d5 4<|bT p) ρ:=by
 unfold aZ2;rw[aS6 h];rfl
noncomputable def tbL (n:Nat)(t:Nat->∅):List (List Int):=(List.range n).map λi=>rwF n (t i)
theorem bE2 (T:Nat->∅):d5 4 (tbL 2 T)=1*T 0 0*(T 1 1)+(-1*T 1 0*(T 0 1)+0):=by kernel_rfl
theorem bR8 (T:Nat->∅):d5 4 (tbL 3 T)=1*T 0 0*(1*T 1 1*(T 2 2)+(-1*T 2 1*(T 1 2)+0))+(-1*T 1 0*(1*T 0 1*(T 2 2)+(-1*T 2 1*(T 0 2)+0))+(1*T 2 0*(1*T 0 1*(T 1 2)+(-1*T 1 1*(T 0 2)+0))+0)):=by kernel_rfl
theorem bR9 (T:Nat->∅):d5 4 (tbL 4 T)=1*T 0 0*(1*T 1 1*(1*T 2 2*(T 3 3)+(-1*T 3 2*(T 2 3)+0))+(-1*T 2 1*(1*T 1 2*(T 3 3)+(-1*T 3 2*(T 1 3)+0))+(1*T 3 1*(1*T 1 2*(T 2 3)+(-1*T 2 2*(T 1 3)+0))+0)))+(-1*T 1 0*(1*T 0 1*(1*T 2 2*(T 3 3)+(-1*T 3 2*(T 2 3)+0))+(-1*T 2 1*(1*T 0 2*(T 3 3)+(-1*T 3 2*(T 0 3)+0))+(1*T 3 1*(1*T 0 2*(T 2 3)+(-1*T 2 2*(T 0 3)+0))+0)))+(1*T 2 0*(1*T 0 1*(1*T 1 2*(T 3 3)+(-1*T 3 2*(T 1 3)+0))+(-1*T 1 1*(1*T 0 2*(T 3 3)+(-1*T 3 2*(T 0 3)+0))+(1*T 3 1*(1*T 0 2*(T 1 3)+(-1*T 1 2*(T 0 3)+0))+0)))+(-1*T 3 0*(1*T 0 1*(1*T 1 2*(T 2 3)+(-1*T 2 2*(T 1 3)+0))+(-1*T 1 1*(1*T 0 2*(T 2 3)+(-1*T 2 2*(T 0 3)+0))+(1*T 2 1*(1*T 0 2*(T 1 3)+(-1*T 1 2*(T 0 3)+0))+0)))+0))):=by kernel_rfl
noncomputable def nrm (p:List Int)(n:Nat)(u:∅):Int:=d5 4 (tbL n<|itT p n u)
def vX (p:List Int):∅:=λj=>(1+(j:Int))*p.getD (1+j) 0
theorem bS0 {v:∅}(n2:2<=n)(n4:n<=4)(hu: ∀j,n<=j->u j=0)(hv: ∀j,n<=j->v j=0):rwF n (eU p n u v)=rwF n (eU p n v u):=by
 rw[<-bY8 n2 n4 hu hv,<-bY8 n2 n4 hv hu,show conv u v n=conv v u n from funext λm=>bQ9 hu hv m]
noncomputable def tnF:∅:=λj=>if j=1 then 1 else 0
theorem cO5 (n2:2<=n)(h:n<=j):tnF j=0:=a6 ad
theorem cW0 (e j:Nat):(tnF j).natAbs<=2^e:=aI (show(tnF j).natAbs<=1 by unfold tnF;split<;>decide) Nat.one_le_two_pow
theorem tim_tn (n2:2<=n)(n4:n<=4)(j:Nat):eU p n u tnF j=ttF p n u j:=by
 show((List.range n).map λi=>tnF i*itT p n u i j).sum=ttF p n u j
 match n,n2,n4 with
 | 2,_,_=>simp[bL,tnF,itT]
 | 3,_,_=>simp[bL,tnF,itT]
 | 4,_,_=>simp[bL,tnF,itT]
theorem ttF_cz (n1:1<=n)(hj:j<n):ttF p n (cz n u) j=ttF p n u j:=by
 unfold ttF cz;rw[a7<|show n-1<n by omega,a7<|show j-1<n by omega]
theorem tn_row (n2:2<=n)(n4:n<=4):rwF n (eU p n (cz n u) tnF)=rwF n (ttF p n u):=hV λj hj=>by rw[tim_tn n2 n4,ttF_cz ad hj]
theorem nt_row (n2:2<=n)(n4:n<=4):rwF n (eU p n tnF<|cz n u)=rwF n (ttF p n u):=by
 rw[bS0 n2 n4 (λj hj=>cO5 n2 hj) λj hj=>dA1 hj,tn_row n2 n4]
theorem cW1 {s:Nat}{z:Int}(c:Nat)(hz:z=(c:Int))(n:Nat)(hn:n<=4)(hs:ρ[s]? =some (!(n:Int)))(h:Q (.pu<|aO<|rwF n λk=>if k=c then 1 else 0) ρ) :
  aV eM (a8 (fJ [] [none,none] 1 (jJ<|a8 (aB s) aP) (cE 0) (λρ Q=>Q true ρ)<|aV b96<|a8 (uOp (fH false) (aB 0)<|uC<|.int z) aP) aP) ρ Q:=by
 subst hz;rw[gN,fU];refine eV (t0:=0) n (λk=> .int (0+(k:Int))) ρ (λQ' q=> ?_) ad (λx l'=>[x,↑l']) none rfl (λ_ _ _=>rfl) (λ_ _=>cN _) (λ_ _ _ q=>q) (λ_ _ _=>rfl) (λk=> .int (if k=c then 1 else 0)) ?_ ?_
 .unfold jJ;rw[fU,aS6 hs];left;refine⟨⟨ad,ad⟩,?_⟩
  rw[dU];exact q
 .intro k l' Q' hk q';rw[bS]at q'⊢;left
  by_cases e:k=c
  .subst e
   exists q'
  .rw[a6 e]at q';rw[a6<|show ¬(k:Int)=(c:Int)by lia]
   exact q'
 .rw[bC1];exact h
theorem dA3 (i n:Nat)(t:Nat->∅):tbF i n t++[aO<|rwF n<|t i]=tbF (i+1) n t:=by
 unfold tbF;rw[bL,bV];rfl
def bE3:Φ:=λds Q=> ∃(p:List Int) (n e:Nat) (u:∅),ds=[aO p,aO<|rwF n u]/\dO p/\p.length=n+1/\e<=1900/\(∀j,(u j).natAbs<=2^e)/\Q (.ow<|tbF n n<|itT p n u)
def bS1:US:=(tP 4)
def bS2:US:=(aQ (jI (jJ<|a8 (aB 2) aP) (cE 6)<|aQ (aQ4 4<|aB 5)<|bN 5<|aV bD9<|a8 (aB 0)<|a8 (aB 3)<|a8 (aB 5) aP) bS1)
def bS3:US:=(aQ (bN 5<|aV eM<|a8 (aB 1) aP) bS2)
def b11:US:=(aQ (bN 4<|lY aP) bS3)
def b12:US:=(aQ (bN 3<|aV eM<|a8 (fJ [] [none,none] 1 (jJ<|a8 (aB 2) aP) (cE 0) (λρ Q=>Q true ρ)<|aV b96<|a8 (uOp (fH false) (aB 0)<|uC<|.int 1) aP) aP) b11)
def bE4:US:=(aQ (bN 2<|uOp M.gSub (jE<|aS 0)<|uC<|.int 1) b12)
theorem dA4: Ra bE3 bE4 ["p","x","m","t","r","w","k"]:=by
 rintro ds Q ⟨p,n,e,u,rfl,rp,hn,he,hu,h⟩;have lo:=rp.ok.lo;have hi:=rp.ok.hi;have n2:2<=n:=ad
 have n4:n<=4:=ad
 unfold bE4;show(aQ _ _:US) _ [~~~.tup (p.map .int),~~~aO (rwF n u),none,none,none,none,none];rw[aL];left;rw[aF,show(p.length:Int)-1=(n:Int)by lia]
 change b12 _ [~~~aO p,~~~aO (rwF n u),!(n:Int),none,none,none,none]
 unfold b12;rw[aL,pJ];refine cW1 1 rfl n n4 rfl ?_;show b11 _ [~~~aO p,~~~aO (rwF n u),!(n:Int),~~~aO (rwF n tnF),none,none,none];unfold b11;rw[aL];left;refine⟨ac,?_⟩
 unfold bS3;rw[aL];simp only[aO];left;unfold bS2;rw[aL];refine bM n (λi=> .int (0+(i:Int))) _ (λQ' q=> ?_)
  (λi ρ=> ∃x,ρ=[~~~aO p,~~~aO (rwF n u),!(n:Int),~~~aO (rwF n tnF),↑(tbF i n (itT p n u)),~~~aO (rwF n (itT p n u i)),x]) ⟨none,rfl⟩ ?_ ?_
 .left
  refine⟨⟨ad,ad⟩,?_⟩
  rw[dU];exact q
 .rintro i ρ hi' ⟨x,rfl⟩;left;rw[dN9];refine⟨ac,aZ (show i<10 by lia) ac,p,n,e+27,tnF,cz n<|itT p n u i,?_,rp,hn,ad,λj=>cW0 _ j,?_,λj hj=>cO5 n2 hj,λj hj=>dA1 hj,?_⟩
  .rw[cz_row]
  .exact dA2 λj=>aI (b09 (n:=n) rp.ok.small hu i j) (qO ac ad)
  .rw[nt_row n2 n4,dA3];exact⟨_,rfl⟩
 .rintro ρ ⟨x,rfl⟩;right;unfold bS1;left;exact h
theorem p6:(2:Nat)^600<=2^1000:=qO ac ac
theorem ps_tt (u:∅)(r:Int)(n1:1<=n)(top:p.getD n 0=1):ps (ttF p n u) r n=r*ps u r n-u (n-1)*ps (fOf p) r (n+1):=by
 obtain⟨m,rfl⟩: ∃m,n=m+1:=⟨n-1,ad⟩
 have e1: ∀k,ps (ttF p (m+1) u) r k=ps (shF u 1) r k-u m*ps (fOf p) r k:=by
  intro k
  induction k with
  | zero=>simp[ps]
  | succ k ih=>
   show ps _ r k+ttF p (m+1) u k*r^k=(ps (shF u 1) r k+shF u 1 k*r^k)-u m*(ps (fOf p) r k+fOf p k*r^k)
   rw[ih];have e:ttF p (m+1) u k=shF u 1 k-u m*fOf p k:=by
    unfold ttF shF fOf;rw[gW]
    by_cases z:k=0
    .rw[a7 z,a6 ad]
    .rw[a6 z,a7 ad]
   rw[e]
   grind
 rw[e1<|m+1];have e2:ps (shF u 1) r (m+1)=r*ps u r m:=by
  have:=aT0 u r 1 m;rw[show 1+m=m+1 by lia,v8]at this
  exact this
 have e3:ps u r (m+1)=ps u r m+u m*r^m:=rfl;have e4:ps (fOf p) r (m+1+1)=ps (fOf p) r (m+1)+1*r^(m+1):=by
  show _+fOf p (m+1)*_=_
  rw[show fOf p (m+1)=1 from top]
 rw[e2,e3,e4,gW,gM]
 grind
theorem dO8 {c:Nat}{w:∅}(h:c<=n)(hz: ∀j,c<=j->j<n->w j=0):rwF c w++replicate (n-c) 0=rwF n w:=by
 apply aM1
 intro j
 by_cases h1:j<c
 .rw[uF (by rw[mT];exact h1),wX h1,wX ad]
 .rw[qF (by rw[mT];lia),mT,aJ3]
  by_cases h2:j<n
  .rw[a7 ad,wX h2,hz j ad h2]
  .rw[a6 ad,kH (by rw[mT];lia)]
theorem Pr.no_zero {p:Int}(pp:Pr p)(h:a*b%p=0):a%p=0\/b%p=0:=by
 have p2:=pp.lo
 by_cases c:a%p=0
 .exact .inl c
 .refine .inr ?_
  have a0:=cH a (show p≠0 by lia)
  have a1:=cG a (show 0<p by lia)
  have iv:=pp.inv (a%p) ad a1
  generalize bC5 (a%p) p (p.toNat-2)=t at iv;have e:b%p=(t*(a%p))%p*b%p:=by rw[iv,kS]
  rw[e,emL,kQ,<-emR,emL a b p,h,aX,cB]
theorem cI8 {p:Int}(p2:2<=p)(a:Nat×∅)(z:Int):va p a z%p=va p a z:=jR _ _
theorem bY9 {p:Int}{a g:Nat×∅}(hg: ∀j,g.1<j->g.2 j=0){z:Int}(h:va p a z=0\/va p g z=0): ∀k,(va p a z=0\/1<=k)->va p (powT p a g k) z=0
 | 0,hk=>by
  rcases hk with hk|hk
  .exact hk
  .omega
 | k+1,_=>by
  show va p (tm p (powT p a g k) g) z=0
  rw[c70 hg];rcases h with h|h
  .rw[bY9 hg (.inl h) k<|.inl h,cJ,cB]
  .rw[h,aX,cB]
theorem cO6 {p:Int}{z:Int}: ∀(l:List ((Nat×∅)×Nat)) (a:Nat×∅),(∀x∈l,(∀j,x.1.1<j->x.1.2 j=0)/\1<=x.2)->(va p a z=0\/ ∃x∈l,va p x.1 z=0)->va p (allT p a l) z=0
 | [],a,_,h=>by
  rcases h with h| ⟨x,hx,_⟩
  .exact h
  .cases hx
 | y::l,a,hl,h=>by
  have hy:=hl y (cP ..);refine cO6 l (powT p a y.1 y.2) (λx hx=>hl x (bH _ hx)) ?_
  rcases h with h| ⟨x,hx,h⟩
  .exact .inl (bY9 hy.1 (.inl h) _<|.inl h)
  .rcases bB.mp hx with rfl|hx
   .exact .inl (bY9 hy.1 (.inr h) _<|.inr hy.2)
   .exact .inr ⟨x,hx,h⟩
theorem cO7 {p:Int}(pp:Pr p){a g:Nat×∅}(hg: ∀j,g.1<j->g.2 j=0){z:Int}(h:va p a z≠0)(h2:va p g z≠0): ∀k,va p (powT p a g k) z≠0
 | 0=>h
 | k+1=>by
  show va p (tm p (powT p a g k) g) z≠0
  rw[c70 hg];intro e;rcases pp.no_zero e with e|e
  .rw[cI8 pp.lo]at e;exact cO7 pp hg h h2 k e
  .rw[cI8 pp.lo]at e;exact h2 e
theorem b77 {p:Int}(pp:Pr p){z:Int}: ∀(l:List ((Nat×∅)×Nat)) (a:Nat×∅),(∀x∈l,∀j,x.1.1<j->x.1.2 j=0)->va p a z≠0->(∀x∈l,va p x.1 z≠0)->va p (allT p a l) z≠0
 | [],a,_,h,_=>h
 | y::l,a,hl,h,h2=>b77 pp l (powT p a y.1 y.2) (λx hx=>hl x (bH _ hx)) (cO7 pp (hl y<|cP ..) h (h2 y<|cP ..) _) λx hx=>h2 x (bH _ hx)
theorem cI9 {p:Int}(p2:2<=p)(mg:MP p g.1 g.2)(h1:g.1=1)(z:Int):va p g z=(z+g.2 0)%p:=by
 have e:g.2 1=1:=by have:=mg.top;rw[h1]at this;exact this
 unfold va;rw[h1];show(0+g.2 0*z^0+g.2 1*z^1)%p=_;rw[e,cR,v8]
 congr 1
 lia
def cJ0 (q:Int)(F:Nat×∅)(c:Int)(k:Nat):Prop:= ∃H:Nat×∅,MP q H.1 H.2/\F=powT q H (dR c) k/\va q H (-c)≠0
noncomputable def hb (r q:Int)(f:∅)(m:Nat):∅
 | 0=>0
 | k+1=>(hb r q f m k*r+f (m-k))%q
theorem dO9 {p:Int}(p2:2<=p)(mg:MP p g.1 g.2){l:List ((Nat×∅)×Nat)}{a:Nat×∅}(ma:MP p a.1 a.2)(hl: ∀x∈l,MP p x.1.1 x.1.2):allT p (tm p a g) l=tm p (allT p a l) g:=by
 rw[sB ma.hi mg.hi,b02 p2 l ma hl,sB mg.hi (MP.allT p2 l ma hl).hi]
theorem aT6 {p:Int}(p2:2<=p){g:Nat×∅}(mg:MP p g.1 g.2){l:List ((Nat×∅)×Nat)}{a:Nat×∅}(ma:MP p a.1 a.2)(hl: ∀x∈l,MP p x.1.1 x.1.2): ∀k,allT p (powT p a g k) l=powT p (allT p a l) g k
 | 0=>rfl
 | k+1=>by
  show allT p (tm p (powT p a g k) g) l=tm p (powT p (allT p a l) g k) g
  rw[dO9 p2 mg (MP.powT p2 ma mg k) hl,aT6 p2 mg ma hl k]
theorem cO8: ∀r:List Int,ltL r r=false
 | []=>rfl
 | a::r=>by unfold ltL;rw[a7 rfl];exact cO8 r
theorem bZ0 {x y:(Nat×∅)×Nat}(h:ltP x y):x.1≠y.1:=by
 intro e;unfold ltP at h;rw[e]at h;rcases h with h|h
 .lia
 .rw[cO8]at h;exact absurd h.2 ac
theorem c79 (pq:Pr q)(c0:0<=c)(c1:c<q)(mg:MP q g.1 g.2)(d1:1<=g.1)(nr:2<=g.1->NoR q g)(h:g≠dR c):va q g (-c)≠0:=by
 have q2:=pq.lo
 by_cases d2:g.1=1
 .rw[cI9 q2 mg d2];intro z;have r:=mg.rng 0;obtain⟨k,hk⟩:=b7 z;have k0:k=0:=by
   rcases Int.lt_trichotomy k 0 with z|z|z
   .have:q*k<=q*(-1):=uD ad ad
    lia
   .exact z
   .have:q*1<=q*k:=uD ad ad
    lia
  rw[k0,aX]at hk;refine h ?_;rw[b08 mg d2,show g.2 0=c by lia]
 .have:=nr ad c.toNat ad
  rw[qT c0]at this;exact this
theorem bZ1 (pq:Pr q)(mF:MP q F.1 F.2)(sp:SP q F xs)(c0:0<=c)(c1:c<q) :
  (∀x∈xs,x.1=dR c->cJ0 q F c x.2)/\((∀x∈xs,x.1≠dR c)->cJ0 q F c 0):=by
 have q2:=pq.lo;have mx: ∀x∈xs,MP q x.1.1 x.1.2:=λx hx=>(sp.mem x hx).1
 have nz: ∀x∈xs,x.1≠dR c->va q x.1 (-c)≠0:=λx hx h=>c79 pq c0 c1 (mx x hx) (sp.mem x hx).2.1 (sp.mem x hx).2.2.2.2.2.1 h
 have v1:va q gJ (-c)≠0:=by
  show(0+(if 0=0 then(1:Int)else 0)*(-c)^0)%q≠0
  rw[a7 rfl,cR,lN,bS,dE ac ad]
  decide
 refine⟨λx hx e=> ?_,λh=>⟨F,mF,rfl,?_⟩⟩
 .obtain⟨l1,l2,rfl⟩:=aL7 hx;have od:=sp.ord;rw[aL0,aL6]at od;have m1: ∀y∈l1,MP q y.1.1 y.1.2:=λy hy=>mx y (bU.mpr<|.inl hy)
  have m2: ∀y∈l2,MP q y.1.1 y.1.2:=λy hy=>mx y (bU.mpr<|.inr<|bH _ hy)
  have mA:=MP.allT q2 l1 (MP.one q2) m1;refine⟨allT q (allT q gJ l1) l2,MP.allT q2 l2 mA m2,?_,?_⟩
  .rw[<-sp.prod,mD];show allT q (powT q (allT q gJ l1) x.1 x.2) l2=_;rw[aT6 q2 (mx x hx) mA m2,e]
  .rw[<-mD];refine b77 pq _ _ (λy hy=> ?_) v1 λy hy=> ?_
   .rcases bU.mp hy with hy|hy
    .exact(m1 y hy).hi
    .exact(m2 y hy).hi
   .rcases bU.mp hy with hy|hy
    .exact nz y (bU.mpr<|.inl hy) λz=>bZ0 (od.2.2 y hy x<|cP ..) (z.trans e.symm)
    .exact nz y (bU.mpr<|.inr<|bH _ hy) λz=>bZ0 (od.2.1.1 y hy) (e.trans z.symm)
 .rw[<-sp.prod];exact b77 pq xs gJ (λy hy=>(mx y hy).hi) v1 λy hy=>nz y hy (h y hy)
noncomputable def dA (c b:Int):Int:=b*b-4*c
noncomputable def dB (d c b:Int):Int:=b*b*c*c-4*c*c*c-4*b*b*b*d-27*d*d+18*b*c*d
noncomputable def dC (e d c b:Int):Int:= -27*b*b*b*b*e*e+18*b*b*b*c*d*e-4*b*b*b*d*d*d-4*b*b*c*c*c*e+b*b*c*c*d*d+144*b*b*c*e*e-6*b*b*d*d*e-80*b*c*c*d*e+18*b*c*d*d*d-192*b*d*e*e+16*c*c*c*c*e-4*c*c*c*d*d-128*c*c*e*e+144*c*d*d*e-27*d*d*d*d+256*e*e*e
theorem hank4 (e d c b:Int):d5 4 (bT [e,d,c,b,1])=dC e d c b:=by
 have h:=id4 e d c b;have h2:27*dC e d c b=27*d5 4 (bT [e,d,c,b,1]):=by
  rw[h];unfold dC
  grind
 lia
theorem dB_lin (r u v:Int):dB (r*v) (v+r*u) (u+r)=dA v u*((r*r-u*r+v)*(r*r-u*r+v)):=by unfold dB dA;grind
theorem dC_lin (r u v w:Int):dC (r*w) (w+r*v) (v+r*u) (u+r)=dB w v u*((-(r*r*r)+u*r*r-v*r+w)*(-(r*r*r)+u*r*r-v*r+w)):=by unfold dB dC;grind
theorem dC_qu (u v s t:Int):dC (v*t) (u*t+v*s) (v+u*s+t) (u+s)=dA v u*dA t s*(((v-t)*(v-t)-(u-s)*(s*v-u*t))*((v-t)*(v-t)-(u-s)*(s*v-u*t))):=by unfold dA dC;grind
theorem Pr.or (pq:Pr q)(h:q∣a*b):q∣a\/q∣b:=by
 rcases pq.no_zero (bP h)with h|h
 .exact .inl (b7 h)
 .exact .inr (b7 h)
theorem Pr.sq (pq:Pr q)(h:q∣a*a):q∣a:=(pq.or h).elim id id
theorem Pr.cut (pq:Pr q)(h:q∣a*b)(n: ¬q∣a):q∣b:=(pq.or h).resolve_left n
theorem Pr.sol (pq:Pr q)(h: ¬q∣a)(b:Int): ∃z,q∣a*z-b:=by
 have p2:=pq.lo;have a0:=cH a (show q≠0 by lia)
 have a1:=cG a (show 0<q by lia)
 have ne:a%q≠0:=λe=>h (b7 e)
 have iv:=pq.inv (a%q) ad a1
 generalize bC5 (a%q) q (q.toNat-2)=t at iv;have e1:=qL (t*(a%q)) q;have e2:=qL a q;rw[iv]at e1;refine⟨t*b,t*(a/q)*b+t*(a%q)/q*b,?_⟩;have:a*(t*b)-b=(a%q+q*(a/q))*(t*b)-b:=by rw[e2]
 rw[this];have:t*(a%q)*b=(1+q*(t*(a%q)/q))*b:=by rw[e1]
 grind
theorem Pr.no (pq:Pr q)(h:5<=q): ¬q∣2/\ ¬q∣3/\ ¬q∣4:=
 ⟨λh=>by have:=iL ac h;lia,λh=>by have:=iL ac h;lia,λh=>by have:=iL ac h;lia⟩
theorem gC (pq:Pr q)(h: ¬q∣a)(h2: ¬q∣b): ¬q∣a*b:=λh3=>(pq.or h3).elim h h2
theorem dv2 (h:q∣a)(h2:q∣b)(he:e=a*x+b*y):q∣e:=by
 rw[he];exact dvd_add (nX h) (nX h2)
theorem dv3 {z:Int}(h:q∣a)(h2:q∣b)(h3:q∣c)(he:e=a*x+b*y+c*z):q∣e:=by
 rw[he];exact dvd_add (dvd_add (nX h)<|nX h2) (nX h3)
theorem dv1 (h:q∣a)(he:e=a*x):q∣e:=by rw[he];exact nX h
theorem root2 (pq:Pr q)(h:q∣dA c b): ∃z,q∣z*z+b*z+c:=by
 by_cases c2:q∣2
 .have e:q=2:=by have:=iL ac c2;have:=pq.lo;lia
  subst e;refine⟨c,?_⟩;have hb:(2:Int)∣b:=pq.sq (dv2 (x:=1) (y:=2*c) h (uZ 2) (by unfold dA;grind))
  rcases Int.emod_two_eq c with e|e
  .exact dv2 (x:=c+b+1) (y:=0) (b7 e) (uZ 2) (by grind)
  .exact dv2 (a:=c+1) (x:=c) (y:=c) ad hb (by grind)
 .obtain⟨z,hz⟩:=pq.sol c2 (-b);refine⟨z,pq.cut (a:=2*2) ?_<|gC pq c2 c2⟩;exact dv2 (x:=2*z+b) (y:= -1) hz h (by unfold dA;grind)
theorem root3 (pq:Pr q)(q5:5<=q){d:Int}(h:q∣dB d c b): ∃z,q∣z*z*z+b*z*z+c*z+d:=by
 obtain⟨n2,n3,_⟩:=pq.no q5
 by_cases cA:q∣b*b-3*c
 .have hN:q∣2*b*b*b-9*b*c+27*d:=pq.sq (dv2 (x:=4*(b*b-3*c)*(b*b-3*c)) (y:= -27) cA h (by unfold dB;grind))
  obtain⟨z,hz⟩:=pq.sol n3 (-b);refine⟨z,pq.cut (a:=3*3*3) ?_<|gC pq (gC pq n3 n3) n3⟩;exact dv2 (x:=9*z*z+6*b*z-2*b*b+9*c) (y:=1) hz hN (by grind)
 .obtain⟨z,hz⟩:=pq.sol (gC pq n2 cA) (9*d-b*c);have n:=gC pq n2 cA;refine⟨z,pq.cut (a:=2*(b*b-3*c)*(2*(b*b-3*c))*(2*(b*b-3*c))) ?_<|gC pq (gC pq n n) n⟩;obtain⟨A,eA⟩: ∃A,A=2*(b*b-3*c):=⟨_,rfl⟩;obtain⟨B,eB⟩: ∃B,B=9*d-b*c:=⟨_,rfl⟩;rw[<-eA,<-eB]at hz;rw[<-eA];have h1:q∣B*B*B+b*A*B*B+c*A*A*B+d*A*A*A:=dv1 (x:= -(2*b*b*b-9*b*c+27*d)) h (by rw[eA,eB];unfold dB;grind)
  exact dv2 (x:=A*A*z*z+A*z*B+B*B+b*A*(A*z+B)+c*A*A) (y:=1) hz h1 (by grind)
theorem root4d (pq:Pr q)(q5:5<=q){Q R:Int}(h:q∣4*(12*R+P*P)*(12*R+P*P)*(12*R+P*P)-(72*P*R-27*Q*Q-2*P*P*P)*(72*P*R-27*Q*Q-2*P*P*P)) :
  (∃y,q∣y*y*y*y+P*y*y+Q*y+R)\/ ∃m,q∣Q/\q∣2*m-P/\q∣R-m*m:=by
 obtain⟨n2,n3,_⟩:=pq.no q5;obtain⟨I,eI⟩: ∃I,I=12*R+P*P:=⟨_,rfl⟩;obtain⟨J,eJ⟩: ∃J,J=72*P*R-27*Q*Q-2*P*P*P:=⟨_,rfl⟩;rw[<-eI,<-eJ]at h;obtain⟨s,h3,h4⟩: ∃s,q∣s*s-I/\q∣2*I*s-J:=by
  by_cases cI:q∣I
  .have hJ:q∣J:=pq.sq (dv2 (x:=4*I*I) (y:= -1) cI h<|by grind)
   exact⟨0,dv1 (x:= -1) cI<|by grind,dv1 (x:= -1) hJ<|by grind⟩
  .obtain⟨s,hs⟩:=pq.sol (gC pq n2 cI) J;refine⟨s,pq.cut (a:=2*I*(2*I)) ?_<|gC pq (gC pq n2 cI)<|gC pq n2 cI,hs⟩;exact dv2 (x:=2*I*s+J) (y:= -1) hs h (by grind)
 have h2:q∣27*Q*Q+2*(s+P)*(s-2*P)*(s-2*P):=dv2 (x:= -2*s+6*P) (y:=1) (a:=I-s*s) (b:=2*I*s-J) (dv1 (x:= -1) h3<|by grind) h4 (by rw[eJ,eI];grind)
 by_cases cK:q∣s-2*P
 .have hQ:q∣Q:=pq.sq (pq.cut (a:=3*3*3) (dv2 (x:=1) (y:= -(2*(s+P)*(s-2*P))) h2 cK<|by grind)<|gC pq (gC pq n3 n3) n3)
  obtain⟨m,hm⟩:=pq.sol n2 P;refine .inr ⟨m,hQ,hm,pq.cut (a:=2*2*3) ?_<|gC pq (gC pq n2 n2) n3⟩;exact dv3 (x:= -1) (y:=s+2*P) (z:= -3*(2*m+P)) h3 cK hm (by rw[eI];grind)
 .obtain⟨y,hy⟩:=pq.sol (gC pq n2 cK) (3*Q);have hy2:q∣6*y*y+s+P:=pq.cut (a:=2*((s-2*P)*(s-2*P))) (dv2 (x:=3*(2*(s-2*P)*y+3*Q)) (y:=1) hy h2<|by grind) (gC pq n2<|gC pq cK cK)
  refine .inl ⟨y,pq.cut (a:=2*2*(3*3)) ?_<|gC pq (gC pq n2 n2)<|gC pq n3 n3⟩
  exact dv3 (x:=6*y*y-s-P+6*P+4*(s-2*P)) (y:= -12*y) (z:= -3) hy2 hy h3 (by rw[eI];grind)
theorem root4 (pq:Pr q)(q5:5<=q){d:Int}(h:q∣dC e d c b) :
  (∃z,q∣z*z*z*z+b*z*z*z+c*z*z+d*z+e)\/ ∃u v,q∣2*u-b/\q∣u*u+2*v-c/\q∣2*u*v-d/\q∣v*v-e:=by
 obtain⟨n2,n3,n4⟩:=pq.no q5;obtain⟨P,eP⟩: ∃P,P=16*c-6*b*b:=⟨_,rfl⟩;obtain⟨Q,eQ⟩: ∃Q,Q=64*d-32*b*c+8*b*b*b:=⟨_,rfl⟩;obtain⟨R,eR⟩: ∃R,R=256*e-64*b*d+16*b*b*c-3*b*b*b*b:=⟨_,rfl⟩;have hD:q∣4*(12*R+P*P)*(12*R+P*P)*(12*R+P*P)-(72*P*R-27*Q*Q-2*P*P*P)*(72*P*R-27*Q*Q-2*P*P*P):=dv1 (x:=452984832) h (by rw[eP,eQ,eR];unfold dC;grind)
 have n16:=gC pq n4 n4;rcases root4d pq q5 hD with⟨y,hy⟩| ⟨m,hQ,hm,hR⟩
 .obtain⟨z,hz⟩:=pq.sol n4 (y-b);refine .inl ⟨z,pq.cut (a:=4*4*(4*4)) ?_<|gC pq n16 n16⟩;obtain⟨Y,eY⟩: ∃Y,Y=4*z+b:=⟨_,rfl⟩;have hz':q∣Y-y:=by rw[eY,show 4*z+b-y=4*z-(y-b)by lia];exact hz
  exact dv2 (x:=Y*Y*Y+Y*Y*y+Y*y*y+y*y*y+P*(Y+y)+Q) (y:=1) hz' hy (by rw[eP,eQ,eR,eY];grind)
 .obtain⟨u,hu⟩:=pq.sol n2 b;obtain⟨v,hv⟩:=pq.sol n16 (b*b+m);refine .inr ⟨u,v,hu,pq.cut (a:=4*4) ?_ n16,pq.cut (a:=4*4*4) ?_<|gC pq n16 n4,pq.cut (a:=4*4*(4*4)) ?_<|gC pq n16 n16⟩
  .exact dv3 (x:=4*(2*u+b)) (y:=2) (z:=1) hu hv hm (by rw[eP];grind)
  .exact dv3 (a:=4*(2*u-b)) (x:=4*4*v) (y:=4*b) (z:=1) (dv1 (x:=4) hu<|by grind) hv (dv2 (x:=2*b) (y:= -1) hm hQ rfl) (by rw[eP,eQ];grind)
  .exact dv3 (x:=4*4*v+b*b+m) (y:= -1) (z:=1) hv hR (dv2 (x:=b*b) (y:= -b) hm hQ rfl) (by rw[eP,eQ,eR];grind)
theorem sm3_2: ∀d c b:Fin 2,dB (d.1:Int) (c.1:Int) (b.1:Int)%2=0-> ∃z:Fin 2,((z.1:Int)*z.1*z.1+b.1*z.1*z.1+c.1*z.1+d.1)%2=0:=af
theorem sm3_3: ∀d c b:Fin 3,dB (d.1:Int) (c.1:Int) (b.1:Int)%3=0-> ∃z:Fin 3,((z.1:Int)*z.1*z.1+b.1*z.1*z.1+c.1*z.1+d.1)%3=0:=af
theorem sm4_2: ∀e d c b:Fin 2,dC (e.1:Int) (d.1:Int) (c.1:Int) (b.1:Int)%2=0->(∃z:Fin 2,((z.1:Int)*z.1*z.1*z.1+b.1*z.1*z.1*z.1+c.1*z.1*z.1+d.1*z.1+e.1)%2=0)\/ ∃u v:Fin 2,(2*(u.1:Int)-b.1)%2=0/\((u.1:Int)*u.1+2*v.1-c.1)%2=0/\(2*(u.1:Int)*v.1-d.1)%2=0/\((v.1:Int)*v.1-e.1)%2=0:=af
theorem sm4_3: ∀e d c b:Fin 3,dC (e.1:Int) (d.1:Int) (c.1:Int) (b.1:Int)%3=0->(∃z:Fin 3,((z.1:Int)*z.1*z.1*z.1+b.1*z.1*z.1*z.1+c.1*z.1*z.1+d.1*z.1+e.1)%3=0)\/ ∃u v:Fin 3,(2*(u.1:Int)-b.1)%3=0/\((u.1:Int)*u.1+2*v.1-c.1)%3=0/\(2*(u.1:Int)*v.1-d.1)%3=0/\((v.1:Int)*v.1-e.1)%3=0:=af
theorem Pr.big (pq:Pr q):q=2\/q=3\/5<=q:=by
 have:=pq.lo
 by_cases c:q=4
 .subst c;exact absurd (pq.inv 2 ac ac) af
 .omega
theorem xD (h:0<=b/\b< (k:Int)): ∃x:Fin k,(x.1:Int)=b:=⟨⟨b.toNat,aa⟩,qT h.1⟩
theorem root3' (pq:Pr q){d:Int}(hd:0<=d/\d<q)(hc:0<=c/\c<q)(hb:0<=b/\b<q)(h:q∣dB d c b): ∃z,q∣z*z*z+b*z*z+c*z+d:=by
 rcases pq.big with rfl|rfl|q5
 .obtain⟨d,rfl⟩:=xD hd;obtain⟨c,rfl⟩:=xD hc;obtain⟨b,rfl⟩:=xD hb;obtain⟨z,hz⟩:=sm3_2 d c b (bP h);exact⟨_,b7 hz⟩
 .obtain⟨d,rfl⟩:=xD hd;obtain⟨c,rfl⟩:=xD hc;obtain⟨b,rfl⟩:=xD hb;obtain⟨z,hz⟩:=sm3_3 d c b (bP h);exact⟨_,b7 hz⟩
 .exact root3 pq q5 h
theorem root4' (pq:Pr q){d:Int}(he:0<=e/\e<q)(hd:0<=d/\d<q)(hc:0<=c/\c<q)(hb:0<=b/\b<q)(h:q∣dC e d c b) :
  (∃z,q∣z*z*z*z+b*z*z*z+c*z*z+d*z+e)\/ ∃u v,q∣2*u-b/\q∣u*u+2*v-c/\q∣2*u*v-d/\q∣v*v-e:=by
 rcases pq.big with rfl|rfl|q5
 .obtain⟨e,rfl⟩:=xD he;obtain⟨d,rfl⟩:=xD hd;obtain⟨c,rfl⟩:=xD hc;obtain⟨b,rfl⟩:=xD hb;rcases sm4_2 e d c b (bP h)with⟨z,hz⟩| ⟨u,v,h1,h2,h3,h4⟩
  .exact .inl ⟨_,b7 hz⟩
  .exact .inr ⟨_,_,b7 h1,b7 h2,b7 h3,b7 h4⟩
 .obtain⟨e,rfl⟩:=xD he;obtain⟨d,rfl⟩:=xD hd;obtain⟨c,rfl⟩:=xD hc;obtain⟨b,rfl⟩:=xD hb;rcases sm4_3 e d c b (bP h)with⟨z,hz⟩| ⟨u,v,h1,h2,h3,h4⟩
  .exact .inl ⟨_,b7 hz⟩
  .exact .inr ⟨_,_,b7 h1,b7 h2,b7 h3,b7 h4⟩
 .exact root4 pq q5 h
theorem cgA {d:Int}(h:q∣a-b)(h2:q∣c-d):q∣a+c-(b+d):=dv2 (x:=1) (y:=1) h h2 (by grind)
theorem cgS {d:Int}(h:q∣a-b)(h2:q∣c-d):q∣a-c-(b-d):=dv2 (x:=1) (y:= -1) h h2 (by grind)
theorem cgM {d:Int}(h:q∣a-b)(h2:q∣c-d):q∣a*c-b*d:=dv2 (x:=c) (y:=b) h h2 (by grind)
theorem cgR (a:Int):q∣a-a:=by rw[Int.sub_self];exact v4 q
theorem cgE (a:Int):q∣a%q-a:=by
 have:=qL a q;exact⟨-(a/q),by grind⟩
theorem cgT (h:q∣a-b):q∣a↔q∣b:=⟨λg=>dv2 (x:=1) (y:= -1) g h (by grind),λg=>dv2 (x:=1) (y:=1) g h (by grind)⟩
theorem dU3 (hc:q∣c-c')(hb:q∣b-b'):q∣dA c b-dA c' b':=by
 unfold dA
 repeat' (with_reducible (first|assumption|apply cgM|apply cgA|apply cgS|exact cgR _))
theorem dU4 {d:Int}(hd:q∣d-d')(hc:q∣c-c')(hb:q∣b-b'):q∣dB d c b-dB d' c' b':=by
 unfold dB
 repeat' (with_reducible (first|assumption|apply cgM|apply cgA|apply cgS|exact cgR _))
theorem dA5 {e' d:Int}(he:q∣e-e')(hd:q∣d-d')(hc:q∣c-c')(hb:q∣b-b'):q∣dC e d c b-dC e' d' c' b':=by
 unfold dC
 repeat' (with_reducible (first|assumption|apply cgM|apply cgA|apply cgS|exact cgR _))
noncomputable def dF (F:Nat×∅):Int:=if F.1=2 then dA (F.2 0) (F.2 1)else if F.1=3 then dB (F.2 0) (F.2 1) (F.2 2)else if F.1=4 then dC (F.2 0) (F.2 1) (F.2 2) (F.2 3)else 1
theorem b78 (mG:MP q G.1 G.2)(m:Nat):q∣(tm q G<|dR c).2 m-(c*G.2 m+(if m=0 then 0 else G.2 (m-1))):=by
 show q∣conv G.2 (dR c).2 (G.1+1) m%q-_
 rw[c71 c mG.z];exact cgE _
theorem dA6 (mG:MP q G.1 G.2)(l1:1<=G.1)(l3:G.1<=3):q∣dF (tm q G<|dR c)-dF G*(va q G (-c)*va q G (-c)):=by
 have c0:=b78 (c:=c) mG 0;have c1:=b78 (c:=c) mG 1;have c2:=b78 (c:=c) mG 2;have c3:=b78 (c:=c) mG 3;have tp:=mG.top;have hv:q∣va q G (-c)-ps G.2 (-c) (G.1+1):=cgE _;have hi:=mG.hi;have e0:(tm q G<|dR c).1=G.1+1:=rfl;generalize tm q G (dR c)=T at *;obtain⟨T1,T⟩:=T;obtain⟨n,g⟩:=G;generalize va q (n,g) (-c)=V at *;dsimp only at *;subst e0;have hn:n=1\/n=2\/n=3:=aa
 rcases hn with rfl|rfl|rfl
 .have hz:q∣V-(g 0-c):=by
   have e:ps g (-c) (1+1)=g 0-c:=by
    show 0+g 0*(-c)^0+g 1*(-c)^1=_
    rw[tp];grind
   rw[e]at hv;exact hv
  show q∣dA (T 0) (T 1)-1*(V*V)
  simp only[dM,dL,aM7,oF,tp,Nat.reduceEqDiff]at c0 c1;have:=dU3 c0 c1;have k:=cgM hz hz;exact dv2 (x:=1) (y:= -1) this k (by unfold dA;grind)
 .have hz:q∣V-(c*c-g 1*c+g 0):=by
   have e:ps g (-c) (2+1)=c*c-g 1*c+g 0:=by
    show 0+g 0*(-c)^0+g 1*(-c)^1+g 2*(-c)^2=_
    rw[tp];grind
   rw[e]at hv;exact hv
  show q∣dB (T 0) (T 1) (T 2)-dA (g 0) (g 1)*(V*V)
  have k:=dU4 c0 c1 c2;have k2:=cgM (cgR (q:=q)<|dA (g 0)<|g 1) (cgM hz hz);have k3:=dB_lin c (g 1) (g 0);simp only[dM,dL,aM7,oF,tp,Nat.reduceEqDiff,Nat.reduceSub]at k;rw[show c*g 0+0=c*g 0 by omega,show c*g 1+g 0=g 0+c*g 1 by omega,show c*1+g 1=g 1+c by omega,k3]at k
  exact dv2 (x:=1) (y:= -1) k k2 (by grind)
 .have hz:q∣V-(-(c*c*c)+g 2*c*c-g 1*c+g 0):=by
   have e:ps g (-c) (3+1)= -(c*c*c)+g 2*c*c-g 1*c+g 0:=by
    show 0+g 0*(-c)^0+g 1*(-c)^1+g 2*(-c)^2+g 3*(-c)^3=_
    rw[tp];grind
   rw[e]at hv;exact hv
  show q∣dC (T 0) (T 1) (T 2) (T 3)-dB (g 0) (g 1) (g 2)*(V*V)
  have k:=dA5 c0 c1 c2 c3;have k2:=cgM (cgR (q:=q)<|dB (g 0) (g 1)<|g 2) (cgM hz hz);have k3:=dC_lin c (g 2) (g 1) (g 0);simp only[dM,dL,aM7,oF,tp,Nat.reduceEqDiff,Nat.reduceSub]at k;rw[show c*g 0+0=c*g 0 by omega,show c*g 1+g 0=g 0+c*g 1 by omega,show c*g 2+g 1=g 1+c*g 2 by omega,show c*1+g 2=g 2+c by omega,k3]at k
  exact dv2 (x:=1) (y:= -1) k k2 (by grind)
theorem dU5 {u t:Int}:q∣dF (tm q (quF v u)<|quF t s)-dA v u*dA t s*(((v-t)*(v-t)-(u-s)*(s*v-u*t))*((v-t)*(v-t)-(u-s)*(s*v-u*t))):=by
 obtain⟨a0,a1,a2,a3⟩:=bY2 v u t s;show q∣dC (conv (quF v u).2 (quF t s).2 3 0%q) (conv (quF v u).2 (quF t s).2 3 1%q) (conv (quF v u).2 (quF t s).2 3 2%q) (conv (quF v u).2 (quF t s).2 3 3%q)-_;rw[a0,a1,a2,a3,<-dC_qu,show v*s+u*t=u*t+v*s by omega]
 exact dA5 (cgE _) (cgE _) (cgE _) (cgE _)
theorem dA7 (pq:Pr q)(mF:MP q F.1 F.2)(f4:F.1<=4)(sp:SP q F xs){x:(Nat×∅)×Nat}(hx:x∈xs)(h2:2<=x.2):q∣dF F:=by
 have q2:=pq.lo;obtain⟨mx,x1,_⟩:=sp.mem x hx;have dg:=aT3 q xs gJ x hx;rw[sp.prod]at dg;have e0:gJ.1=0:=rfl;have dg2:x.1.1*2<=x.1.1*x.2:=uK _ h2
 by_cases d1:x.1.1=1
 .have e:=b08 mx d1;have r:=mx.rng 0;generalize x.1.2 0=c at *;obtain⟨H,mH,eF,_⟩:=(bZ1 pq mF sp r.1 r.2).1 x hx e;have ml:=MP.lin q2 r.1 r.2;obtain⟨k,hk⟩: ∃k,x.2=k+2:=⟨x.2-2,aa⟩
  rw[hk]at eF;have mK:MP q (powT q H (dR c)<|k+1).1 (powT q H (dR c)<|k+1).2:=MP.powT q2 mH ml _;have vz:va q (powT q H (dR c)<|k+1) (-c)=0:=by
   show va q (tm q (powT q H (dR c) k)<|dR c) (-c)=0
   rw[c70 ml.hi,cI9 q2 ml rfl];show _*((-c+c)%q)%q=0;rw[show -c+c=0 by omega,cB,aX,cB]
  have dK:=vS q H (dR c) (k+1);have e1:(dR c).1=1:=rfl;have dF':F.1=(powT q H (dR c)<|k+1).1+1:=by rw[eF];rfl
  have:=dA6 (c:=c) mK aa aa
  rw[vz,aX,aX,Int.sub_zero]at this;rw[eF];exact this
 .have d2:x.1.1=2:=aa
  have k2:x.2=2:=by
   rw[d2]at dg;omega
  obtain⟨l1,l2,rfl⟩:=aL7 hx;have mx': ∀y∈l1++x::l2,MP q y.1.1 y.1.2:=λy hy=>(sp.mem y hy).1
  have m1: ∀y∈l1,MP q y.1.1 y.1.2:=λy hy=>mx' y (bU.mpr<|.inl hy)
  have m2: ∀y∈l2,MP q y.1.1 y.1.2:=λy hy=>mx' y (bU.mpr<|.inr<|bH _ hy)
  have mA:=MP.allT q2 l1 (MP.one q2) m1;have mH:=MP.allT q2 l2 mA m2;have eF:F=powT q (allT q (allT q gJ l1) l2) x.1 2:=by
   rw[<-sp.prod,mD];show allT q (powT q (allT q gJ l1) x.1 x.2) l2=_;rw[aT6 q2 mx mA m2,k2]
  generalize allT q (allT q gJ l1) l2=H at *;have dH:H.1=0:=by
   have:=vS q H x.1 2;rw[<-eF]at this;omega
  have eH:H=gJ:=by
   refine j4 dH (funext λj=> ?_)
   show H.2 j=if j=0 then 1 else 0
   split
   .rename_i z;rw[z,<-mH.top,dH]
   .exact mH.hi j aa
  rw[eF,eH];show q∣dF (tm q (tm q gJ x.1) x.1);rw[bD0 mx,bY3 mx d2];have:=dU5 (q:=q) (u:=x.1.2 1) (v:=x.1.2 0) (s:=x.1.2 1) (t:=x.1.2 0);refine(cgT this).mpr ⟨0,by grind⟩
theorem rP {q z w:Int}(h:q∣z-w)(g:∅): ∀n,q∣ps g z n-ps g w n
 | 0=>cgR _
 | n+1=>by
  have p: ∀k:Nat,q∣z^k-w^k:=by
   intro k
   induction k with
   | zero=>rw[cR,cR];exact cgR _
   | succ k ih=>rw[gM,gM];exact cgM ih h
  exact cgA (rP h g n) (cgM (cgR _)<|p n)
theorem NoR.no (pq:Pr q)(nr:NoR q G){z:Int}(h:q∣ps G.2 z (G.1+1)):False:=by
 have q2:=pq.lo;have r0:=cH (-z) (show q≠0 by omega)
 have r1:=cG (-z) (show 0<q by omega)
 refine nr ((-z)%q).toNat aa ?_
 rw[qT r0];refine bP ((cgT<|rP ?_ G.2<|G.1+1).mpr h);have:=cgE (q:=q) (-z);exact dv1 (x:= -1) this (by grind)
theorem cJ1 (pq:Pr q)(mG:MP q G.1 G.2)(l4:G.1<=4)(nr:2<=G.1->NoR q G)(nq:G.1=4->NoQ q G): ¬q∣dF G:=by
 intro h;have q2:=pq.lo;have tp:=mG.top;have rg:=mG.rng
 by_cases d:2<=G.1
 .have no:=λz=>NoR.no pq (nr d) (z:=z)
  obtain⟨n,g⟩:=G;dsimp only at *;have hn:n=2\/n=3\/n=4:=aa
  rcases hn with rfl|rfl|rfl
  .obtain⟨z,hz⟩:=root2 pq (show q∣dA (g 0) (g 1)from h)
   refine no z ?_
   show q∣0+g 0*z^0+g 1*z^1+g 2*z^2
   rw[tp];exact dv1 (x:=1) hz (by grind)
  .obtain⟨z,hz⟩:=root3' pq (rg 0) (rg 1) (rg 2) (show q∣dB (g 0) (g 1) (g 2)from h)
   refine no z ?_
   show q∣0+g 0*z^0+g 1*z^1+g 2*z^2+g 3*z^3
   rw[tp];exact dv1 (x:=1) hz (by grind)
  .rcases root4' pq (rg 0) (rg 1) (rg 2) (rg 3) (show q∣dC (g 0) (g 1) (g 2) (g 3)from h)with⟨z,hz⟩| ⟨u,v,h3,h2,h1,h0⟩
   .refine no z ?_
    show q∣0+g 0*z^0+g 1*z^1+g 2*z^2+g 3*z^3+g 4*z^4
    rw[tp];exact dv1 (x:=1) hz (by grind)
   .have u0:=cH u (show q≠0 by omega)
    have u1:=cG u (show 0<q by omega)
    have v0:=cH v (show q≠0 by omega)
    have v1:=cG v (show 0<q by omega)
    have mq:=MP.qu q2 v0 v1 u0 u1;have cu:=cgE (q:=q) u;have cv:=cgE (q:=q) v;generalize u%q=U at *;generalize v%q=V at *;refine nq rfl V U V U v0 v1 u0 u1 v0 v1 u0 u1 ((d93 mG mq mq q2).mpr ?_);have eqm: ∀{a b:Int},0<=a/\a<q->q∣b-a->a=b%q:=by
     intro a b ha hb;have:=Int.emod_emod_of_dvd b (uZ q);have e:=dE ha.1 ha.2;obtain⟨k,hk⟩:=hb;rw[<-e,show b=a+q*k by omega,Int.add_mul_emod_self_left]
    refine⟨eqm (rg 0) ?_,eqm (rg 1) ?_,eqm (rg 2) ?_,eqm (rg 3) ?_⟩
    .exact dv2 (x:=V+v) (y:=1) cv h0 (by grind)
    .exact dv3 (x:=2*v) (y:=2*U) (z:=1) cu cv h1 (by grind)
    .exact dv3 (x:=U+u) (y:=2) (z:=1) cu cv h2 (by grind)
    .exact dv2 (x:=2) (y:=1) cu h3 (by grind)
 .have:dF G=1:=by
   unfold dF;rw[a6 aa,a6 aa,a6 aa]
  rw[this]at h;have:=iL ac h
  omega
theorem cO9 {q:Int}(pq:Pr q): ∀(xs:List ((Nat×∅)×Nat)),(∀x∈xs,MP q x.1.1 x.1.2/\1<=x.1.1/\x.1.1<=4/\1<=x.2/\x.2<=4/\(2<=x.1.1->NoR q x.1)/\(x.1.1=4->NoQ q x.1))->xs.Pairwise ltP->(∀x∈xs,x.2=1)->(allT q gJ xs).1<=4-> ¬q∣dF (allT q gJ xs)
 | [],_,_,_,_=>by
  intro h;have:=iL ac (show q∣1 from h)
  have:=pq.lo;omega
 | x::l,hm,hp,h1,h4=>by
  have q2:=pq.lo;obtain⟨mx,x1,x4,_,_,nr,nq⟩:=hm x (cP ..);have hml: ∀y∈l,MP q y.1.1 y.1.2:=λy hy=>(hm y<|bH _ hy).1
  rw[aL6]at hp;have e1:=h1 x (cP ..);have eA:allT q gJ (x::l)=tm q (allT q gJ l) x.1:=by
   show allT q (powT q gJ x.1 x.2) l=_
   rw[aT6 q2 mx (MP.one q2) hml,e1];rfl
  have mL:=MP.allT q2 l (MP.one q2) hml;rw[eA]at h4⊢
  by_cases d1:x.1.1=1
  .have e:=b08 mx d1;have r:=mx.rng 0;generalize x.1.2 0=c at *;have h4':(allT q gJ l).1+1<=4:=by
    have:(tm q (allT q gJ l) x.1).1=(allT q gJ l).1+x.1.1:=rfl;omega
   have ih:=cO9 pq l (λy hy=>hm y (bH _ hy)) hp.2 (λy hy=>h1 y (bH _ hy)) aa
   rw[e]
   by_cases z:(allT q gJ l).1=0
   .intro h;have:dF (tm q (allT q gJ l)<|dR c)=1:=by
     have k:(tm q (allT q gJ l)<|dR c).1=(allT q gJ l).1+1:=rfl;unfold dF;rw[a6 aa,a6 aa,a6 aa]
    rw[this]at h;have:=iL ac h
    omega
   .have vn:va q (allT q gJ l) (-c)≠0:=by
     refine b77 pq l gJ (λy hy=>(hml y hy).hi) ?_ λy hy=> ?_
     .show(0+(if 0=0 then(1:Int)else 0)*(-c)^0)%q≠0
      rw[a7 rfl,cR,lN,bS,dE ac aa]
      decide
     .obtain⟨my,y1,_,_,_,ny,_⟩:=hm y (bH _ hy);exact c79 pq r.1 r.2 my y1 ny λze=>bZ0 (hp.1 y hy) (e.trans ze.symm)
    have vn': ¬q∣va q (allT q gJ l) (-c):=λhd=>vn (by
     have:=bP hd;rw[cI8 q2]at this;exact this)
    have k:=dA6 (c:=c) mL aa aa
    exact λhd=>gC pq ih (gC pq vn' vn') ((cgT k).mp hd)
  .have ge: ∀y∈l,2<=y.1.1:=λy hy=>by
    have:=hp.1 y hy;unfold ltP at this;omega
   match l,hm,hp,h1,h4,eA,mL,hml,ge with
   | [],_,_,_,_,_,_,_,_=>
    show ¬q∣dF (tm q gJ x.1)
    rw[bD0 mx];exact cJ1 pq mx x4 nr nq
   | [y],hm,hp,h1,h4,_,_,_,ge=>
    obtain⟨my,y1,y4,_,_,nry,nqy⟩:=hm y (bH _<|cP ..);have ey:=h1 y (bH _<|cP ..);have gy:=ge y (cP ..);have eL:allT q gJ [y]=y.1:=by
     show powT q gJ y.1 y.2=y.1
     rw[ey];exact bD0 my
    rw[eL]at h4⊢;have ds:y.1.1+x.1.1<=4:=h4;have dx:x.1.1=2:=aa
    have dy:y.1.1=2:=aa
    have ix:=cJ1 pq mx x4 nr nq;have iy:=cJ1 pq my y4 nry nqy;have ne:=bZ0 (hp.1 y<|cP ..);have nr:=nr aa
    have rx0:=mx.rng 0;have rx1:=mx.rng 1;have ry0:=my.rng 0;have ry1:=my.rng 1;rw[bY3 mx dx]at ix nr ne⊢;rw[bY3 my dy]at iy ne⊢;generalize x.1.2 0=t at *;generalize x.1.2 1=s at *;generalize y.1.2 0=v at *;generalize y.1.2 1=u at *;have ix: ¬q∣dA t s:=ix;have iy: ¬q∣dA v u:=iy;have res: ¬q∣(v-t)*(v-t)-(u-s)*(s*v-u*t):=by
     intro hr
     by_cases us:q∣u-s
     .have hv:q∣v-t:=pq.sq (dv2 (x:=1) (y:=s*v-u*t) hr us<|by grind)
      have small: ∀{a b:Int},0<=a/\a<q->0<=b/\b<q->q∣a-b->b=a:=by
       intro a b ha hb ⟨k,hk⟩;have k0:k=0:=by
        rcases Int.lt_trichotomy k 0 with z|z|z
        .have:q*k<=q*(-1):=uD aa aa
         omega
        .exact z
        .have:q*1<=q*k:=uD aa aa
         omega
       rw[k0,aX]at hk;omega
      exact ne (by rw[small ry0 rx0 hv,small ry1 rx1 us])
     .obtain⟨z,hz⟩:=pq.sol us (-(v-t));refine NoR.no pq nr (z:=z) ?_;show q∣0+t*z^0+s*z^1+1*z^2;refine pq.cut (a:=(u-s)*(u-s)) ?_ (gC pq us us);exact dv2 (x:=(u-s)*z-(v-t)+s*(u-s)) (y:=1) hz hr (by grind)
    exact λhd=>gC pq (gC pq iy ix) (gC pq res res) ((cgT<|dU5 (q:=q) (u:=u) (v:=v) (s:=s) (t:=t)).mp hd)
   | y::y2::l',hm,_,h1,h4,_,_,_,ge=>
    have g1:=ge y (cP ..);have g2:=ge y2 (bH _<|cP ..);have b1:=h1 y (bH _<|cP ..);have b2:=h1 y2 (bH _<|bH _<|cP ..);have dg:=aT3 q (y2::l') (powT q gJ y.1 y.2) y2 (cP ..);rw[vS,b1,b2]at dg;have ds:(allT q gJ (y::y2::l')).1+x.1.1<=4:=h4;have eq:allT q gJ (y::y2::l')=allT q (powT q gJ y.1 1) (y2::l'):=by rw[<-b1];rfl
    rw[eq]at ds;have e0:gJ.1=0:=rfl;omega
theorem dA8 (h:a%q=b%q):q∣a-b:=b7 (Int.emod_eq_emod_iff_emod_sub_eq_zero.mp h)
structure PrI (P:Int):Prop where
 lo:2<=P
 or: ∀x y:Int,P∣x*y->P∣x\/P∣y
theorem c80 {u b:∅}{i j:Nat}(hu: ∀k,k<i->u k=0)(hb: ∀k,k<j->b k=0): ∀n,conv u b n (i+j)=if i<n then u i*b j else 0
 | 0=>rfl
 | n+1=>by
  show conv u b n (i+j)+u n*shF b n (i+j)=_
  rw[c80 hu hb n];unfold shF;rcases Nat.lt_trichotomy n i with h|h|h
  .rw[hu n h,cJ,dY,a6<|show ¬i<n by lia,a6<|show ¬i<n+1 by lia]
  .subst h;rw[a6<|show ¬n<n by lia,a7<|show n<=n+j by lia,a7<|show n<n+1 by lia,show n+j-n=j by lia,bS]
  .rw[a7 h,a7<|show i<n+1 by lia]
   by_cases c:n<=i+j
   .rw[a7 c,hb (i+j-n) ad,aX,dY]
   .rw[a6 c,aX,dY]
theorem bS4 {a:∅}{d:Nat}(h: ¬ ∀j,j<=d->P∣a j): ∃i,i<=d/\ ¬P∣a i/\ ∀k,k<i->P∣a k:=by
 induction d with
 | zero=>exact⟨0,aD _,λz=>h λj hj=>by rw[show j=0 by lia];exact z,λk hk=>absurd hk (r6 _)⟩
 | succ d ih=>
  by_cases c: ∀j,j<=d->P∣a j
  .exact⟨d+1,aD _,λz=>h λj hj=>by
    by_cases e:j=d+1
    .rw[e];exact z
    .exact c j ad,λk hk=>c k ad⟩
  .obtain⟨i,h1,h2,h3⟩:=ih c;exact⟨i,ad,h2,h3⟩
theorem cP0 (pr:PrI P){a q:∅}{d e:Nat}(hd: ∀m,P∣conv a q (d+1) m):(∀j,j<=d->P∣a j)\/ ∀j,j<=e->P∣q j:=by
 by_cases ca: ∀j,j<=d->P∣a j
 .exact .inl ca
 .by_cases cq: ∀j,j<=e->P∣q j
  .exact .inr cq
  .exfalso
   obtain⟨i,i1,i2,i3⟩:=bS4 ca;obtain⟨j,j1,j2,j3⟩:=bS4 cq;have lo:=pr.lo;have e1:conv (λk=>if k<i then 0 else a k) (λk=>if k<j then 0 else q k) (d+1) (i+j)%P=conv a q (d+1) (i+j)%P:=by
    refine aS7 (λx y=> ?_) (d+1) (i+j)
    try right
    by_cases cx:x<i
    .rw[a7 cx,cJ,cB,bP<|nX<|i3 x cx]
    .rw[a6 cx]
     by_cases cy:y<j
     .rw[a7 cy,aX,cB,bP<|Int.dvd_mul_of_dvd_right<|j3 y cy]
     .rw[a6 cy]
   rw[c80 (λk hk=>a7 hk) λk hk=>a7 hk,a7 ad,bP<|hd _]at e1
   try dsimp only at e1
   rw[a6<|dI _,a6<|dI _]at e1;rcases pr.or _ _ (b7 e1)with z|z
   .exact i2 z
   .exact j2 z
theorem cP1 {a:∅}{d:Nat}(ha: ∀j,d<j->a j=0)(h: ∀j,j<=d->P∣a j): ∃b:∅,(∀j,d<j->b j=0)/\ ∀j,a j=P*b j:=by
 refine⟨λj=>if j<=d then a j/P else 0,λj hj=>a6 ad,λj=> ?_⟩
 right
 by_cases c:j<=d
 .rw[a7 c,a07<|h j c]
 .rw[a6 c,ha j ad,aX]
theorem bS5 (c:Int)(u b:∅)(m:Nat): ∀n,conv u (λj=>c*b j) n m=c*conv u b n m
 | 0=>by show(0:Int)=c*0;rw[aX]
 | n+1=>by
  show conv u (λj=>c*b j) n m+u n*shF (λj=>c*b j) n m=c*(conv u b n m+u n*shF b n m)
  rw[bS5 c u b m n,cN9,rG]
  congr 1
  rw[<-kQ,<-kQ,fZ<|u n]
theorem cay2 (p:List Int)(u:∅): ∀j,j<2->itT p 2 u 2 j= -(p.getD 0 0*itT p 2 u 0 j+p.getD 1 0*itT p 2 u 1 j)
 | 0,_=>by simp[itT,ttF];grind
 | 1,_=>by simp[itT,ttF];grind
theorem cay3 (p:List Int)(u:∅): ∀j,j<3->itT p 3 u 3 j= -(p.getD 0 0*itT p 3 u 0 j+p.getD 1 0*itT p 3 u 1 j+p.getD 2 0*itT p 3 u 2 j)
 | 0,_=>by simp[itT,ttF];grind
 | 1,_=>by simp[itT,ttF];grind
 | 2,_=>by simp[itT,ttF];grind
theorem cay4 (p:List Int)(u:∅): ∀j,j<4->itT p 4 u 4 j= -(p.getD 0 0*itT p 4 u 0 j+p.getD 1 0*itT p 4 u 1 j+p.getD 2 0*itT p 4 u 2 j+p.getD 3 0*itT p 4 u 3 j)
 | 0,_=>by simp[itT,ttF];grind
 | 1,_=>by simp[itT,ttF];grind
 | 2,_=>by simp[itT,ttF];grind
 | 3,_=>by simp[itT,ttF];grind
noncomputable def u6 (n:Nat)(w:∅)(r:Nat->∅):∅:=λj=>gT n λk=>w k*r k j
theorem c81 (w:∅)(r:Nat->∅)(j:Nat):u6 2 w r j=w 0*r 0 j+w 1*r 1 j:=by simp[u6,gT,bL]
theorem c82 (w:∅)(r:Nat->∅)(j:Nat):u6 3 w r j=w 0*r 0 j+w 1*r 1 j+w 2*r 2 j:=by simp[u6,gT,bL,Int.add_assoc]
theorem c83 (w:∅)(r:Nat->∅)(j:Nat):u6 4 w r j=w 0*r 0 j+w 1*r 1 j+w 2*r 2 j+w 3*r 3 j:=by simp[u6,gT,bL,Int.add_assoc]
theorem c84 (w u:∅)(n2:2<=n)(n4:n<=4): ∀j,j<n->ttF p n (u6 n w<|itT p n u) j=u6 n (ttF p n w) (itT p n u) j:=by
 intro j hj
 match n,n2,n4 with
 | 2,_,_=>
  have c:=cay2 p u j hj;have s1:itT p 2 u 1 j=ttF p 2 (itT p 2 u 0) j:=rfl;have s2:itT p 2 u 2 j=ttF p 2 (itT p 2 u 1) j:=rfl;have t0:ttF p 2 w 0= -(w 1*p.getD 0 0):=by simp[ttF]
  have t1:ttF p 2 w 1=w 0-w 1*p.getD 1 0:=by simp[ttF]
  rw[c81,t0,t1];unfold ttF at s1 s2⊢;rw[c81,c81];split at s1<;>split at s2<;>split<;>grind
 | 3,_,_=>
  have c:=cay3 p u j hj;have s1:itT p 3 u 1 j=ttF p 3 (itT p 3 u 0) j:=rfl;have s2:itT p 3 u 2 j=ttF p 3 (itT p 3 u 1) j:=rfl;have s3:itT p 3 u 3 j=ttF p 3 (itT p 3 u 2) j:=rfl;have t0:ttF p 3 w 0= -(w 2*p.getD 0 0):=by simp[ttF]
  have t1:ttF p 3 w 1=w 0-w 2*p.getD 1 0:=by simp[ttF]
  have t2:ttF p 3 w 2=w 1-w 2*p.getD 2 0:=by simp[ttF]
  rw[c82,t0,t1,t2];unfold ttF at s1 s2 s3⊢;rw[c82,c82]
  by_cases z:j=0
  .rw[a7 z]at s1 s2 s3⊢
   grind
  .rw[a6 z]at s1 s2 s3⊢
   grind
 | 4,_,_=>
  have c:=cay4 p u j hj;have s1:itT p 4 u 1 j=ttF p 4 (itT p 4 u 0) j:=rfl;have s2:itT p 4 u 2 j=ttF p 4 (itT p 4 u 1) j:=rfl;have s3:itT p 4 u 3 j=ttF p 4 (itT p 4 u 2) j:=rfl;have s4:itT p 4 u 4 j=ttF p 4 (itT p 4 u 3) j:=rfl;have t0:ttF p 4 w 0= -(w 3*p.getD 0 0):=by simp[ttF]
  have t1:ttF p 4 w 1=w 0-w 3*p.getD 1 0:=by simp[ttF]
  have t2:ttF p 4 w 2=w 1-w 3*p.getD 2 0:=by simp[ttF]
  have t3:ttF p 4 w 3=w 2-w 3*p.getD 3 0:=by simp[ttF]
  rw[c83,t0,t1,t2,t3];unfold ttF at s1 s2 s3 s4⊢;rw[c83,c83]
  by_cases z:j=0
  .rw[a7 z]at s1 s2 s3 s4⊢
   grind
  .rw[a6 z]at s1 s2 s3 s4⊢
   grind
theorem b13 {g:∅}(n1:1<=n)(h: ∀j,j<n->f j=g j): ∀j,j<n->ttF p n f j=ttF p n g j:=by
 intro j hj;unfold ttF;rw[h (n-1) aa,h (j-1) aa]
theorem cJ2 {p:List Int}{n:Nat}(u v:∅)(n2:2<=n)(n4:n<=4): ∀i j,j<n->itT p n (eU p n u v) i j=u6 n (itT p n v i) (itT p n u) j
 | 0,j,_=>rfl
 | i+1,j,hj=>by
  show ttF p n (itT p n (eU p n u v) i) j=_
  rw[b13 aa (cJ2 u v n2 n4 i) j hj,c84 _ _ n2 n4 j hj]
  rfl
theorem b14 {s t:Nat->∅}(h: ∀i j,j<n->s i j=t i j):tbL n s=tbL n t:=by
 unfold tbL;exact nY λi _=>hV λj hj=>h i j hj
set_option maxHeartbeats 0 in
theorem mulD4 (A B:Nat->∅):d5 4 (tbL 4 λi=>u6 4 (A i) B)=d5 4 (tbL 4 A)*d5 4 (tbL 4 B):=by
 rw[bR9,bR9,bR9];simp only[c83]
 grind (ringSteps:=100000000)
theorem mulD3 (A B:Nat->∅):d5 4 (tbL 3 λi=>u6 3 (A i) B)=d5 4 (tbL 3 A)*d5 4 (tbL 3 B):=by
 rw[bR8,bR8,bR8];simp only[c82]
 grind
theorem mulD2 (A B:Nat->∅):d5 4 (tbL 2 λi=>u6 2 (A i) B)=d5 4 (tbL 2 A)*d5 4 (tbL 2 B):=by
 rw[bE2,bE2,bE2];simp only[c81]
 grind
theorem dP0 (u v:∅)(n2:2<=n)(n4:n<=4):nrm p n (eU p n u v)=nrm p n u*nrm p n v:=by
 unfold nrm;rw[b14 (t:=λi=>u6 n (itT p n v i) (itT p n u))<|cJ2 u v n2 n4,fZ]
 match n,n2,n4 with
 | 2,_,_=>exact mulD2 _ _
 | 3,_,_=>exact mulD3 _ _
 | 4,_,_=>exact mulD4 _ _
def gS:List Int->Int->Int
 | [],_=>0
 | c::p,r=>gS p r*r+c
theorem cT (n:Nat)(f:∅):gT (n+1) f=gT n f+f n:=by
 unfold gT;rw[bL,bV,a21];simp
theorem dP1 (u v:∅)(c:Int)(j:Nat):ttF p n (λi=>u i+c*v i) j=ttF p n u j+c*ttF p n v j:=by
 unfold ttF
 by_cases h:j=0
 .rw[a7 h,a7 h,a7 h]
  grind
 .rw[a6 h,a6 h,a6 h]
  grind
noncomputable def ch2 (A:Nat->∅):∅
 | 0=>1
 | 1=> -((A 0 0)+(A 1 1))
 | 2=>((A 0 0*(A 1 1)-A 1 0*(A 0 1)))
 | _=>0
noncomputable def ch3 (A:Nat->∅):∅
 | 0=>1
 | 1=> -((A 0 0)+(A 1 1)+(A 2 2))
 | 2=>((A 0 0*(A 1 1)-A 1 0*(A 0 1))+(A 0 0*(A 2 2)-A 2 0*(A 0 2))+(A 1 1*(A 2 2)-A 2 1*(A 1 2)))
 | 3=> -((A 0 0*(A 1 1*(A 2 2)-A 2 1*(A 1 2))-A 1 0*(A 0 1*(A 2 2)-A 2 1*(A 0 2))+A 2 0*(A 0 1*(A 1 2)-A 1 1*(A 0 2))))
 | _=>0
noncomputable def ch4 (A:Nat->∅):∅
 | 0=>1
 | 1=> -((A 0 0)+(A 1 1)+(A 2 2)+(A 3 3))
 | 2=>((A 0 0*(A 1 1)-A 1 0*(A 0 1))+(A 0 0*(A 2 2)-A 2 0*(A 0 2))+(A 0 0*(A 3 3)-A 3 0*(A 0 3))+(A 1 1*(A 2 2)-A 2 1*(A 1 2))+(A 1 1*(A 3 3)-A 3 1*(A 1 3))+(A 2 2*(A 3 3)-A 3 2*(A 2 3)))
 | 3=> -((A 0 0*(A 1 1*(A 2 2)-A 2 1*(A 1 2))-A 1 0*(A 0 1*(A 2 2)-A 2 1*(A 0 2))+A 2 0*(A 0 1*(A 1 2)-A 1 1*(A 0 2)))+(A 0 0*(A 1 1*(A 3 3)-A 3 1*(A 1 3))-A 1 0*(A 0 1*(A 3 3)-A 3 1*(A 0 3))+A 3 0*(A 0 1*(A 1 3)-A 1 1*(A 0 3)))+(A 0 0*(A 2 2*(A 3 3)-A 3 2*(A 2 3))-A 2 0*(A 0 2*(A 3 3)-A 3 2*(A 0 3))+A 3 0*(A 0 2*(A 2 3)-A 2 2*(A 0 3)))+(A 1 1*(A 2 2*(A 3 3)-A 3 2*(A 2 3))-A 2 1*(A 1 2*(A 3 3)-A 3 2*(A 1 3))+A 3 1*(A 1 2*(A 2 3)-A 2 2*(A 1 3))))
 | 4=>((A 0 0*(A 1 1*(A 2 2*(A 3 3)-A 3 2*(A 2 3))-A 2 1*(A 1 2*(A 3 3)-A 3 2*(A 1 3))+A 3 1*(A 1 2*(A 2 3)-A 2 2*(A 1 3)))-A 1 0*(A 0 1*(A 2 2*(A 3 3)-A 3 2*(A 2 3))-A 2 1*(A 0 2*(A 3 3)-A 3 2*(A 0 3))+A 3 1*(A 0 2*(A 2 3)-A 2 2*(A 0 3)))+A 2 0*(A 0 1*(A 1 2*(A 3 3)-A 3 2*(A 1 3))-A 1 1*(A 0 2*(A 3 3)-A 3 2*(A 0 3))+A 3 1*(A 0 2*(A 1 3)-A 1 2*(A 0 3)))-A 3 0*(A 0 1*(A 1 2*(A 2 3)-A 2 2*(A 1 3))-A 1 1*(A 0 2*(A 2 3)-A 2 2*(A 0 3))+A 2 1*(A 0 2*(A 1 3)-A 1 2*(A 0 3)))))
 | _=>0
noncomputable def chn (n:Nat)(A:Nat->∅)(k:Nat):Int:=if n=2 then ch2 A k else if n=3 then ch3 A k else ch4 A k
set_option maxHeartbeats 0 in
theorem dP2 (n2:2<=n)(n4:n<=4)(A:Nat->∅)(z:Int):gS (rwF (n+1) λj=>chn n A (n-j)) z=d5 4 (tbL n λi j=>z*(if i=j then 1 else 0)-A i j):=by
 match n,n2,n4 with
 | 2,_,_=>
  show(((0*z+1)*z+ch2 A 1)*z+ch2 A 2)=_
  rw[bE2];simp[ch2]
  grind
 | 3,_,_=>
  show((((0*z+1)*z+ch3 A 1)*z+ch3 A 2)*z+ch3 A 3)=_
  rw[bR8];simp[ch3]
  grind (ringSteps:=100000000)
 | 4,_,_=>
  show(((((0*z+1)*z+ch4 A 1)*z+ch4 A 2)*z+ch4 A 3)*z+ch4 A 4)=_
  rw[bR9];simp[ch4]
  grind (ringSteps:=100000000)
theorem bZ2 (n2:2<=n)(n4:n<=4)(A:Nat->∅):chn n A n=(if n%2=0 then 1 else -1)*d5 4 (tbL n A):=by
 match n,n2,n4 with
 | 2,_,_=>
  show ch2 A 2=1*_
  rw[bE2];unfold ch2
  grind
 | 3,_,_=>
  show ch3 A 3= -1*_
  rw[bR8];unfold ch3
  grind
 | 4,_,_=>
  show ch4 A 4=1*_
  rw[bR9];unfold ch4
  grind
theorem dA9 (n2:2<=n)(n4:n<=4)(A:Nat->∅):chn n A 0=1:=by
 match n,n2,n4 with
 | 2,_,_=>rfl
 | 3,_,_=>rfl
 | 4,_,_=>rfl
theorem rQ {g:∅}(h: ∀i,i<n->f i=g i):gT n f=gT n g:=by
 unfold gT;rw[nY λi hi=>h i (dW.mp hi)]
theorem dB0 (n2:2<=n)(n4:n<=4)(i j:Nat)(hi:i<n)(hj:j<n):itT p n (mV 1) i j=if i=j then 1 else 0:=by
 match n,n2,n4 with
 | 2,_,_=>
  have h:(i=0\/i=1)/\(j=0\/j=1):=ad
  rcases h with⟨rfl|rfl,rfl|rfl⟩<;>simp[itT,ttF,mV]
 | 3,_,_=>
  have h:(i=0\/i=1\/i=2)/\(j=0\/j=1\/j=2):=ad
  rcases h with⟨rfl|rfl|rfl,rfl|rfl|rfl⟩<;>simp[itT,ttF,mV]
 | 4,_,_=>
  have h:(i=0\/i=1\/i=2\/i=3)/\(j=0\/j=1\/j=2\/j=3):=ad
  rcases h with⟨rfl|rfl|rfl|rfl,rfl|rfl|rfl|rfl⟩<;>simp[itT,ttF,mV]
theorem dP3 {g:∅}(h:rwF n f=rwF n g)(j:Nat)(hj:j<n):f j=g j:=by
 have e:(rwF n f)[j]? =(rwF n g)[j]? :=by rw[h]
 rw[wX hj,wX hj]at e;exact gX e
theorem bE5 {p:List Int}{n:Nat}{f g:∅}(n1:1<=n)(h: ∀j,j<n->f j=g j): ∀i j,j<n->itT p n f i j=itT p n g i j
 | 0,j,hj=>h j hj
 | i+1,j,hj=>b13 n1 (bE5 n1 h i) j hj
theorem dP4 (k:Int)(u:∅)(j:Nat):ttF p n (λi=>k*u i) j=k*ttF p n u j:=by
 unfold ttF
 by_cases h:j=0
 .rw[a7 h,a7 h];grind
 .rw[a6 h,a6 h];grind
theorem dB1 {p:List Int}{n:Nat}(k:Int)(u:∅): ∀i j,itT p n (λj=>k*u j) i j=k*itT p n u i j
 | 0,j=>rfl
 | i+1,j=>by
  have e:itT p n (λj=>k*u j) i=λj=>k*itT p n u i j:=funext λj=>dB1 k u i j
  show ttF p n (itT p n (λj=>k*u j) i) j=_
  rw[e,dP4];rfl
theorem cJ3 {s t:Nat->∅}(h: ∀i j,i<n->j<n->s i j=t i j):tbL n s=tbL n t:=by
 unfold tbL;refine nY λi hi=> ?_
 exact hV λj hj=>h i j (dW.mp hi) hj
theorem aF5 {u' v v':∅}(n1:1<=n)(hu: ∀j,j<n->u j=u' j)(hv: ∀j,j<n->v j=v' j)(j:Nat)(hj:j<n):eU p n u v j=eU p n u' v' j:=
 rQ λi hi=>by rw[hv i hi,bE5 n1 hu i j hj]
theorem cP2 (u:∅)(j:Nat)(hj:j<n):cz n u j=u j:=a7 hj
theorem b79 (n2:2<=n)(n4:n<=4)(u v:∅)(j:Nat)(hj:j<n):eU p n u v j=eU p n v u j:=by
 have h:=dP3 (bS0 (p:=p) (u:=cz n u) (v:=cz n v) n2 n4 (λk hk=>a6 ad) λk hk=>a6 ad) j hj
 rw[aF5 ad (cP2 u) (cP2 v) j hj,aF5 ad (cP2 v) (cP2 u) j hj]at h
 exact h
theorem dB2 (n2:2<=n)(n4:n<=4)(w:∅)(a b:Nat->∅)(j:Nat):u6 n w (λi=>u6 n (a i) b) j=u6 n (u6 n w a) b j:=by
 match n,n2,n4 with
 | 2,_,_=>simp only[c81];grind
 | 3,_,_=>simp only[c82];grind
 | 4,_,_=>simp only[c83];grind
theorem dP5 (n2:2<=n)(n4:n<=4)(u v w:∅)(j:Nat)(hj:j<n):eU p n (eU p n u v) w j=eU p n u (eU p n v w) j:=by
 have h:eU p n (eU p n u v) w j=u6 n w (λi=>u6 n (itT p n v i) (itT p n u)) j:=rQ λi hi=>by rw[cJ2 u v n2 n4 i j hj]
 rw[h,dB2 n2 n4];rfl
theorem bE6 (v w:∅)(c:Int)(a:Nat->∅)(j:Nat):u6 n (λi=>v i+c*w i) a j=u6 n v a j+c*u6 n w a j:=by
 unfold u6;have: ∀k,gT k (λi=>(v i+c*w i)*a i j)=gT k (λi=>v i*a i j)+c*gT k λi=>w i*a i j:=by
  intro k
  induction k with
  | zero=>show(0:Int)=0+c*0;lia
  | succ k ih=>rw[cT,cT,cT,ih];grind
 exact this n
theorem aF6 (u v w:∅)(c:Int)(j:Nat):eU p n u (λi=>v i+c*w i) j=eU p n u v j+c*eU p n u w j:=bE6 v w c _ j
theorem bZ3 (u v:∅)(c:Int)(j:Nat):eU p n u (λi=>c*v i) j=c*eU p n u v j:=by
 have h:=bE6 (n:=n) (λ_=>0) v c (itT p n u) j
 have e:(λi=>(λ_=>(0:Int)) i+c*v i)=λi=>c*v i:=funext λi=>bS _
 rw[e]at h;have z:u6 n (λ_=>0) (itT p n u) j=0:=by
  have:=bE6 (n:=n) (λ_=>0) (λ_=>0) 1 (itT p n u) j
  rw[show(λi=>(λ_=>(0:Int)) i+1*(λ_=>(0:Int)) i)=λ_=>0 from rfl]at this
  lia
 rw[z,bS]at h;exact h
theorem cP3 (n1:1<=n)(u:∅)(j:Nat):eU p n u (mV 1) j=u j:=by
 unfold eU;have: ∀k,1<=k->gT k (λi=>mV 1 i*itT p n u i j)=u j:=by
  intro k hk
  induction k with
  | zero=>lia
  | succ k ih=>
   rw[cT]
   by_cases z:k=0
   .subst z;show 0+1*u j=u j
    lia
   .rw[ih ad,show mV 1 k=0 from a6 z]
    lia
 exact this n n1
theorem chn_sc (n2:2<=n)(n4:n<=4)(c:Int)(A:Nat->∅)(k:Nat)(kn:k<=n):chn n (λi j=>c*A i j) k=c^k*chn n A k:=by
 match n,n2,n4 with
 | 2,_,_=>
  show ch2 (λi j=>c*A i j) k=c^k*ch2 A k
  match k,kn with
  | 0,_=>exact(kS 1).symm.trans (bW (· *1) (cR c).symm)
  | 1,_=>simp only[ch2];grind
  | 2,_=>simp only[ch2];grind
 | 3,_,_=>
  show ch3 (λi j=>c*A i j) k=c^k*ch3 A k
  match k,kn with
  | 0,_=>exact(kS 1).symm.trans (bW (· *1) (cR c).symm)
  | 1,_=>simp only[ch3];grind
  | 2,_=>simp only[ch3];grind
  | 3,_=>simp only[ch3];grind
 | 4,_,_=>
  show ch4 (λi j=>c*A i j) k=c^k*ch4 A k
  match k,kn with
  | 0,_=>exact(kS 1).symm.trans (bW (· *1) (cR c).symm)
  | 1,_=>simp only[ch4];grind
  | 2,_=>simp only[ch4];grind
  | 3,_=>simp only[ch4];grind
  | 4,_=>simp only[ch4];grind
theorem dB3 (hi:i<n)(f:∅):gT n (λk=>if i=k then f k else 0)=f i:=by
 induction n with
 | zero=>lia
 | succ n ih=>
  rw[cT]
  by_cases e:i=n
  .subst e;rw[a7 rfl];have: ∀k,k<=i->gT k (λk=>if i=k then f k else 0)=0:=by
    intro k
    induction k with
    | zero=>exact λ_=>rfl
    | succ k ih=>exact λh=>by rw[cT,ih ad,a6 ad];rfl
   rw[this i<|aD _,bS]
  .rw[ih ad,a6 e,dY]
theorem pP {p:List Int}{n:Nat}(u v:∅)(c:Int): ∀i j,itT p n (λi=>u i+c*v i) i j=itT p n u i j+c*itT p n v i j
 | 0,_=>rfl
 | i+1,j=>by
  have e:itT p n (λi=>u i+c*v i) i=λj=>itT p n u i j+c*itT p n v i j:=funext (pP u v c i)
  show ttF p n (itT p n (λi=>u i+c*v i) i) j=_
  rw[e,dP1];rfl
theorem dB4 {p:List Int}{n:Nat}(w:∅)(a:Nat->∅)(i j:Nat): ∀m,itT p n (λl=>gT m λk=>w k*a k l) i j=gT m λk=>w k*itT p n (a k) i j
 | 0=>by
  exact(dB1 (p:=p) (n:=n) 0 (λ_=>0) i j).trans (cJ _)
 | m+1=>by
  rw[cT,<-dB4 w a i j m,<-pP]
  congr 1
  exact funext λl=>cT m _
theorem cP4 {p:List Int}{n:Nat}(u:∅)(k:Nat): ∀i,itT p n (itT p n u k) i=itT p n u (k+i)
 | 0=>rfl
 | i+1=>bW (ttF p n) (cP4 u k i)
noncomputable def dP6 (p:List Int)(n:Nat)(F:Nat×∅)(u:∅):∅:=λl=>gT (F.1+1) λk=>F.2 k*itT p n u k l
theorem dB5 (b T:∅)(N:Nat): ∀M,gT (N+M) (λm=>shF b N m*T m)=gT M λj=>b j*T (N+j)
 | 0=>by
  have: ∀k,k<=N->gT k (λm=>shF b N m*T m)=0:=by
   intro k
   induction k with
   | zero=>exact λ_=>rfl
   | succ k ih=>
    intro h;rw[cT,ih ad,show shF b N k=0 from a6 ad,cJ]
    rfl
  exact this N (aD _)
 | M+1=>by
  rw[<-iK,cT,dB5 b T N M,cT,show shF b N (N+M)=b M by unfold shF;rw[a7 ad,show N+M-N=M by lia]]
theorem bE7 {f:∅}{M:Nat}(h: ∀j,M<=j->f j=0): ∀k,gT (M+k) f=gT M f
 | 0=>rfl
 | k+1=>by rw[<-iK,cT,bE7 h k,h _ ad,dY]
theorem c85 {a b T:∅}{A B:Nat}(hb: ∀j,B<j->b j=0): ∀N,N<=A+1->(gT (A+B+1) λm=>conv a b N m*T m)=gT N λi=>a i*gT (B+1) λj=>b j*T (i+j)
 | 0,_=>by
  have: ∀k,gT k (λm=>conv a b 0 m*T m)=0:=by
   intro k
   induction k with
   | zero=>rfl
   | succ k ih=>rw[cT,ih,show conv a b 0 k=0 from rfl,cJ];rfl
  exact this _
 | N+1,h=>by
  rw[cT N,<-c85 (A:=A) hb N ad]
  have e: ∀k,gT k (λm=>conv a b (N+1) m*T m)=gT k (λm=>conv a b N m*T m)+a N*gT k λm=>shF b N m*T m:=by
   intro k
   induction k with
   | zero=>show(0:Int)=0+a N*0;lia
   | succ k ih=>
    rw[cT,ih,cT,cT,show conv a b (N+1) k=conv a b N k+a N*shF b N k from rfl]
    grind
  rw[e]
  congr 2
  rw[show A+B+1=N+(B+1+(A-N))by lia,dB5,bE7 (M:=B+1) λj hj=>by rw[hb j ad,cJ]]
theorem dP7 (rp:dO p)(hn:p.length=n+1)(q:Int):q∣dF (n,md q<|fOf p)-d5 4 (bT p):=by
 rcases rp.cases with⟨x,y,rfl,_⟩| ⟨x,y,z,rfl,_⟩| ⟨x,y,z,w,rfl,_⟩
 .have h:3=n+1:=hn;obtain rfl:n=2:=aa
  rw[id2];exact dU3 (c:=x%q) (b:=y%q) (cgE x) (cgE y)
 .have h:4=n+1:=hn;obtain rfl:n=3:=aa
  rw[id3];exact dU4 (d:=x%q) (c:=y%q) (b:=z%q) (cgE x) (cgE y) (cgE z)
 .have h:5=n+1:=hn;obtain rfl:n=4:=aa
  rw[hank4];exact dA5 (e:=x%q) (d:=y%q) (c:=z%q) (b:=w%q) (cgE x) (cgE y) (cgE z) (cgE w)
theorem cJ4 (rp:dO p)(hn:p.length=n+1)(pq:Pr q)(mF:MP q n (md q<|fOf p))(sp:SP q (n,md q<|fOf p) xs):(∃x∈xs,2<=x.2)↔d5 4 (bT p)%q=0:=by
 have hi:=rp.ok.hi;have n4:n<=4:=aa
 have cg:=cgT (dP7 rp hn q);constructor
 .rintro⟨x,hx,h2⟩;exact bP (cg.mp<|dA7 pq (F:=(n,md q<|fOf p)) mF n4 sp hx h2)
 .intro h;refine gK λno=> ?_
  have h1: ∀x∈xs,x.2=1:=λx hx=>by
   have:=(sp.mem x hx).2.2.2.1;have: ¬2<=x.2:=λh2=>no ⟨x,hx,h2⟩
   omega
  have:=cO9 pq xs sp.mem sp.ord h1 (by rw[sp.prod];exact n4)
  rw[sp.prod]at this;exact this (cg.mpr<|b7 h)
theorem cP5 {p:List Int}{n:Nat}(n2:2<=n)(n4:n<=4)(x v:∅): ∀k l,l<n->itT p n (eU p n x v) k l=eU p n x (itT p n v k) l
 | 0,_,_=>rfl
 | k+1,l,hl=>by
  show ttF p n (itT p n (eU p n x v) k) l=_
  rw[b13 ad (cP5 n2 n4 x v k) l hl]
  exact c84 (itT p n v k) x n2 n4 l hl
theorem bZ4 (u v:∅)(c r:Int): ∀n,ps (λj=>u j+c*v j) r n=ps u r n+c*ps v r n
 | 0=>by show(0:Int)=0+c*0;lia
 | n+1=>by
  show ps (λj=>u j+c*v j) r n+(u n+c*v n)*r^n=_
  rw[bZ4 u v c r n];show _=ps u r n+u n*r^n+c*(ps v r n+v n*r^n)
  grind
theorem bS6 (r:Int): ∀k,ps (λ_=>0) r k=0
 | 0=>rfl
 | k+1=>by
  show ps (λ_=>0) r k+0*r^k=0
  rw[bS6 r k,cJ];rfl
theorem cJ5 {u v:∅}{r:Int}: ∀n,(∀j,j<n->u j=v j)->ps u r n=ps v r n
 | 0,_=>rfl
 | n+1,h=>by
  show ps u r n+u n*r^n=ps v r n+v n*r^n
  rw[cJ5 n λj hj=>h j ad,h n ad]
theorem aT7 {b:∅}{d:Nat}(h1:b d=1)(hb: ∀j,d<j->b j=0): ∀(N:Nat) {f:∅},(∀m,N+d<=m->f m=0)-> ∀m,d<=m->divL b d N f m=0
 | 0,f,h,m,hm=>h m ad
 | N+1,f,h,m,hm=>by
  refine aT7 h1 hb N (λk hk=> ?_) m hm
  show f k-f (N+d)*shF b N k=0
  unfold shF;rw[a7 ad]
  by_cases e:k=N+d
  .rw[e,show N+d-N=d by lia,h1];lia
  .rw[h k ad,hb (k-N) ad];lia
theorem bZ5 {b:∅}{d:Nat}{z:Int}(hb: ∀j,d<j->b j=0)(hz:ps b z (d+1)=0): ∀(N:Nat) {f:∅} {L:Nat},N+d<=L->ps (divL b d N f) z L=ps f z L
 | 0,f,L,_=>rfl
 | N+1,f,L,hL=>by
  show ps (divL b d N<|divS b d N f) z L=_
  rw[bZ5 hb hz N ad]
  have e:divS b d N f=λm=>f m+(-f (N+d))*shF b N m:=funext λm=>by unfold divS;grind
  have e2:=aT0 b z N (L-N);rw[show N+(L-N)=L by lia,aN5 (n:=d+1) (L-N) ad λj hj _=>hb j ad,hz,aX]at e2
  rw[e,bZ4,e2]
  lia
theorem c86 {H:Nat×∅}(h:(n,md q f)=tm q H g)(fz: ∀j,n<j->f j=0)(gz: ∀j,g.1<j->g.2 j=0): ∃R,∀z,ps f z (n+1)=ps H.2 z (H.1+1)*ps g.2 z (g.1+1)+q*ps R z (n+2):=by
 have c: ∀j,q∣f j-conv H.2 g.2 (H.1+1) j:=λj=>dA8 (show f j%q=conv H.2 g.2 (H.1+1) j%q from congrFun (bW Prod.snd h) j)
 have d:n=H.1+g.1:=bW Prod.fst h;refine⟨λj=>(f j-conv H.2 g.2 (H.1+1) j)/q,λz=> ?_⟩
 have e:f=λj=>conv H.2 g.2 (H.1+1) j+q*((f j-conv H.2 g.2 (H.1+1) j)/q):=funext λj=>by rw[a07<|c j];lia
 have e2:=aN5 (f:=f) (z:=z) (n:=n+1) (n+2) ad (λj hj _=>fz j ad)
 have e3:=bY1 (u:=H.2) (z:=z) (V:=g.1+1) (λj hj=>gz j ad) (H.1+1) (n+2) ad
 rw[<-e2,<-e3,<-bZ4,<-e]
theorem cW2 (n1:1<=n)(fz: ∀j,n<j->f j=0)(h: ∃x∈sP n f (dR c),x%(q*q)≠0): ¬q*q∣ps f (-c) (n+1):=by
 intro dv;obtain⟨x,hx,nx⟩:=h;have lz: ∀j,1<j->(dR c).2 j=0:=λj hj=>by
  show(if j=0 then c else if j=1 then 1 else 0)=0
  rw[a6 ad,a6 ad]
 have up:=aT7 (b:=(dR c).2) (d:=1) rfl lz n (f:=f) (λm hm=>fz m ad)
 have pd:=bZ5 (b:=(dR c).2) (d:=1) (z:= -c) lz (by show 0+c*(-c)^0+1*(-c)^1=0;rw[cR,v8];lia) n (f:=f) (L:=n+1) ad
 rw[aN5 (n:=1) (n+1) ad λj hj _=>up j hj]at pd
 have e0:divL (dR c).2 1 n f 0=ps f (-c) (n+1):=by
  rw[<-pd];show _=0+divL (dR c).2 1 n f 0*(-c)^0;rw[cR]
  lia
 unfold sP rwF at hx;rw[show n+1-(dR c).1=n from rfl]at hx
 obtain⟨j,_,rfl⟩:=cC.mp hx
 by_cases z:j=0
 .subst z;exact nx (bP<|e0▸dv)
 .exact nx (by rw[show divL (dR c).2 (dR c).1 n f j=0 from up j ad,cB])
theorem dP8 (n1:1<=n)(fz: ∀j,n<j->f j=0)(pq:Pr q)(mF:MP q n (md q f))(sp:SP q (n,md q f) xs)(fine:a55 n f q xs){x:(Nat×∅)×Nat}(hx:x∈xs)(d1:x.1.1=1): ∃r,q∣r+x.1.2 0/\q∣ps f r (n+1)/\ ¬q*q∣ps f r (n+1):=by
 have q2:=pq.lo;obtain⟨mx,_,_,x1,_⟩:=sp.mem x hx;have e:=b08 mx d1;have r:=mx.rng 0;generalize x.1.2 0=c at *;obtain⟨H,mH,eF,vH⟩:=(bZ1 pq (F:=(n,md q f)) mF sp r.1 r.2).1 x hx e;have ml:=MP.lin q2 r.1 r.2;have lv: ∀z,ps (dR c).2 z ((dR c).1+1)=z+c:=λz=>by
  show 0+c*z^0+1*z^1=_
  rw[cR,v8]
  lia
 obtain⟨k,hk⟩: ∃k,x.2=k+1:=⟨x.2-1,ad⟩
 rw[hk]at eF;obtain⟨R,eR⟩:=c86 (H:=powT q H (dR c) k) (g:=dR c) eF fz ml.hi;have a:=eR (-c);rw[lv,show -c+c=0 by lia,aX,bS]at a
 by_cases h2:2<=x.2
 .refine⟨-c,⟨0,ad⟩,⟨_,a⟩,cW2 n1 fz ?_⟩
  have:=fine x hx h2;rw[e]at this;exact this
 .obtain rfl:k=0:=ad
  by_cases h:q*q∣ps f (-c) (n+1)
  .have b:=eR (-c-q);rw[lv]at b;have vd: ¬q∣ps H.2 (-c) (H.1+1):=λd=>vH (bP d)
   refine⟨-c-q,⟨-1,ad⟩,⟨-ps H.2 (-c-q) (H.1+1)+ps R (-c-q) (n+2),by rw[b];show ps H.2 (-c-q) (H.1+1)*_+_=_;grind⟩,λh'=>vd ?_⟩
   obtain⟨s,es⟩:=h;obtain⟨t,et⟩:=h';have q0:q≠0:=ad
   have c1:ps R (-c) (n+2)=q*s:=nW q0 (by grind)
   have c2: -ps H.2 (-c-q) (H.1+1)+ps R (-c-q) (n+2)=q*t:=nW q0 (by
    have:ps (powT q H (dR c) 0).2 (-c-q) ((powT q H (dR c) 0).1+1)=ps H.2 (-c-q) (H.1+1):=rfl;rw[this]at b
    grind)
   have g1:=rP (q:=q) (z:= -c-q) (w:= -c) ⟨-1,ad⟩ H.2 (H.1+1)
   have g2:=rP (q:=q) (z:= -c-q) (w:= -c) ⟨-1,ad⟩ R (n+2)
   exact dv3 (x:= -1) (y:=1) (z:=s-t) g1 g2 (uZ q) (by grind)
  .exact⟨-c,⟨0,ad⟩,⟨_,a⟩,h⟩
def eA (u v:Int)(w:∅):Int:=w 0-v*w 2+u*v*w 3
def eB (u v:Int)(w:∅):Int:=w 1-u*w 2+(u*u-v)*w 3
def rA (u v:Int)(f:∅):Int:=f 0-v*f 2+u*v*f 3+(v*v-u*u*v)
def rB (u v:Int)(f:∅):Int:=f 1-u*f 2+(u*u-v)*f 3+(2*u*v-u*u*u)
theorem dP9 {u:Int}(fz: ∀j,4<j->f j=0)(f4:f 4=1)(h: ∃x∈sP 4 f (quF v u),x%(q*q)≠0): ¬(q*q∣rA u v f/\q*q∣rB u v f):=by
 rintro⟨d0,d1⟩;obtain⟨x,hx,nx⟩:=h;have lz: ∀j,2<j->(quF v u).2 j=0:=λj hj=>by
  show(if j=0 then v else if j=1 then u else if j=2 then 1 else 0)=0
  rw[a6 ad,a6 ad,a6 ad]
 have up:=aT7 (b:=(quF v u).2) (d:=2) rfl lz 3 (f:=f) (λm hm=>fz m ad)
 unfold sP rwF at hx;obtain⟨j,_,rfl⟩:=cC.mp hx
 by_cases z:j=0
 .subst z;refine nx (bP ?_);have e:divL (quF v u).2 2 3 f 0=rA u v f:=by
   simp[divL,divS,shF,quF,rA,f4]
   grind
  exact e▸d0
 .by_cases z1:j=1
  .subst z1;refine nx (bP ?_);have e:divL (quF v u).2 2 3 f 1=rB u v f:=by
    simp[divL,divS,shF,quF,rB,f4]
    grind
   exact e▸d1
  .exact nx (by rw[show divL (quF v u).2 (quF v u).1 (4+1-(quF v u).1) f j=0 from up j ad,cB])
theorem dQ0 (n2:2<=n)(n4:n<=4)(F:Nat×∅)(x w:∅)(l:Nat)(hl:l<n):dP6 p n F (eU p n x w) l=eU p n x (dP6 p n F w) l:=by
 have: ∀m,(gT m λk=>F.2 k*itT p n (eU p n x w) k l)=eU p n x (λl=>gT m λk=>F.2 k*itT p n w k l) l:=by
  intro m
  induction m with
  | zero=>
   exact(cJ _).symm.trans (bZ3 (p:=p) (n:=n) x (λ_=>0) 0 l).symm
  | succ m ih=>
   rw[cT,ih,cP5 n2 n4 x w m l hl,<-aF6]
   congr 1
   exact funext λl=>(cT m _).symm
 exact this _
theorem dQ1 (rp:dO p)(hn:p.length=n+1)(q:Int)(u:∅)(l:Nat)(hl:l<n):q∣dP6 p n (n,md q<|fOf p) u l:=by
 have e:q∣dP6 p n (n,md q<|fOf p) u l-gT (n+1) λk=>fOf p k*itT p n u k l:=by
  have: ∀m,q∣(gT m λk=>fOf p k%q*itT p n u k l)-gT m λk=>fOf p k*itT p n u k l:=by
   intro m
   induction m with
   | zero=>exact⟨0,by show(0:Int)-0=q*0;lia⟩
   | succ m ih=>
    rw[cT,cT];exact cgA ih (cgM (cgE _)<|cgR _)
  exact this _
 refine(cgT e).mpr ⟨0,?_⟩
 have z:q*0=0:=aX q;rw[z];rcases rp.cases with⟨x,y,rfl,_⟩| ⟨x,y,z,rfl,_⟩| ⟨x,y,z,w,rfl,_⟩
 .have h:3=n+1:=hn;obtain rfl:n=2:=ad
  have:=cay2 [x,y,1] u l hl;simp[gT,bL,fOf]at this⊢
  lia
 .have h:4=n+1:=hn;obtain rfl:n=3:=ad
  have:=cay3 [x,y,z,1] u l hl;simp[gT,bL,fOf]at this⊢
  lia
 .have h:5=n+1:=hn;obtain rfl:n=4:=ad
  have:=cay4 [x,y,z,w,1] u l hl;simp[gT,bL,fOf]at this⊢
  lia
def l8 (l:List Int):D:= .lst (l.map .int)
theorem c87 (h:i<t.length):atI (t.map l8) (0+(i:Int))=some (l8<|t.getD i []):=by
 rw[bS];refine cY ?_;rw[bI,aM h,aJ,aM h];rfl
theorem bE8 (n:Nat)(it:Nat->D)(ρ1:Ev)(hui: ∀Q:Nat->(Nat->D)->Ev->Prop,Q n it ρ1->ui ρ Q)(hn:n<=1000000)
  (G:Option B->List D->Ev) (x0:Option B) (h0:tQ (aA1 ρ1 js) cap last=G x0 []) (h1: ∀x l b,(G x l).set t0 (some b)=G (some b) l) (h1': ∀x l,t0< (G x l).length) (h2: ∀x l (Q:List D->Prop),Q l->oU (G x l) last Q) (h3: ∀x l l',(G x l).set last (↑l')=G x l')
  (f:Nat->List D) (hte: ∀i l (Q':B->Ev->Prop),i<n->Q' (.ow<|f i) (G (~~~it i) l)->te (G (~~~it i) l) Q') (hq:Q (.ow<|(List.range n).map λi=> .lst (f i)) (aA1 ρ1 js)) :
  fJ js cap last ui (cE t0) (λρ Q=>Q true ρ) te ρ Q:=by
 refine hui _ ⟨λi ρ'=> ∃x,ρ'=G x ((List.range i).map λi=> .lst (f i)),⟨x0,h0⟩,?_,?_⟩
 .rintro i ρ' hi ⟨x,rfl⟩;refine⟨h1' _ _,?_⟩;rw[h1];right;rw[a7 rfl];refine hte i _ _ hi (h2 _ _ _ ⟨?_,~~~it i,?_⟩)
  .rw[aF,uO];exact aZ hi (aI hn ac)
  .rw[h3,bL,bV];rfl
 .rintro ρ' ⟨x,rfl⟩;exact h2 _ _ _ hq
def jZ (n:Nat):Φ:=λds Q=> ∃t:List (List Int),ds=[.lst<|t.map l8]/\Sq n t/\Q (.pu<|.int<|d5 n t)
def bZ6 (jZ:Φ):US:=(aQ (fE (cO<|uOp (fH false) (jE<|aS 0)<|uC<|.int 1) (d6<|uIx (uV<|uIx (aS 0)<|uC<|.int 0)<|uC<|.int 0) cX)<|aQ (bN 1<|uC<|.int 0)<|aQ (jI (jJ<|a8 (jE<|aS 0) aP) (cE 2)<|aQ (bN 3<|fJ [] [none,none] 1 (i7<|uOp gI (uSl (aS 0) jA<|n8<|aB 2)<|uSl (aS 0) (n8<|uOp gI (aB 2)<|uC<|.int 1) jA) (cE 0) (λρ Q=>Q true ρ)<|uSl (aS 0) (n8<|uC<|.int 1) jA)<|bN 1<|uOp gI (aB 1)<|uOp bZ (uOp bZ (uOp M.gSub (uC<|.int 1)<|uOp bZ (uC<|.int 2)<|uOp jC (aB 2)<|uC<|.int 2)<|uIx (uV<|uIx (aS 0)<|aB 2)<|uC<|.int 0)<|aV jZ<|a8 (aB 3) aP)<|tP 1)
theorem aT8 (n:Nat): ∀ds Q,jZ n ds Q->ds.length=1:=by rintro ds Q ⟨a,rfl,_⟩;rfl
theorem cW3: ∀ds Q,¬jZ 0 ds Q:=by
 rintro ds Q ⟨t,rfl,sq,_⟩;have:=sq.pos;have:=sq.le
 lia
theorem cW4 (hi:i<t.length):cutD (t.map l8) none (some (i:Int))++cutD (t.map l8) (some<|(i:Int)+1) none=(t.eraseIdx i).map l8:=by
 have hl:(t.map l8).length=t.length:=aF _;have e1:cutD (t.map l8) none (some (i:Int))=(t.take i).map l8:=by rw[aN4 _ _ ad,oC]
 have e2:cutD (t.map l8) (some<|(i:Int)+1) none=(t.drop<|i+1).map l8:=by
  have:=aA6 (t.map l8) (i+1) ad
  rw[uX]
  exact_mod_cast this
 rw[e1,e2,<-bV,<-List.eraseIdx_eq_take_drop_succ]
theorem c88 (hi:i<t.length)(h1000:t.length<=1000)(hr: ∀r∈t,1<=r.length)(hui: ∀Q':Nat->(Nat->D)->Ev->Prop,Q' ((t.eraseIdx i).map l8).length (λk=>((t.eraseIdx i).map l8).getD k .non) ρ->ui ρ Q')(h:Q (.ow<|((t.eraseIdx i).map List.tail).map l8) ρ) :
  fJ [] [none,none] 1 ui (cE 0) (λρ Q=>Q true ρ) (uSl (aS 0) (n8<|uC<|.int 1) jA) ρ Q:=by
 have le:(t.eraseIdx i).length=t.length-1:=uE hi;refine bE8 (t0:=0) ((t.eraseIdx i).map l8).length (λk=>((t.eraseIdx i).map l8).getD k .non) ρ hui (by rw[aF];lia)
  (λx l=>[x,↑l]) none rfl (λ_ _ _=>rfl) (λ_ _=>cN _) (λ_ _ _ q=>q) (λ_ _ _=>rfl) (λk=>(((t.eraseIdx i).getD k []).tail).map .int) ?_ ?_
 .intro k l Q' hk q;rw[aF]at hk;have ek:((t.eraseIdx i).map l8).getD k .non=l8 ((t.eraseIdx i).getD k []):=by
   rw[aJ,aJ,bI,aM hk];rfl
  have hm:1<=((t.eraseIdx i).getD k []).length:=by
   rw[aJ,aM hk];exact hr _ (a01<|cQ hk)
  rw[ek]at q⊢;generalize (t.eraseIdx i).getD k []=r at hm q;simp only[l8]at q⊢;left;have lr:(r.map D.int).length=r.length:=aF _;have ec:cutD (r.map D.int) (some 1) none=r.tail.map D.int:=by
   have:=aA6 (r.map D.int) 1 ad
   rw[show((1:Nat):Int)=1 from rfl]at this
   rw[this,<-uX,drop_one]
  rw[ec];exact q
 .have em:(List.range ((t.eraseIdx i).map l8).length).map (λk=>l8 (((t.eraseIdx i).getD k []).tail))=((t.eraseIdx i).map List.tail).map l8:=by
   rw[aF];apply kM
   .simp
   .intro k h1 h2;simp at h1;simp[h1,aJ]
  show Q (.ow<|(List.range ((t.eraseIdx i).map l8).length).map λk=>l8 (((t.eraseIdx i).getD k []).tail)) _
  rw[em];exact h
theorem b80 (n:Nat)(hn:n<4): ∀ds Q,jZ (n+1) ds Q->bZ6 (jZ n) {nx:=λ_=>Q (.pu .non),rt:=Q} (init ["t","o","i","m"] ds):=by
 rintro ds Q ⟨t,rfl,sq,h⟩;have hp:=sq.pos;have hle:=sq.le;have lt:(t.map l8).length=t.length:=aF _;have lrow: ∀i,i<t.length->0< (t.getD i []).length:=λi hi=>by
  rw[aJ,aM hi];have:=sq.row _ (cQ hi);show 0< (t[i]).length
  lia
 unfold bZ6;show(aQ _ _:US) _ [~~~.lst (t.map l8),none,none,none];left;rw[lt];split
 .rename_i h1
  have h1':t.length=1:=ad
  have:=c87 (t:=t) (i:=0) ad
  rw[show(0:Int)+((0:Nat):Int)=0 from rfl]at this
  rw[this];simp only[l8];rw[zD<|lrow 0 ad]
  unfold d5 at h;rw[a7 h1']at h;exact h
 .rename_i h1
  have h1':t.length≠1:=ad
  unfold d5 at h;rw[a6 h1']at h;refine bM t.length (λi=> .int (0+i)) [~~~.lst (t.map l8),!0,none,none] ?_ (λi ρ=> ∃x y,ρ=[~~~.lst (t.map l8),some<|.pu<|.int ((List.range i).map λi=>(if i%2=0 then 1 else -1)*(t.getD i []).getD 0 0*d5 n ((t.eraseIdx i).map List.tail)).sum,x,y]) ?_ ?_ ?_
  .intro Q' q;simp only[jJ];left;rw[lt];refine⟨⟨ad,ad⟩,?_⟩
   rw[dU];exact q
  .exact⟨none,none,rfl⟩
  .rintro i ρ hi ⟨x,y,rfl⟩;rw[bS];refine⟨ae,?_⟩
   dsimp only[set_cons_zero,set_cons_succ];rw[aL,pJ];refine c88 hi ad (λr hr=>by rw[sq.row r hr];exact hp) (λQ' q=> ?_) ?_
   .simp only[i7];left;rw[<-dD,cW4 hi];exact⟨aI (show _<=2000 by rw[aF,uE hi];lia) ac,q⟩
   left
   have ai:=c87 hi;rw[bS]at ai;rw[ai,bY _ ad]
   simp only[l8];rw[zD<|lrow i hi];have e1:1-2*((i:Int)%2)=(if i%2=0 then(1:Int)else -1):=by
    split<;>lia
   have eg:t.getD i []=t[i]:=by rw[aJ,aM hi];rfl
   have en:((t.getD i []).getD 0 0).natAbs<=2^2000:=by
    have h0:=lrow i hi;rw[eg]at h0⊢;rw[aJ,aM h0];exact oE (sq.small _ (cQ hi) _<|cQ h0)
   have se:Sm ((t.getD i []).getD 0 0):=Sm.pow en ac
   have sg:Sm (if i%2=0 then(1:Int)else -1):=by split<;>exact aN3 ac ac
   have sp:Sm ((if i%2=0 then(1:Int)else -1)*(t.getD i []).getD 0 0):=by
    refine Sm.pow (k:=2000) ?_ ac
    rw[dX];have e1:(if i%2=0 then(1:Int)else -1).natAbs=1:=by split<;>rfl
    rw[e1,a34];exact en
   have sd:Sm (d5 n<|(t.eraseIdx i).map List.tail):=Sm.pow (aZ7 n _ ad<|sq.less h1' hi) ad
   have sm:Sm ((i:Int)%2):=aN3 ad ad
   rw[e1];refine⟨ac,.inr ⟨aN3 ac ac,sm⟩,.inr ⟨sg,se⟩,(t.eraseIdx i).map List.tail,rfl,sq.less h1' hi,.inr ⟨sp,sd⟩,?_⟩
   rw[bL,bV,a21];simp
  .rintro ρ ⟨x,y,rfl⟩;left;exact h
theorem cP6 (g:∅)(r:Int): ∀k,ps g r (k+1)=g 0+r*ps (λl=>g (l+1)) r k
 | 0=>by show 0+g 0*r^0=g 0+r*0;rw[cR];lia
 | k+1=>by
  show ps g r (k+1)+g (k+1)*r^(k+1)=g 0+r*(ps (λl=>g (l+1)) r k+g (k+1)*r^k)
  rw[cP6 g r k,gM]
  grind
noncomputable def syn (f:∅)(r:Int)(N:Nat):∅:=λj=>ps (λl=>f (j+1+l)) r (N-j)
theorem aT9 (h:j<N):syn f r N j=f (j+1)+r*syn f r N (j+1):=by
 unfold syn;obtain⟨k,hk⟩: ∃k,N-j=k+1:=⟨N-j-1,ad⟩
 rw[hk,cP6,show N-(j+1)=k by lia]
 congr 3
 exact funext λl=>by rw[show j+1+(l+1)=j+1+1+l by lia]
theorem bZ7 (h:N<=j):syn f r N j=0:=by
 unfold syn;rw[show N-j=0 by lia]
 rfl
theorem dB6 (f:∅)(r:Int)(N:Nat):ps f r (N+1)=f 0+r*syn f r N 0:=by
 rw[cP6];unfold syn
 congr 3
 exact funext λl=>by rw[show 0+1+l=l+1 by lia]
theorem tt_own (r:Int)(n1:1<=n)(top:p.getD n 0=1)(j:Nat)(hj:j<n):ttF p n (syn (fOf p) r n) j+(-r)*syn (fOf p) r n j=mV (-ps (fOf p) r (n+1)) j:=by
 have q1:syn (fOf p) r n (n-1)=1:=by
  rw[aT9 ad,show n-1+1=n by lia,bZ7<|aD n,show fOf p n=1 from top]
  lia
 unfold ttF mV;rw[q1]
 by_cases z:j=0
 .subst z;have:=dB6 (fOf p) r n;rw[a7 rfl,a7 rfl,this];show 0-1*fOf p 0+_=_
  grind
 .obtain⟨k,rfl⟩: ∃k,j=k+1:=⟨j-1,ad⟩
  rw[a6 z,a6 z,gW,aT9 (j:=k) ad]
  show fOf p (k+1)+_-1*fOf p (k+1)+_=_
  grind
theorem ps_con (n1:1<=n)(c r:Int):ps (mV c) r n=c:=by
 obtain⟨m,rfl⟩: ∃m,n=m+1:=⟨n-1,ad⟩
 have a:ps (λl=>mV c (l+1)) r m=0:=(cJ5 (u:=λl=>mV c (l+1)) (v:=λ_=>0) m λj _=>a6 (Nat.succ_ne_zero j)).trans (bS6 r m)
 rw[cP6,a,aX,dY];rfl
theorem aU0 (n1:1<=n)(top:p.getD n 0=1)(r z:Int):ps (fOf p) z (n+1)=ps (fOf p) r (n+1)+(z-r)*ps (syn (fOf p) r n) z n:=by
 have q1:syn (fOf p) r n (n-1)=1:=by
  rw[aT9 ad,show n-1+1=n by lia,bZ7<|aD n,show fOf p n=1 from top]
  lia
 have a:=ps_tt (p:=p) (syn (fOf p) r n) z n1 top;have b:=cJ5 (r:=z) n (tt_own r n1 top);rw[bZ4,a,q1]at b;rw[ps_con n1]at b
 grind
theorem nr2 (a b:Int):nrm [a,b,1] 2 (vX [a,b,1])= -dA a b:=by
 have D:=bE2 (itT [a,b,1] 2<|vX [a,b,1]);have e00:itT [a,b,1] 2 (vX [a,b,1]) 0 0=(1+((0:Nat):Int))*b:=rfl;have e01:itT [a,b,1] 2 (vX [a,b,1]) 0 1=(1+((1:Nat):Int))*1:=rfl;have e10:itT [a,b,1] 2 (vX [a,b,1]) 1 0=0-itT [a,b,1] 2 (vX [a,b,1]) 0 1*a:=rfl;have e11:itT [a,b,1] 2 (vX [a,b,1]) 1 1=itT [a,b,1] 2 (vX [a,b,1]) 0 0-itT [a,b,1] 2 (vX [a,b,1]) 0 1*b:=rfl
 have N:nrm [a,b,1] 2 (vX [a,b,1])=d5 4 (tbL 2<|itT [a,b,1] 2<|vX [a,b,1]):=rfl;rw[N,D];clear N D;generalize itT [a,b,1] 2 (vX [a,b,1]) 0 0=x00 at *;generalize itT [a,b,1] 2 (vX [a,b,1]) 0 1=x01 at *;generalize itT [a,b,1] 2 (vX [a,b,1]) 1 0=x10 at *;generalize itT [a,b,1] 2 (vX [a,b,1]) 1 1=x11 at *;subst e00 e01 e10 e11;unfold dA
 grind
def IP (F:Int->Int):Prop:= ∃c:List Int,∀z,F z=gS c z
theorem IP.con (a:Int):IP λ_=>a:=⟨[a],λz=>by show a=0*z+a;lia⟩
theorem IP.id:IP λz=>z:=⟨[0,1],λz=>by show z=(0*z+1)*z+0;lia⟩
theorem IP.add {F G:Int->Int}(hF:IP F)(hG:IP G):IP λz=>F z+G z:=by
 obtain⟨a,ha⟩:=hF;obtain⟨b,hb⟩:=hG;have: ∀a b:List Int,∃c,∀z,gS a z+gS b z=gS c z:=by
  intro a
  induction a with
  | nil=>exact λb=>⟨b,λz=>by show 0+gS b z=_;lia⟩
  | cons x a ih=>
   intro b;cases b with
   | nil=>exact⟨x::a,λz=>by show _+0=_;lia⟩
   | cons y b=>
    obtain⟨c,hc⟩:=ih b;refine⟨(x+y)::c,λz=> ?_⟩
    show gS a z*z+x+(gS b z*z+y)=gS c z*z+(x+y)
    rw[<-hc]
    grind
 obtain⟨c,hc⟩:=this a b;exact⟨c,λz=>by show F z+G z=_;rw[ha,hb,hc]⟩
theorem IP.mul {F G:Int->Int}(hF:IP F)(hG:IP G):IP λz=>F z*G z:=by
 obtain⟨a,ha⟩:=hF;have: ∀a:List Int,IP λz=>gS a z*G z:=by
  intro a
  induction a with
  | nil=>exact⟨[],λz=>cJ _⟩
  | cons x a ih=>
   obtain⟨c,hc⟩:=ih;obtain⟨b,hb⟩:=hG;obtain⟨d,hd⟩:=IP.add (F:=λz=>gS (0::c) z) (G:=λz=>gS (b.map (x*·)) z) ⟨_,λ_=>rfl⟩ ⟨_,λ_=>rfl⟩
   refine⟨d,λz=> ?_⟩
   rw[<-hd];have e: ∀b:List Int,gS (b.map (x*·)) z=x*gS b z:=by
    intro b
    induction b with
    | nil=>show(0:Int)=x*0;lia
    | cons y b ih=>
     show gS (b.map (x*·)) z*z+x*y=x*(gS b z*z+y)
     rw[ih]
     grind
   show(gS a z*z+x)*G z=gS c z*z+0+gS (b.map (x*·)) z
   rw[e,<-hb,<-hc]
   grind
 obtain⟨c,hc⟩:=this a;exact⟨c,λz=>by show F z*G z=_;rw[ha];exact hc z⟩
theorem IP.det (n2:2<=n)(n4:n<=4){M:Int->Nat->∅}(h: ∀i j,IP λz=>M z i j):IP λz=>d5 4 (tbL n<|M z):=by
 match n,n2,n4 with
 | 2,_,_=>
  simp only[bE2]
  repeat' first|exact h _ _|exact IP.con _|apply IP.add|apply IP.mul
 | 3,_,_=>
  simp only[bR8]
  repeat' first|exact h _ _|exact IP.con _|apply IP.add|apply IP.mul
 | 4,_,_=>
  simp only[bR9]
  repeat' first|exact h _ _|exact IP.con _|apply IP.add|apply IP.mul
theorem cP7 {P:Int}: ∀(W:Nat) (h:∅) (c:List Int),(∀z,z≠0->gS (rwF W h) z=P*gS c z)-> ∀m,m<W->P∣h m
 | 0,_,_,_,m,hm=>absurd hm (r6 _)
 | W+1,h,c,hv,m,hm=>by
  obtain⟨c0,c',hc⟩: ∃c0 c',∀z,gS c z=gS c' z*z+c0:=by
   cases c with
   | nil=>exact⟨0,[],λz=>by show(0:Int)=0*z+0;lia⟩
   | cons a c=>exact⟨a,c,λz=>rfl⟩
  have e:rwF (W+1) h=h 0::rwF W λj=>h (j+1):=by
   unfold rwF;rw[List.range_succ_eq_map,fM,eZ];rfl
  have hz: ∀z,z≠0->(gS (rwF W λj=>h (j+1)) z-P*gS c' z)*z=P*c0-h 0:=λz z0=>by
   have:=hv z z0;rw[e,hc]at this;have:gS (rwF W λj=>h (j+1)) z*z+h 0=P*(gS c' z*z+c0):=this
   grind
  have h0:P*c0-h 0=0:=by
   have d:=hz (((P*c0-h 0).natAbs:Int)+1) ad
   refine gK λne=> ?_
   have:=iL (a:=((P*c0-h 0).natAbs:Int)+1) (b:=((P*c0-h 0).natAbs:Int)) ad (Int.dvd_natAbs.mpr ⟨_,d.symm.trans<|fZ _ _⟩)
   lia
  have rc:=cP7 (P:=P) W (λj=>h (j+1)) c' λz z0=>by
   have:=hz z z0;rw[h0]at this;rcases Int.mul_eq_zero.mp this with q|q
   .lia
   .exact absurd q z0
  cases m with
  | zero=>exact⟨c0,ad⟩
  | succ m=>exact rc m ad
theorem mE (a:∅)(z:Int): ∀U,gS (rwF (U+1) a) z=gS (rwF U a) z+a U*z^U:=by
 intro U;have: ∀(l:List Int) (x:Int),gS (l++[x]) z=gS l z+x*z^l.length:=by
  intro l
  induction l with
  | nil=>intro x;show 0*z+x=0+x*z^0;rw[cR];lia
  | cons y l ih=>
   intro x;show gS (l++[x]) z*z+y=gS l z*z+y+x*z^(l.length+1);rw[ih,gM]
   grind
 have e:rwF (U+1) a=rwF U a++[a U]:=by
  unfold rwF;rw[bL,bV];rfl
 rw[e,this,mT]
theorem cP8 (a b:∅)(c z:Int): ∀U,gS (rwF U λj=>a j+c*b j) z=gS (rwF U a) z+c*gS (rwF U b) z
 | 0=>by show(0:Int)=0+c*0;lia
 | U+1=>by rw[mE,mE,mE,cP8 a b c z U];grind
theorem bZ8 {a b:∅}(z:Int)(h: ∀j,j<U->a j=b j):gS (rwF U a) z=gS (rwF U b) z:=by rw[hV h]
theorem dB7 (b:∅)(z:Int)(k:Nat): ∀V,gS (rwF (k+V)<|shF b k) z=z^k*gS (rwF V b) z
 | 0=>by
  have: ∀m,m<=k->gS (rwF m<|shF b k) z=0:=by
   intro m
   induction m with
   | zero=>exact λ_=>rfl
   | succ m ih=>exact λh=>by rw[mE,ih ad,show shF b k m=0 from a6 ad,cJ];rfl
  exact(this k<|aD _).trans (aX _).symm
 | V+1=>by
  rw[<-iK,mE,dB7 b z k V,mE,show shF b k (k+V)=b V by unfold shF;rw[a7 ad,show k+V-k=V by lia],a36]
  grind
theorem c89 {a b:∅}{V:Nat}(hb: ∀j,V<=j->b j=0)(z:Int)(W:Nat): ∀U,U<=W->gS (rwF (W+V)<|conv a b U) z=gS (rwF U a) z*gS (rwF V b) z
 | 0,_=>by
  have: ∀m,gS (rwF m<|conv a b 0) z=0:=by
   intro m
   induction m with
   | zero=>rfl
   | succ m ih=>rw[mE,ih,show conv a b 0 m=0 from rfl,cJ];rfl
  exact(this _).trans (cJ _).symm
 | U+1,h=>by
  have e1:gS (rwF (W+V)<|conv a b (U+1)) z=gS (rwF (W+V) λj=>conv a b U j+a U*shF b U j) z:=bZ8 z λj _=>rfl
  have e2:gS (rwF (W+V)<|shF b U) z=gS (rwF (U+V)<|shF b U) z:=by
   have: ∀k,gS (rwF (U+V+k)<|shF b U) z=gS (rwF (U+V)<|shF b U) z:=by
    intro k
    induction k with
    | zero=>rfl
    | succ k ih=>rw[<-iK,mE,ih,show shF b U (U+V+k)=0 by unfold shF;rw[a7 ad,hb _ ad],cJ,dY]
   rw[show W+V=U+V+(W-U)by lia,this]
  rw[e1,cP8,c89 hb z W U ad,e2,dB7,mE]
  grind
theorem dB8 (pr:PrI P){d e:Nat}: ∀(N r s:Nat) (a b:∅),r+s<=N->(∀j,d<j->a j=0)->(∀j,e<j->b j=0)->b e=P^s->(∀m,P^(s+r)∣conv a b (d+1) m)-> ∀j,P^r∣a j:=by
 have lo:=pr.lo;intro N
 induction N with
 | zero=>
  intro r s a b hN _ _ _ _ j;rw[show r=0 by lia,cR]
  exact one_dvd _
 | succ N ih=>
  intro r s a b hN ha hb be h j;cases r with
  | zero=>rw[cR];exact one_dvd _
  | succ r=>
   rcases cP0 pr (e:=e) (λm=>a23 ⟨P^(s+r),by rw[<-iK,gM,fZ]⟩ (h m))with c|c
   .obtain⟨a',ha',ea⟩:=cP1 ha c;have rc:=ih r s a' b ad ha' hb be (λm=>by
     have:=h m;rw[show a=λj=>P*a' j from funext ea,aF4,<-iK,gM,fZ<|P^(s+r)]at this
     exact aI7 ad this) j
    rw[ea,gM,fZ];exact Int.mul_dvd_mul_left P rc
   .cases s with
    | zero=>
     have:=c e (aD _);rw[be,cR]at this;have:=iL ac this
     lia
    | succ s=>
     obtain⟨b',hb',eb⟩:=cP1 hb c;refine ih (r+1) s a b' ad ha hb' ?_ (λm=> ?_) j
     .rw[eb,gM,fZ]at be;exact Int.eq_of_mul_eq_mul_right ad be
     .have:=h m;rw[show b=λj=>P*b' j from funext eb,bS5,show s+1+(r+1)=s+(r+1)+1 by lia,gM,fZ<|P^(s+(r+1))]at this
      exact aI7 ad this
theorem dB9 (pr:PrI P){d e:Nat}(r s:Nat)(a b:∅)(ha: ∀j,d<j->a j=0)(hb: ∀j,e<j->b j=0)(be:b e=P^s)(h: ∀m,P^(s+r)∣conv a b (d+1) m): ∀j,P^r∣a j:=dB8 pr (r+s) r s a b (aD _) ha hb be h
theorem aC2 (u v w:∅)(c:Int)(j:Nat):eU p n (λi=>u i+c*v i) w j=eU p n u w j+c*eU p n v w j:=by
 show(gT n λi=>w i*itT p n (λi=>u i+c*v i) i j)=_
 have: ∀m,(gT m λi=>w i*itT p n (λi=>u i+c*v i) i j)=(gT m λi=>w i*itT p n u i j)+c*gT m λi=>w i*itT p n v i j:=by
  intro m
  induction m with
  | zero=>show(0:Int)=0+c*0;lia
  | succ m ih=>rw[cT,cT,cT,ih,pP];grind
 exact this n
theorem cP9 (n1:1<=n)(u:∅)(w:Int)(j:Nat):eU p n u (mV w) j=w*u j:=by
 have e:mV w=λj=>w*mV 1 j:=funext λj=>by unfold mV;split<;>lia
 rw[e,bZ3,cP3 n1]
theorem dC0 (n2:2<=n)(n4:n<=4)(z:Int):nrm p n (λj=>mV z j+(-1)*u j)=gS (rwF (n+1) λj=>chn n (itT p n u) (n-j)) z:=by
 rw[dP2 n2 n4];unfold nrm;refine bW (d5 4) (cJ3 λi j hi hj=> ?_)
 have e:(λj=>mV z j+(-1)*u j)=λj=>(λj=>(-1)*u j) j+z*mV 1 j:=by
  funext j
  unfold mV;split<;>lia
 have e2:(λj=>(-1)*u j)=λj=>(λ_=>(0:Int)) j+(-1)*u j:=funext λj=>ad
 have e3: ∀i j,itT p n (λ_=>0) i j=0:=by
  intro i
  induction i with
  | zero=>exact λ_=>rfl
  | succ i ih=>
   intro j;show ttF p n (itT p n (λ_=>0) i) j=0
   rw[show itT p n (λ_=>0) i=λ_=>0 from funext ih]
   unfold ttF;split<;>simp
 rw[e,pP,e2,pP,e3,dB0 n2 n4 i j hi hj]
 lia
theorem cJ6 (a:∅)(q z:Int): ∀U,gS (rwF U a) (q*z)=gS (rwF U λj=>a j*q^j) z
 | 0=>rfl
 | U+1=>by rw[mE,mE,cJ6 a q z U,Int.mul_pow];grind
theorem nrm_sc (n2:2<=n)(n4:n<=4)(c:Int)(u:∅):nrm p n (λj=>c*u j)=c^n*nrm p n u:=by
 have e: ∀i j,itT p n (λj=>c*u j) i j=c*itT p n u i j:=λi j=>by
  have:=pP (p:=p) (n:=n) u u (c-1) i j;rw[show(λi=>u i+(c-1)*u i)=λj=>c*u j from funext λj=>by grind]at this
  rw[this]
  grind
 have h:=chn_sc n2 n4 c (itT p n u) n (aD _);rw[bZ2 n2 n4,bZ2 n2 n4]at h;unfold nrm;rw[b14 λi j _=>e i j]
 split at h<;>lia
theorem dQ2 (n1:1<=n){v:∅}(h: ∀j,j<n->u j=v j):nrm p n u=nrm p n v:=by
 unfold nrm;rw[b14 λi j hj=>bE5 n1 h i j hj]
theorem dQ3 (n2:2<=n)(n4:n<=4)(pr:PrI q){x s c:∅}(h: ∀j,j<n->eU p n x x j=q*eU p n s x j+q*q*c j)(k:Nat)(hk:k<=n):q^k∣chn n (itT p n x) k:=by
 have n1:1<=n:=ad
 have lo:=pr.lo
 let a:∅:=λj=>if j<=n then chn n (itT p n x) (n-j)*q^j else 0
 let b:∅:=λj=>if j<=n then chn n (itT p n λi=>q*s i+(-1)*x i) (n-j)*q^j else 0
 have hD:IP λz=>nrm p n (λj=>z*mV z j+(-1)*(z*s j+c j)):=by
  unfold nrm;refine IP.det n2 n4 λi j=> ?_
  have e: ∀z,itT p n (λj=>z*mV z j+(-1)*(z*s j+c j)) i j=z*z*itT p n (mV 1) i j+(-1)*(z*itT p n s i j+itT p n c i j):=λz=>by
   have e1:(λj=>z*mV z j+(-1)*(z*s j+c j))=λj=>(λj=>(λj=>(λ_=>(0:Int)) j+(z*z)*mV 1 j) j+(-z)*s j) j+(-1)*c j:=funext λj=>by
    unfold mV;split<;>grind
   have e3:=pP (p:=p) (n:=n) (λ_=>0) (λ_=>0) 0 i j
   rw[e1,pP,pP,pP];have e4:itT p n (λ_=>0) i j=0:=by
    have:=pP (p:=p) (n:=n) (λ_=>0) (λ_=>0) 1 i j
    simp only[aX,dY,kS]at this
    lia
   rw[e4]
   grind
  simp only[e];exact .add (.mul (.mul .id .id)<|.con _) (.mul (.con _)<|.add (.mul .id<|.con _)<|.con _)
 obtain⟨D,hD⟩:=hD;have hv: ∀z,gS (rwF (n+1+(n+1))<|conv a b (n+1)) z=q^(n+n)*gS D z:=λz=>by
  rw[c89 (V:=n+1) (λj hj=>a6 ad) z (n+1) (n+1)<|aD _,<-hD]
  rw[bZ8 z (b:=λj=>chn n (itT p n x) (n-j)*q^j) λj hj=>a7 ad,bZ8 z (a:=b) (b:=λj=>chn n (itT p n λi=>q*s i+(-1)*x i) (n-j)*q^j) λj hj=>a7 ad]
  rw[<-cJ6,<-cJ6,<-dC0 n2 n4,<-dC0 n2 n4,<-dP0 _ _ n2 n4,a36,<-Int.mul_pow,<-nrm_sc n2 n4];refine dQ2 n1 λj hj=> ?_
  rw[aC2,b79 n2 n4 _ _ j hj,cP9 n1,aF6,cP9 n1,show(λi=>q*s i+(-1)*x i)=λi=>(λi=>q*s i) i+(-1)*x i from rfl,aF6,bZ3,h j hj,b79 n2 n4 x s j hj]
  unfold mV;split<;>grind
 have hd: ∀m,q^(n+n)∣conv a b (n+1) m:=λm=>by
  by_cases hm:m<n+1+(n+1)
  .exact cP7 (P:=q^(n+n)) _ (conv a b (n+1)) D (λz _=>hv z) m hm
  .rw[b34 (V:=n+1) (λj hj=>a6 ad) (n+1) m ad]
   exact v4 _
 have g:=dB9 pr (d:=n) (e:=n) n n a b (λj hj=>a6 ad) (λj hj=>a6 ad) (by
  show(if n<=n then chn n _ (n-n)*q^n else 0)=q^n
  rw[a7<|aD _,oF,dA9 n2 n4,kS]) hd (n-k)
 have g2:q^n∣(if n-k<=n then chn n (itT p n x) (n-(n-k))*q^(n-k)else 0):=g;rw[a7 ad,show n-(n-k)=k by lia]at g2
 rw[show q^n=q^(n-k)*q^k by rw[<-a36];congr 1;lia,fZ<|chn n _ k]at g2
 exact aI7 (Int.ne_of_gt<|Int.pow_pos ad) g2
theorem dC1 (n2:2<=n)(n4:n<=4)(pr:PrI q){x s c y:∅}(h: ∀j,j<n->eU p n x x j=q*eU p n s x j+q*q*c j)(k:Nat)(hk:k<=n):q^k∣chn n (itT p n λi=>x i+q*y i) k:=by
 refine dQ3 n2 n4 pr (s:=λi=>s i+2*y i) (c:=λi=>c i+(-1)*(eU p n s y i+eU p n y y i)) (λj hj=> ?_) k hk
 rw[aF6,aC2,aC2,aC2,aF6,aF6,h j hj,b79 n2 n4 x y j hj]
 grind
theorem c90 {u v b:∅}: ∀(N m:Nat),(∀j,j<N->u j=v j)->conv u b N m=conv v b N m
 | 0,_,_=>rfl
 | N+1,m,h=>by
  show conv u b N m+u N*shF b N m=conv v b N m+v N*shF b N m
  rw[c90 N m λj hj=>h j ad,h N ad]
theorem dC2 {b:∅}{d:Nat}: ∀(N:Nat) (f:∅) (m:Nat),f m=conv (divQ b d N f) b N m+divL b d N f m
 | 0,f,m=>by show f m=0+f m;lia
 | N+1,f,m=>by
  have ih:=dC2 (b:=b) (d:=d) N (divS b d N f) m;have e1:conv (divQ b d (N+1) f) b N m=conv (divQ b d N<|divS b d N f) b N m:=c90 N m λj hj=>a6 ad
  have e2:divQ b d (N+1) f N=f (N+d):=a7 rfl;show f m=conv (divQ b d (N+1) f) b N m+divQ b d (N+1) f N*shF b N m+divL b d N (divS b d N f) m;rw[e1,e2];have e3:divS b d N f m=f m-f (N+d)*shF b N m:=rfl
  lia
theorem Pr.prI (pq:Pr q):PrI q:=⟨pq.lo,λ_ _ h=>pq.or h⟩
noncomputable def atT (p:List Int)(n N:Nat)(F:∅):∅:=λl=>gT N λk=>F k*itT p n (mV 1) k l
theorem cQ0 {F:∅}(n2:2<=n)(n4:n<=4)(hN:N<=n)(hF: ∀j,N<=j->F j=0)(l:Nat)(hl:l<n):atT p n N F l=F l:=by
 have e:=bE7 (f:=λk=>F k*itT p n (mV 1) k l) (M:=N) (λj hj=>by rw[hF j hj,cJ]) (n-N)
 unfold atT;rw[<-e,show N+(n-N)=n by lia,<-dB3 hl F]
 exact rQ λk hk=>by
  rw[dB0 n2 n4 k l hk hl]
  by_cases c:k=l
  .rw[a7 c,a7 c.symm];lia
  .rw[a6 c,a6 λz=>c z.symm];lia
theorem cJ7 {p:List Int}{n:Nat}(F G:∅)(c:Int)(l:Nat): ∀N,atT p n N (λj=>F j+c*G j) l=atT p n N F l+c*atT p n N G l
 | 0=>by show(0:Int)=0+c*0;lia
 | N+1=>by
  have h:=cJ7 (p:=p) (n:=n) F G c l N;unfold atT at h⊢;rw[cT,cT,cT,h]
  grind
theorem dC3 {F G:∅}(h: ∀j,j<N->F j=G j)(l:Nat):atT p n N F l=atT p n N G l:=rQ λk hk=>by rw[h k hk]
theorem dQ4 (n2:2<=n)(n4:n<=4)(u F:∅)(N l:Nat)(hl:l<n):eU p n u (atT p n (N+1) F) l=gT (N+1) λk=>F k*itT p n u k l:=by
 have e:=dQ0 (p:=p) n2 n4 (N,F) u (mV 1) l hl;rw[show eU p n u (mV 1)=u from funext λj=>cP3 ad u j]at e
 exact e.symm
theorem cQ1 (n2:2<=n)(n4:n<=4){a b:∅}{A B:Nat}(hb: ∀j,B<j->b j=0)(l:Nat)(hl:l<n):atT p n (A+B+1) (conv a b (A+1)) l=eU p n (atT p n (B+1) b) (atT p n (A+1) a) l:=by
 rw[dQ4 n2 n4 _ _ _ l hl];unfold atT;rw[c85 hb (A+1)<|aD _];exact rQ λi _=>by
  rw[show itT p n (λl=>gT (B+1) λk=>b k*itT p n (mV 1) k l) i l=_ from dB4 b (λk=>itT p n (mV 1) k) i l (B+1)]
  congr 1
  exact rQ λj _=>by rw[cP4,a27]
theorem at_own (rp:dO p)(hn:p.length=n+1)(l:Nat)(hl:l<n):atT p n (n+1) (fOf p) l=0:=by
 have h:=dQ1 rp hn 0 (mV 1) l hl;rw[show md 0 (fOf p)=fOf p from funext λj=>Int.emod_zero _]at h
 exact Int.zero_dvd.mp h
theorem dQ5 (rp:dO p)(hn:p.length=n+1)(o:bY4 n (fOf p) size q g): ∃s c:∅,∀j,j<n->eU p n (divQ g.2 g.1 (n+1-g.1)<|fOf p) (divQ g.2 g.1 (n+1-g.1)<|fOf p) j=q*eU p n s (divQ g.2 g.1 (n+1-g.1)<|fOf p) j+q*q*c j:=by
 have lo:=rp.ok.lo;have hi:=rp.ok.hi;have n2:2<=n:=ad
 have n4:n<=4:=ad
 have n1:1<=n:=ad
 have rf:=rp.rf;rw[show p.length-1=n by lia]at rf
 have pq:=a53 o.pr;have q2:=pq.lo;obtain⟨R,mR,tw⟩:=o.tw;have mg:=o.mg;have g1:=o.g1;have d1:n=g.1+g.1+R.1:=bW Prod.fst tw;have hN:n+1-g.1=R.1+g.1+1:=ad
 rw[hN];generalize hh:divQ g.2 g.1 (R.1+g.1+1) (fOf p)=h;have hz: ∀j,R.1+g.1+1<=j->h j=0:=λj hj=>by rw[<-hh];exact xB _ _ j hj
 have id:=λm=>dC2 (b:=g.2) (d:=g.1) (R.1+g.1+1) (fOf p) m
 rw[hh]at id;have up:=aT7 (b:=g.2) (d:=g.1) mg.top mg.hi (R.1+g.1+1) (f:=fOf p) (λm hm=>rf.hi m ad)
 have rq: ∀m,q*q∣divL g.2 g.1 (R.1+g.1+1) (fOf p) m:=λm=>by
  by_cases c:m<gQ (divL g.2 g.1 (n+1-g.1)<|fOf p) (n+1)
  .rw[hN]at c;refine b7 (o.all _ ?_);unfold sP;rw[hN];exact cC.mpr ⟨m,dW.mpr c,rfl⟩
  .rw[hN]at c;rw[a52 (n:=n+1) (λj hj=>up j ad) m ad]
   exact v4 _
 generalize divL g.2 g.1 (R.1+g.1+1) (fOf p)=r at *;have cg: ∀m,q∣conv (λj=>h j+(-1)*conv R.2 g.2 (R.1+1) j) g.2 (R.1+g.1+1) m:=λm=>by
  have t2:(n,md q<|fOf p)=tm q (tm q R g) g:=by
   rw[tw,<-vR mg.hi,sB mg.hi (MP.tm pq.lo mg mR).hi,sB mg.hi mR.hi]
  have t3:fOf p m%q=conv (md q<|conv R.2 g.2 (R.1+1)) g.2 (R.1+g.1+1) m%q:=congrFun (bW Prod.snd t2) m;rw[bC9]at t3;rw[b00,aF4];have t4:=id m;have t5:q∣r m:=a23 ⟨q,rfl⟩ (rq m);have t6:=dA8 t3;exact dv2 (x:=1) (y:= -1) t6 t5 ad
 have ed: ∀j,j<R.1+g.1+1->q∣h j+(-1)*conv R.2 g.2 (R.1+1) j:=by
  rcases cP0 pq.prI (e:=g.1) cg with c|c
  .exact λj hj=>c j ad
  .have:=c g.1 (aD _);rw[mg.top]at this;have:=iL ac this
   lia
 let e:∅:=λj=>(h j+(-1)*conv R.2 g.2 (R.1+1) j)/q
 let gE:=atT p n (g.1+1) g.2
 let RE:=atT p n (R.1+1) R.2
 let eE:=atT p n (R.1+g.1+1) e
 let rE:=atT p n (n+1) λj=>r j/(q*q)
 have hx: ∀l,l<n->h l=eU p n gE RE l+q*eE l:=λl hl=>by
  rw[<-cQ1 n2 n4 mg.hi l hl,<-cJ7,<-cQ0 (p:=p) n2 n4 ad hz l hl]
  refine dC3 (λj hj=> ?_) l
  rw[a07<|ed j hj]
  lia
 have gx: ∀l,l<n->eU p n gE h l= -(q*q)*rE l:=λl hl=>by
  have a1:eU p n gE h l=eU p n gE (atT p n (R.1+g.1+1) h) l:=aF5 n1 (λ_ _=>rfl) (λj hj=>(cQ0 n2 n4 ad hz j hj).symm) l hl
  have a2:=cQ1 (p:=p) (A:=R.1+g.1) (a:=h) n2 n4 mg.hi l hl;rw[show R.1+g.1+g.1+1=n+1 by lia]at a2
  have a3:=at_own rp hn l hl;have a4:atT p n (n+1) (fOf p) l=atT p n (n+1) (λj=>conv h g.2 (R.1+g.1+1) j+q*q*(r j/(q*q))) l:=dC3 (λj _=>by
   rw[a07<|rq j];exact id j) l
  rw[cJ7,a3]at a4;rw[a1,<-a2]
  grind
 refine⟨eE,λj=> -eU p n RE rE j,λj hj=> ?_⟩
 have b1:eU p n h h j=eU p n (λl=>eU p n gE RE l+q*eE l) h j:=aF5 n1 hx (λ_ _=>rfl) j hj
 rw[b1,aC2];have b2:eU p n (eU p n gE RE) h j=eU p n RE (eU p n gE h) j:=by
  rw[<-dP5 n2 n4 RE gE h j hj];exact aF5 n1 (λl hl=>b79 n2 n4 gE RE l hl) (λ_ _=>rfl) j hj
 rw[b2,aF5 n1 (λ_ _=>rfl) gx j hj,bZ3]
 grind
theorem cW5 (rp:dO p)(hn:p.length=n+1)(o:bY4 n (fOf p) size q g)(k:Nat)(hk:k<=n):q^k∣chn n (itT p n λj=>divQ g.2 g.1 (n+1-g.1) (fOf p) j%q) k:=by
 have lo:=rp.ok.lo;have hi:=rp.ok.hi;obtain⟨s,c,h⟩:=dQ5 rp hn o;have:=dC1 (y:=λj=> -(divQ g.2 g.1 (n+1-g.1) (fOf p) j/q)) ad ad (a53 o.pr).prI h k hk
 rw[show(λj=>divQ g.2 g.1 (n+1-g.1) (fOf p) j%q)=λj=>divQ g.2 g.1 (n+1-g.1) (fOf p) j+q* -(divQ g.2 g.1 (n+1-g.1) (fOf p) j/q)from funext λj=>by
  have:=qL (divQ g.2 g.1 (n+1-g.1) (fOf p) j) q;rw[Int.mul_neg]
  lia]
 exact this
theorem dQ6 (rp:dO p)(hn:p.length=n+1)(o:bY4 n (fOf p) size q g):g.1<=n/\divQ g.2 g.1 (n+1-g.1) (fOf p) (n-g.1)=1:=by
 obtain⟨R,mR,tw⟩:=o.tw;have d1:n=g.1+g.1+R.1:=bW Prod.fst tw;have rf:=rp.rf;rw[show p.length-1=n by lia]at rf
 refine⟨ad,?_⟩
 rw[show n+1-g.1=(n-g.1)+1 by lia]
 show(if n-g.1=n-g.1 then fOf p (n-g.1+g.1)else _)=1
 rw[a7 rfl,show n-g.1+g.1=n by lia]
 exact rf.top
theorem cW6 (pq:Pr P)(mF:MP P n (md P f))(sp:SP P (n,md P f) xs)(f1:P∣ps f r (n+1)): ∃x∈xs,x.1=dR ((-r)%P):=by
 have lo:=pq.lo;refine gK λno=> ?_
 obtain⟨H,mH,eF,vH⟩:=(bZ1 pq (F:=(n,md P f)) mF sp (cH (-r) ad)<|cG (-r) ad).2 λx hx e=>no ⟨x,hx,e⟩
 rw[show H=(n,md P f)from eF.symm]at vH
 refine vH ?_
 show ps (md P f) (-((-r)%P)) (n+1)%P=0
 have a:=rP (q:=P) (z:= -((-r)%P)) (w:=r) (dv1 (x:= -1) (cgE<|-r)<|by grind) (md P f) (n+1)
 have b: ∀k,P∣ps (md P f) r k-ps f r k:=by
  intro k
  induction k with
  | zero=>exact cgR _
  | succ k ih=>exact dv2 (x:=1) (y:=r^k) ih (cgE<|f k) (by show ps (md P f) r k+f k%P*r^k-(ps f r k+f k*r^k)=_;grind)
 exact bP ((cgT a).mpr<|(cgT<|b<|n+1).mpr f1)
theorem cJ8 (rp:dO p)(hn:p.length=n+1)(pq:Pr P)(sp:SP P (n,md P<|fOf p) xs)(h:P*P∣ps (fOf p) r (n+1))(h2:P∣ps (syn (fOf p) r n) r n): ¬a55 n (fOf p) P xs:=by
 intro fine;have rf:=rp.rf;rw[hn,gW]at rf;have top:p.getD n 0=1:=rf.top;have n2:2<=n:=by have:=rp.ok.lo;lia
 have mF:=rf.mp pq.lo;obtain⟨x,hx,ex⟩:=cW6 (r:=r) pq mF sp (a23 (Int.dvd_mul_right P P) h);obtain⟨z,z1,z2,z3⟩:=dP8 (f:=fOf p) ad rf.hi pq mF sp fine hx (by rw[ex];rfl)
 rw[ex]at z1;have zr:P∣z-r:=dv2 (x:=1) (y:= -1) z1 (cgE<|-r) (by show z-r=(z+(-r)%P)*1+_;grind)
 refine z3 ?_
 rw[aU0 ad top r z]
 have q1:P∣ps (syn (fOf p) r n) z n:=(cgT<|rP zr _ n).mpr h2;exact dv2 (x:=1) (y:=1) h (Int.mul_dvd_mul zr q1) (by grind)
theorem c91 (gn:g.1<=n)(mg:MP q g.1 g.2)(fz: ∀j,n<j->f j=0)(h: ∀c∈sP n f g,c%(q*q)=0)(m:Nat):q*q∣divL g.2 g.1 (n+1-g.1) f m:=by
 have up:=aT7 (b:=g.2) (d:=g.1) mg.top mg.hi (n+1-g.1) (f:=f) (λm hm=>fz m ad)
 by_cases c:m<gQ (divL g.2 g.1 (n+1-g.1) f) (n+1)
 .exact b7 (h _<|cC.mpr ⟨m,dW.mpr c,rfl⟩)
 .rw[a52 (n:=n+1) (λj hj=>up j ad) m ad]
  exact v4 _
theorem cJ9 (rp:dO p)(hn:p.length=n+1)(pq:Pr q)(sp:SP q (n,md q<|fOf p) xs){x:(Nat×∅)×Nat}(hx:x∈xs)(h2:2<=x.2)(d1:x.1.1=1)(h: ∀c∈sP n (fOf p) x.1,c%(q*q)=0) :
  ∃r,0<=r/\r<q/\q*q∣ps (fOf p) r (n+1)/\q∣ps (syn (fOf p) r n) r n:=by
 have q2:=pq.lo;have rf:=rp.rf;rw[hn,gW]at rf;have top:p.getD n 0=1:=rf.top;have n2:2<=n:=by have:=rp.ok.lo;lia
 have mx:=(sp.mem x hx).1;obtain⟨R,mR,tw⟩:=b03 q2 sp hx h2;have e:=b08 mx d1;have ra:=c91 (n:=n) (f:=fOf p) (q:=q) ad mx rf.hi h
 have rg:=mx.rng 0;rw[e]at tw ra;generalize x.1.2 0=c at *;have ml:=MP.lin q2 rg.1 rg.2;have lv: ∀z,ps (dR c).2 z ((dR c).1+1)=z+c:=λz=>by
  show 0+c*z^0+1*z^1=_
  rw[cR,v8]
  lia
 have t2:(n,md q<|fOf p)=tm q (tm q R<|dR c) (dR c):=by
  rw[tw,<-vR ml.hi,sB ml.hi (MP.tm q2 ml mR).hi,sB ml.hi mR.hi]
 obtain⟨S,eS⟩:=c86 (H:=tm q R (dR c)) (g:=dR c) t2 rf.hi ml.hi;have fc:q*q∣ps (fOf p) (-c) (n+1):=by
  rw[<-bZ5 (b:=(dR c).2) (d:=1) (z:= -c) ml.hi ((lv<|-c).trans ad) n (f:=fOf p) (L:=n+1) ad]
  have: ∀k,q*q∣ps (divL (dR c).2 1 n<|fOf p) (-c) k:=by
   intro k
   induction k with
   | zero=>exact v4 _
   | succ k ih=>exact dv2 (x:=1) (y:=(-c)^k) ih (ra k) (by show _+_*_=_;grind)
  exact this _
 have sc:q∣ps (syn (fOf p) (-c) n) (-c) n:=by
  have a:=eS (-c+q);have b:=eS (-c);rw[lv]at a b;have nr:=aU0 (p:=p) (n:=n) ad top (-c) (-c+q)
  have hH:q∣ps (tm q R<|dR c).2 (-c) ((tm q R<|dR c).1+1):=by
   have v:=c70 (p:=q) (a:=R) (b:=dR c) ml.hi (-c);rw[show va q (dR c) (-c)=0 by show ps (dR c).2 (-c) ((dR c).1+1)%q=0;rw[lv,show -c+c=0 by lia,cB],aX,cB]at v
   exact b7 v
  have zc:q∣ -c+q- -c:=⟨1,ad⟩
  have g1:=rP zc (tm q R<|dR c).2 ((tm q R<|dR c).1+1);have g2:=rP zc S (n+2);have g3:=rP zc (syn (fOf p) (-c) n) n;have eq:ps (syn (fOf p) (-c) n) (-c+q) n=ps (tm q R<|dR c).2 (-c+q) ((tm q R<|dR c).1+1)+(ps S (-c+q) (n+2)-ps S (-c) (n+2)):=by
   refine nW (show q≠0 by lia) ?_
   generalize ps (tm q R<|dR c).2 (-c) ((tm q R<|dR c).1+1)=h0 at *;generalize ps (tm q R<|dR c).2 (-c+q) ((tm q R<|dR c).1+1)=h1 at *
   grind
  refine(cgT g3).mp ?_
  rw[eq];exact dv2 (x:=1) (y:=1) ((cgT g1).mpr hH) g2 (by grind)
 have rr:q∣(-c)%q- -c:=cgE (-c);refine⟨(-c)%q,cH _ ad,cG _ ad,?_,?_⟩
 .rw[aU0 ad top<|-c]
  exact dv2 (x:=1) (y:=1) fc (Int.mul_dvd_mul rr<|(cgT<|rP rr _ n).mpr sc) (by grind)
 .have nr:=aU0 (p:=p) (n:=n) ad top (-c)
  have nr2:=aU0 (p:=p) (n:=n) ad top ((-c)%q)
  have a1:=nr ((-c)%q+q);have a2:=nr2 ((-c)%q+q);have a3:=nr ((-c)%q);obtain⟨k,hk⟩:=rr;have g3:=rP (q:=q) (z:=(-c)%q+q) (w:= -c) ⟨k+1,by grind⟩ (syn (fOf p) (-c) n) n
  have g4:=rP (q:=q) (z:=(-c)%q) (w:= -c) ⟨k,by grind⟩ (syn (fOf p) (-c) n) n
  have g5:=rP (q:=q) (z:=(-c)%q+q) (w:=(-c)%q) ⟨1,ad⟩ (syn (fOf p) ((-c)%q) n) n
  refine(cgT g5).mp ?_
  have s1:=(cgT g3).mpr sc;have s2:=(cgT g4).mpr sc;have eq:ps (syn (fOf p) ((-c)%q) n) ((-c)%q+q) n=(k+1)*ps (syn (fOf p) (-c) n) ((-c)%q+q) n-k*ps (syn (fOf p) (-c) n) ((-c)%q) n:=by
   refine nW (show q≠0 by lia) ?_
   rw[show(-c)%q+q- -c=q*(k+1)by grind]at a1
   rw[show(-c)%q- -c=q*k by grind]at a3
   rw[show(-c)%q+q-(-c)%q=q by grind]at a2
   grind
  rw[eq];exact dv2 (x:=k+1) (y:= -k) s1 s2 (by grind)
def sqA (q:Int)(f:∅):Int:=if q=2 then 1 else f 3*((q+1)/2)%q
def sqC (q:Int)(f:∅):Int:=if q=2 then 1 else(f 2-sqA q f*sqA q f)*((q+1)/2)%q
theorem cQ2 {u:Int}(h:q%2=1)(u0:0<=u)(u1:u<q)(d:q∣2*u-x):x*((q+1)/2)%q=u:=by
 have e:(q+1)/2*2=q+1:=ad
 have:q∣x*((q+1)/2)-u:=dv2 (x:= -((q+1)/2)) (y:=u) d (uZ q) (by grind)
 have e2:=Int.emod_eq_emod_iff_emod_sub_eq_zero.mpr (bP this);rw[e2,dE u0 u1]
theorem Pr.odd (pq:Pr q)(h:q≠2):q%2=1:=by
 refine gK λc=> ?_
 have lo:=pq.lo;have d:q∣2*(q/2):=⟨1,ad⟩
 rcases pq.or d with d|d
 .have:=iL ac d
  lia
 .have:=iL ad d
  lia
theorem cQ3 {u:Int}(pq:Pr q)(u0:0<=u)(u1:u<q)(v0:0<=v)(v1:v<q)(d3:q∣2*u-f 3)(d2:q∣u*u+2*v-f 2)(two:q=2->u=1/\v=1):sqA q f=u/\sqC q f=v:=by
 unfold sqC
 by_cases c:q=2
 .rw[a7 c];unfold sqA;rw[a7 c];exact⟨(two c).1.symm,(two c).2.symm⟩
 .have od:=pq.odd c;have a:sqA q f=u:=by
   unfold sqA;rw[a6 c];exact cQ2 od u0 u1 d3
  rw[a6 c,a];exact⟨rfl,cQ2 od v0 v1<|dv1 (x:=1) d2<|by grind⟩
structure SqL (q:Int)(f:∅):Prop where
 d3:q∣2*sqA q f-f 3
 d2:q∣sqA q f*sqA q f+2*sqC q f-f 2
 d1:q∣2*sqA q f*sqC q f-f 1
 d0:q∣sqC q f*sqC q f-f 0
 no: ∀r,0<=r->r<q-> ¬q∣r*r+sqA q f*r+sqC q f
 eB:q*q∣rB (sqA q f) (sqC q f) f
 eA:q*q∣rA (sqA q f) (sqC q f) f
theorem NoR.two {u:Int}(pq:Pr q)(nr:NoR q (quF v u))(u0:0<=u)(u1:u<q)(v0:0<=v)(v1:v<q):q=2->u=1/\v=1:=by
 rintro rfl;have a:=λh=>NoR.no pq nr (z:=0) h
 have b:=λh=>NoR.no pq nr (z:=1) h
 have e: ∀z,ps (quF v u).2 z ((quF v u).1+1)=v+u*z+z*z:=λz=>by
  show 0+v*z^0+u*z^1+1*z^2=_
  grind
 rw[e]at a b;refine⟨gK λc=> ?_,gK λc=> ?_⟩
 .by_cases c2:v=1
  .exact b ⟨1,ad⟩
  .exact a ⟨0,ad⟩
 .exact a ⟨0,ad⟩
theorem cQ4 (n4:n<=4)(pq:Pr q)(sp:SP q (n,md q f) xs){x:(Nat×∅)×Nat}(hx:x∈xs)(h2:2<=x.2)(d2:x.1.1≠1) :
  n=4/\x.1=quF (x.1.2 0) (x.1.2 1)/\q∣2*x.1.2 1-f 3/\q∣x.1.2 1*x.1.2 1+2*x.1.2 0-f 2/\q∣2*x.1.2 1*x.1.2 0-f 1/\q∣x.1.2 0*x.1.2 0-f 0:=by
 obtain⟨mx,x1,_⟩:=sp.mem x hx;obtain⟨R,mR,tw⟩:=b03 pq.lo sp hx h2;have dg:n=x.1.1+x.1.1+R.1:=bW Prod.fst tw;have dx:x.1.1=2:=ad
 have e:=bY3 mx dx;have eR:R=gJ:=by
  have r0:R.1=0:=ad
  refine j4 r0 (funext λj=> ?_)
  show R.2 j=if j=0 then 1 else 0
  by_cases c:j=0
  .rw[a7 c,c];have:=mR.top;rw[r0]at this;exact this
  .rw[a6 c];exact mR.hi j ad
 refine⟨ad,e,?_⟩
 rw[eR,cO2 pq.lo<|MP.tm pq.lo mx mx,e]at tw;generalize x.1.2 0=v at *;generalize x.1.2 1=u at *;have cv:=bY2 v u v u;have cf: ∀j,q∣f j-conv (quF v u).2 (quF v u).2 3 j:=λj=>dA8 (show f j%q=conv (quF v u).2 (quF v u).2 3 j%q from congrFun (bW Prod.snd tw) j)
 have f0:=cf 0;have f1:=cf 1;have f2:=cf 2;have f3:=cf 3;rw[cv.1]at f0;rw[cv.2.1]at f1;rw[cv.2.2.1]at f2;rw[cv.2.2.2]at f3;exact⟨dv1 (x:= -1) f3<|by grind,dv1 (x:= -1) f2<|by grind,dv1 (x:= -1) f1<|by grind,dv1 (x:= -1) f0<|by grind⟩
theorem dC4 {u:Int}(pq:Pr q)(u0:0<=u/\u<q)(v0:0<=v/\v<q)(mq:MP q (quF v u).1 (quF v u).2)(fz: ∀j,4<j->f j=0)(f4:f 4=1)(h: ∀c∈sP 4 f (quF v u),c%(q*q)=0):q*q∣rA u v f/\q*q∣rB u v f:=by
 have ra:=c91 (n:=4) (f:=f) (q:=q) (g:=quF v u) (show 2<=4 by decide) mq fz h
 have e:divL (quF v u).2 2 3 f 0=rA u v f:=by
  simp[divL,divS,shF,quF,rA,f4]
  grind
 have e1:divL (quF v u).2 2 3 f 1=rB u v f:=by
  simp[divL,divS,shF,quF,rB,f4]
  grind
 exact⟨e▸ra 0,e1▸ra 1⟩
theorem cW7 (rp:dO p)(hn:p.length=n+1)(pq:Pr q)(sp:SP q (n,md q<|fOf p) xs)(ms:d5 4 (bT p)%(q*q)=0) :
  ((∃r,0<=r/\r<q/\q*q∣ps (fOf p) r (n+1)/\q∣ps (syn (fOf p) r n) r n)\/(n=4/\SqL q (fOf p)))↔ ¬a55 n (fOf p) q xs:=by
 have rf:=rp.rf;rw[hn,gW]at rf;have n4:n<=4:=by have:=rp.ok.hi;lia
 have mF:=rf.mp pq.lo;have q2:=pq.lo;constructor
 .rintro(⟨r,r0,r1,h1,h2⟩| ⟨rfl,sq⟩)
  .exact cJ8 rp hn pq sp h1 h2
  .intro fine;have rep:=(cJ4 rp hn pq mF sp).mpr (bP<|a23 ⟨q,rfl⟩<|b7 ms);obtain⟨y,hy,y2⟩:=rep;obtain⟨my,yd,_,_,_,nr,_⟩:=sp.mem y hy
   by_cases d1:y.1.1=1
   .have e:=b08 my d1;have yr:=my.rng 0;have v0:q∣ps (fOf p) (-y.1.2 0) (4+1):=by
     have a:=cO6 (p:=q) (z:= -y.1.2 0) xs gJ (λz hz=>⟨(sp.mem z hz).1.hi,(sp.mem z hz).2.2.2.1⟩) (.inr ⟨y,hy,by rw[cI9 q2 my d1,show -y.1.2 0+y.1.2 0=0 by lia,cB]⟩)
     rw[sp.prod]at a;have b: ∀k,q∣ps (md q<|fOf p) (-y.1.2 0) k-ps (fOf p) (-y.1.2 0) k:=by
      intro k
      induction k with
      | zero=>exact cgR _
      | succ k ih=>exact dv2 (x:=1) (y:=(-y.1.2 0)^k) ih (cgE<|fOf p k) (by show ps (md q<|fOf p) (-y.1.2 0) k+fOf p k%q*(-y.1.2 0)^k-(ps (fOf p) (-y.1.2 0) k+fOf p k*(-y.1.2 0)^k)=_;grind)
     exact(cgT<|b 5).mp (b7 a)
    generalize y.1.2 0=c at *;have f4:=rf.top;have pv:ps (fOf p) (-c) (4+1)=fOf p 0-fOf p 1*c+fOf p 2*(c*c)-fOf p 3*(c*c*c)+c*c*c*c:=by
     show 0+fOf p 0*(-c)^0+fOf p 1*(-c)^1+fOf p 2*(-c)^2+fOf p 3*(-c)^3+fOf p 4*(-c)^4=_
     rw[f4]
     grind
    rw[pv]at v0;have sqd:q∣(c*c-sqA q (fOf p)*c+sqC q (fOf p))*(c*c-sqA q (fOf p)*c+sqC q (fOf p)):=by
     have d01:=dv2 (x:=1) (y:= -c) sq.d0 sq.d1 (e:=(sqC q (fOf p)*sqC q (fOf p)-fOf p 0)-c*(2*sqA q (fOf p)*sqC q (fOf p)-fOf p 1)) (by grind)
     have d23:=dv2 (x:=c*c) (y:= -(c*c*c)) sq.d2 sq.d3 (e:=c*c*(sqA q (fOf p)*sqA q (fOf p)+2*sqC q (fOf p)-fOf p 2)-c*c*c*(2*sqA q (fOf p)-fOf p 3)) (by grind)
     exact dv3 (x:=1) (y:=1) (z:=1) v0 d01 d23 (by grind)
    have sd:=pq.sq sqd;have rr:q∣(-c)%q- -c:=cgE (-c);refine sq.no ((-c)%q) (cH _ ad) (cG _ ad) ?_
    exact dv2 (x:=1) (y:=(-c)%q-c+sqA q (fOf p)) sd rr (by grind)
   .obtain⟨_,e,a3,a2,_,_⟩:=cQ4 n4 pq sp hy y2 d1;have u0:=my.rng 1;have v0:=my.rng 0;have nr':=nr ad
    have fi:=fine y hy y2;rw[e]at nr' fi;obtain⟨s1,s2⟩:=cQ3 pq u0.1 u0.2 v0.1 v0.2 a3 a2 (nr'.two pq u0.1 u0.2 v0.1 v0.2);refine dP9 rf.hi rf.top fi ⟨?_,?_⟩
    .have:=sq.eA;rw[s1,s2]at this;exact this
    .have:=sq.eB;rw[s1,s2]at this;exact this
 .intro nf;obtain⟨x,hx,x2,ha⟩: ∃x∈xs,2<=x.2/\ ∀c∈sP n (fOf p) x.1,c%(q*q)=0:=by
   refine gK λno=>nf λx hx x2=> ?_
   refine gK λno2=>no ⟨x,hx,x2,λc hc=> ?_⟩
   exact gK λz=>no2 ⟨c,hc,z⟩
  obtain⟨mx,_,_,_,_,nr,_⟩:=sp.mem x hx
  by_cases d1:x.1.1=1
  .exact .inl (cJ9 rp hn pq sp hx x2 d1 ha)
  .obtain⟨rfl,e,a3,a2,a1,a0⟩:=cQ4 n4 pq sp hx x2 d1;have u0:=mx.rng 1;have v0:=mx.rng 0;have nr':=nr (by have:=(sp.mem x hx).2.1;lia)
   rw[e]at nr' ha mx;obtain⟨s1,s2⟩:=cQ3 pq u0.1 u0.2 v0.1 v0.2 a3 a2 (nr'.two pq u0.1 u0.2 v0.1 v0.2);obtain⟨rA',rB'⟩:=dC4 pq u0 v0 mx rf.hi rf.top ha;refine .inr ⟨rfl,?_,?_,?_,?_,?_,?_,?_⟩
   all_goals try rw[s1]
   all_goals try rw[s2]
   .exact a3
   .exact a2
   .exact a1
   .exact a0
   .intro r r0 r1 d;refine NoR.no pq nr' (z:=r) ?_;show q∣0+x.1.2 0*r^0+x.1.2 1*r^1+1*r^2;exact dv1 (x:=1) d (by grind)
   .exact rB'
   .exact rA'
def sR:Φ:=pO
def c92:US:=(aQ (bN 2<|uC<|.int 0)<|aQ (jI (cM8<|a8 (aB 0) aP) (cE 3)<|bN 2<|uOp gI (uOp bZ (aB 2)<|aB 1)<|aB 3)<|tP 2)
theorem dC5: Ra sR c92 ["f","z","v","c"]:=aT1
def bE9:Φ:=λds Q=> ∃p:List Int,ds=[aO p]/\dO p/\(Red p->Q (.pu<|.bl true))/\(¬Red p->Q (.pu<|.bl false))
def a56:US:=(fE (aQ3 (cO<|uOp (fH false) (uOp jC (aB 1)<|aB 2)<|uC<|.int 0)<|uOr (cO<|uOp (fH false) (aV sR<|a8 (aB 0)<|a8 (aB 2) aP)<|uC<|.int 0)<|cO<|uOp (fH false) (aV sR<|a8 (aB 0)<|a8 (sJ<|aB 2) aP)<|uC<|.int 0) (d6<|uC<|.bl true) cX)
def zH:US:=(fE (cO<|uOp (fH false) (uOp gI (uOp gI (aB 4)<|aB 5)<|uOp bZ (aB 7)<|uOp M.gSub (uIx (aS 0)<|uC<|.int 3)<|aB 7)<|uIx (aS 0)<|uC<|.int 2) (d6<|uC<|.bl true) cX)
def zI:US:=(aQ (bN 7<|uOp aQ5 (aB 6)<|uOp M.gSub (aB 5)<|aB 4) zH)
def oM:US:=(fE (cO<|uOp (fH false) (uOp gI (uOp bZ (uC<|.int 2)<|aB 4)<|uOp bZ (aB 7)<|uOp M.gSub (uIx (aS 0)<|uC<|.int 3)<|aB 7)<|uIx (aS 0)<|uC<|.int 2) (d6<|uC<|.bl true) cX)
def zJ:US:=(jI (vE<|a8 (sJ<|aB 3)<|a8 (uOp gI (aB 3)<|uC<|.int 1) aP) (cE 7) oM)
def vY:US:=(fE (aQ3 (cO<|uOp (fH false) (aB 5)<|aB 4)<|cO<|uOp (fH false) (aB 6)<|uC<|.int 0) zJ cX)
def aC3:US:=(aQ (fE (aQ3 (cO<|uOp (fH true) (aB 5)<|aB 4)<|cO<|uOp (fH false) (uOp jC (aB 6)<|uOp M.gSub (aB 5)<|aB 4)<|uC<|.int 0) zI cX) vY)
def aC4:US:=(aQ (bN 6<|uOp M.gSub (uIx (aS 0)<|uC<|.int 1)<|uOp bZ (aB 4)<|uIx (aS 0)<|uC<|.int 3) aC3)
def vZ:US:=(aQ (bN 5<|uOp aQ5 (uIx (aS 0)<|uC<|.int 0)<|aB 4) aC4)
def a57:US:=(fE (aQ3 (cO<|uOp (fH true) (aB 4)<|uC<|.int 0)<|cO<|uOp (fH false) (uOp jC (aB 1)<|aB 4)<|uC<|.int 0) vZ cX)
def bF0:US:=(d6<|uC<|.bl false)
def aO1:US:=(aQ (jI (vE<|a8 (sJ<|aB 1)<|a8 (uOp gI (aB 1)<|uC<|.int 1) aP) (cE 4) a57) bF0)
def bF1:US:=(aQ (bN 3<|uOp gI (uC<|.int 2)<|uOp bZ (uC<|.int 2)<|aV bP9<|a8 (fJ [] [none,none] 1 (i7<|aB 0) (cE 0) (λρ Q=>Q true ρ)<|aV c42<|a8 (aB 0) aP) aP) aO1)
def bF2:US:=(aQ (fE (cO<|uOp (pH λi j=>decide (i<j)) (jE<|aS 0)<|uC<|.int 5) (d6<|uC<|.bl false) cX) bF1)
def bF3:US:=(aQ (jI (vE<|a8 (uC<|.int 1)<|a8 (uOp gI (aB 1)<|uC<|.int 1) aP) (cE 2) a56) bF2)
def bF4:US:=(aQ (fE (cO<|uOp (fH false) (aB 1)<|uC<|.int 0) (d6<|uC<|.bl true) cX) bF3)
def bF5:US:=(aQ (bN 1<|aV c42<|a8 (uIx (aS 0)<|uC<|.int 0) aP) bF4)
theorem dQ7 {u c0 c1 c2 c3:Int}(h0:b*b=c0)(h2:b+b+u*s=c2)(h3:u+s=c3)(m0:c0.natAbs<=m.natAbs)(m2:c2.natAbs<=m.natAbs)(m3:c3.natAbs<=m.natAbs)(mp:1<=m):u.natAbs<=(2+2*m).natAbs:=by
 have e:b.natAbs*b.natAbs=c0.natAbs:=by rw[<-h0,dX]
 have hb:b.natAbs<=m.natAbs:=aI (Nat.le_mul_self _) (by rw[e];exact m0)
 have em:(2+2*m).natAbs=2+2*m.natAbs:=ad
 rw[em];have e2:u.natAbs*s.natAbs<=m.natAbs+m.natAbs+m.natAbs:=by
  rw[<-dX,show u*s=c2-b-b by lia]
  exact aI (oA _ _) (rD (aI (oA _ _)<|rD m2 hb) hb)
 have e3:u.natAbs<=m.natAbs+s.natAbs:=aI (by rw[show u=c3-s by lia];exact oA _ _) (Nat.add_le_add_right m3 _)
 clear em e h0 h2 h3 m0 m2 m3 mp hb;generalize u.natAbs=U at *;generalize s.natAbs=S at *;generalize m.natAbs=k at *;refine gK λc=> ?_
 have e4:(2*k+3)*(k+3)<=U*S:=jQ ad ad
 have e5:(2*k+3)*(k+3)=2*(k*k)+9*k+9:=by grind
 rw[e5]at e4;generalize k*k=r at *;generalize U*S=q at *
 lia
section
variable (Q:B->Prop)(c0 c1 c2 c3 m:Int)
theorem bL8 (b w:Int)(Y:Ev->Prop)(N:UD)(hN:N.rt=Q)(z1 z2:Option B)(x7:Option B)(e0:c0=b*w)(b0:b≠0)(bb:b.natAbs<=499)(wb:w.natAbs<=499)(h1:c1.natAbs<=499)(h2:c2.natAbs<=499)(h3:c3.natAbs<=499)(mp:1<=m)(m9:m<=499)(m0:c0.natAbs<=m.natAbs)(m2:c2.natAbs<=m.natAbs)(m3:c3.natAbs<=m.natAbs)
  (hy:Red [c0,c1,c2,c3,1]->Q (.pu<|.bl true)) (hn:(∀u w s,[c0,c1,c2,c3,1]≠qq b u w s)-> ∀x5 x6 x7,N.nx [~~~.tup [.int c0,.int c1,.int c2,.int c3,.int 1],z1,z2,!2+2*m,!b,x5,x6,x7]) (x5 x6:Option B) :
  vZ N [~~~.tup [.int c0,.int c1,.int c2,.int c3,.int 1],z1,z2,!2+2*m,!b,x5,x6,x7]:=by
 have i0:atI [D.int c0,.int c1,.int c2,.int c3,.int 1] 0=some (.int c0):=cY (j:=0) rfl;have i1:atI [D.int c0,.int c1,.int c2,.int c3,.int 1] 1=some (.int c1):=cY (j:=1) rfl;have i2:atI [D.int c0,.int c1,.int c2,.int c3,.int 1] 2=some (.int c2):=cY (j:=2) rfl;have i3:atI [D.int c0,.int c1,.int c2,.int c3,.int 1] 3=some (.int c3):=cY (j:=3) rfl;have bc:(b*c3).natAbs<=499*499:=aR bb h3
 have mean: ∀u w' s,[c0,c1,c2,c3,1]=qq b u w' s->w'=w/\s=c3-u/\c1-b*c3=u*(w-b)/\b+w+u*s=c2:=λu w' s q=>by
  unfold qq at q
  injection q with q0 q;injection q with q1 q;injection q with q2 q;injection q with q3 q
  have ww:w'=w:=by
   rw[e0]at q0;exact(nW b0 q0).symm
  subst ww;refine⟨rfl,ad,?_,ad⟩
  have:s=c3-u:=ad
  subst this;rw[q1]
  grind
 unfold vZ;rw[aL];left;rw[i0];right;rw[show c0.fdiv b=w by rw[e0];exact aJ2 _ b0]
 refine⟨⟨b0,aN3 ad ad⟩,?_⟩
 unfold aC4;rw[aL];left;rw[i1,i3];right;refine⟨cmL ad ad,?_⟩
 have two: ∀x7,(w≠b-> ∀u w s,[c0,c1,c2,c3,1]≠qq b u w s)->vY N [~~~.tup [.int c0,.int c1,.int c2,.int c3,.int 1],z1,z2,!2+2*m,!b,!w,!c1-b*c3,x7]:=λx7 k=>by
  unfold vY;rw[iR];left
  by_cases c:w=b
  .rw[a7 c]
   by_cases c':c1-b*c3=0
   .rw[a7 c'];unfold zJ;refine bM (2*(2+2*m)+1).toNat (λk=> .int (-(2+2*m)+k)) _ ?_
     (λi ρ=> ∃x7,ρ=[~~~.tup [.int c0,.int c1,.int c2,.int c3,.int 1],z1,z2,!2+2*m,!b,!w,!c1-b*c3,x7]/\ ∀k:Nat,k<i->2*b+(-(2+2*m)+(k:Int))*(c3-(-(2+2*m)+(k:Int)))≠c2) ⟨x7,rfl,λk hk=>ad⟩ ?_ ?_
    .intro Q' q;left;refine⟨ad,?_⟩
     rw[show(2+2*m+1- -(2+2*m)).toNat=(2*(2+2*m)+1).toNat by lia]
     exact q
    .rintro i ρ hi ⟨x7,rfl,hk⟩;generalize eu: -(2+2*m)+(i:Int)=u at hk;have ub:u.natAbs<=1000:=ad
     refine⟨ae,?_⟩
     show oM _ [~~~.tup [.int c0,.int c1,.int c2,.int c3,.int 1],z1,z2,!2+2*m,!b,!w,!c1-b*c3,!u]
     unfold oM;rw[iR];left;rw[i3];right;rw[i2];refine⟨cmL ac ac,cmL ad ad,?_⟩
     right
     by_cases q:2*b+u*(c3-u)=c2
     .rw[a7 q];rw[hN];refine hy (.inr ⟨b,u,b,c3-u,?_⟩);unfold qq;have e1:b+b+u*(c3-u)=c2:=ad
      have e2:u+(c3-u)=c3:=ad
      have e3:u*b+b*(c3-u)=c1:=by
       have:u*b+b*(c3-u)=b*c3:=by grind
       lia
      rw[e1,e2,e3,e0,c]
     .rw[a6 q];refine⟨_,rfl,λk hk2=> ?_⟩
      by_cases ck:k<i
      .exact hk k ck
      .have:k=i:=ad
       rw[this,eu];exact q
    .rintro ρ ⟨x7,rfl,hk⟩;refine hn (λu w' s q=> ?_) _ _ _
     obtain⟨rfl,rfl,_,q2⟩:=mean u w' s q;have wu:=dQ7 (u:=u) (s:=c3-u) (b:=b) (c0:=c0) (c1:=c1) (c2:=c2) (c3:=c3) (m:=m) (by rw[e0,c]) ad ad m0 m2 m3 mp
     have:=hk (u+(2+2*m)).toNat ad
     rw[show -(2+2*m)+(((u+(2+2*m)).toNat:Nat):Int)=u by lia]at this
     lia
   .rw[a6 c'];refine hn (λu w' s q=> ?_) _ _ _
    obtain⟨rfl,rfl,q1,_⟩:=mean u w' s q;rw[c,Int.sub_self,aX]at q1;exact c' q1
  .rw[a6 c];exact hn (k c) _ _ _
 unfold aC3;rw[aL,iR];left
 by_cases c:w=b
 .rw[a6 λz=>z c]
  exact two _ λz=>absurd c z
 .rw[a7 c];refine⟨ad,?_⟩
  by_cases dv:(c1-b*c3).fmod (w-b)=0
  .rw[a7 dv];obtain⟨u,hu⟩:=Int.dvd_of_fmod_eq_zero dv;unfold zI;rw[aL];left;have wb0:w-b≠0:=ad
   rw[hu,aJ2 _ wb0];have ub:u.natAbs<=300000:=by
    have e:(c1-b*c3).natAbs=(w-b).natAbs*u.natAbs:=by rw[hu,dX]
    have:1*u.natAbs<=(w-b).natAbs*u.natAbs:=uH _ ad
    rw[a34,<-e]at this;exact aI this (aI (oA _ _)<|aI (rD h1 bc) ac)
   refine⟨⟨wb0,aN3 ad ad⟩,?_⟩
   unfold zH;rw[iR];left;rw[i3];right;rw[i2];refine⟨cmL ad ad,?_⟩
   right
   by_cases q:b+w+u*(c3-u)=c2
   .rw[a7 q,hN];refine hy (.inr ⟨b,u,w,c3-u,?_⟩);unfold qq;have e2:u+(c3-u)=c3:=ad
    have e3:u*w+b*(c3-u)=c1:=by
     have:u*w+b*(c3-u)=(w-b)*u+b*c3:=by grind
     lia
    rw[q,e2,e3,e0]
   .rw[a6 q];rw[<-hu];refine two _ λ_ u' w' s z=> ?_
    obtain⟨rfl,rfl,q1,q2⟩:=mean u' w' s z;have:u'=u:=by
     rw[hu,fZ u']at q1;exact(nW wb0 q1).symm
    subst this;exact q q2
  .rw[a6 dv];refine two _ λ_ u' w' s z=> ?_
   obtain⟨rfl,rfl,q1,q2⟩:=mean u' w' s z;exact dv (Int.fmod_eq_zero_of_dvd ⟨u',by rw[q1,fZ]⟩)
end
theorem nr_no (hp:dO p)(c0:p.getD 0 0≠0)(h: ∀k:Nat,k< (p.getD 0 0).natAbs-> ¬((1+(k:Int))∣((p.getD 0 0).natAbs:Int)/\(ev p (1+(k:Int))=0\/ev p (-(1+(k:Int)))=0))): ∀z,ev p z≠0:=λz hz=>by
 have dv:=c75 hp hz;have nb:=sD dv c0;refine h (z.natAbs-1) ad ⟨?_,?_⟩
 .rw[show 1+((z.natAbs-1:Nat):Int)=(z.natAbs:Int)by lia]
  exact Int.natCast_dvd_natCast.mpr (Int.natAbs_dvd_natAbs.mpr dv)
 .rw[show 1+((z.natAbs-1:Nat):Int)=(z.natAbs:Int)by lia]
  rcases Int.natAbs_eq z with e|e
  .exact .inl (by rw[<-e];exact hz)
  .exact .inr (by rw[<-e];exact hz)
theorem cK0 (hp:dO p){z:Int}(zb:z.natAbs<=499){Q:B->Prop}(h:Q (.pu<|.int<|ev p z)):sR [.tup<|p.map .int,.int z] Q:=by
 have hhi:=hp.ok.hi;exact⟨p.length,9,9,λj=>p.getD j 0,z,by rw[<-bX8];rfl,⟨λj=>aI (fA hp.ok.small j) ac,aI zb ac,ad,ac,ad⟩,h⟩
theorem dC6: Ra bE9 bF5 ["p","l","r","w","b","d","t","a"]:=by
 rintro ds Q ⟨p,rfl,hp,hy,hn⟩;have hlo:=hp.ok.lo;have hhi:=hp.ok.hi;have p0b:(p.getD 0 0).natAbs<=499:=fA hp.ok.small 0;unfold bF5;show(aQ _ _:US) _ [~~~.tup (p.map .int),none,none,none,none,none,none,none];rw[aL];left;rw[zD ad]
 right;rw[show(if p.getD 0 0<0 then -(p.getD 0 0)else p.getD 0 0)=((p.getD 0 0).natAbs:Int)by split<;>lia]
 unfold bF4;rw[aL];left
 by_cases z0:((p.getD 0 0).natAbs:Int)=0
 .rw[a7 z0];exact hy (.inl ⟨0,by rw[bY6 hp];lia⟩)
 rw[a6 z0];have c0:p.getD 0 0≠0:=ad
 unfold bF3;rw[aL];refine bM (p.getD 0 0).natAbs (λk=> .int (1+k)) _ ?_
  (λi ρ=> ∃x,ρ=[~~~.tup (p.map .int),!((p.getD 0 0).natAbs:Int),x,none,none,none,none,none]/\ ∀k:Nat,k<i-> ¬((1+(k:Int))∣((p.getD 0 0).natAbs:Int)/\(ev p (1+(k:Int))=0\/ev p (-(1+(k:Int)))=0))) ⟨none,rfl,λk hk=>ad⟩ ?_ ?_
 .intro Q' q;left;refine⟨ad,?_⟩
  rw[show(((p.getD 0 0).natAbs:Int)+1-1).toNat=(p.getD 0 0).natAbs by lia]
  exact q
 .rintro i ρ hi ⟨x,rfl,hk⟩;refine⟨ae,?_⟩
  show a56 _ [~~~.tup (p.map .int),!((p.getD 0 0).natAbs:Int),!(1+(i:Int)),none,none,none,none,none]
  unfold a56;rw[iR];left;refine⟨ad,?_⟩
  rw[bY _<|show(0:Int)<1+(i:Int)by lia]
  have more: ¬((1+(i:Int))∣((p.getD 0 0).natAbs:Int)/\(ev p (1+(i:Int))=0\/ev p (-(1+(i:Int)))=0))-> ∀k:Nat,k<i+1-> ¬((1+(k:Int))∣((p.getD 0 0).natAbs:Int)/\(ev p (1+(k:Int))=0\/ev p (-(1+(k:Int)))=0)):=λq k hk2=>by
   by_cases ck:k<i
   .exact hk k ck
   .have:k=i:=ad
    rw[this];exact q
  by_cases dv:((p.getD 0 0).natAbs:Int)%(1+(i:Int))=0
  .rw[a7 dv];refine cK0 hp ad ?_
   show(if ev p (1+(i:Int))=0 then _ else _)
   by_cases e1:ev p (1+(i:Int))=0
   .rw[a7 e1];exact hy (.inl ⟨_,e1⟩)
   rw[a6 e1];refine cK0 hp ad ?_
   show(if ev p (-(1+(i:Int)))=0 then _ else _)
   by_cases e2:ev p (-(1+(i:Int)))=0
   .rw[a7 e2];exact hy (.inl ⟨_,e2⟩)
   rw[a6 e2];exact⟨_,rfl,more λz=>z.2.elim e1 e2⟩
  .rw[a6 dv];exact⟨_,rfl,more λz=>dv (bP z.1)⟩
 .rintro ρ ⟨x,rfl,hk⟩;have nr:=nr_no hp c0 hk;try right
  unfold bF2;rw[aL];left;rw[aF]
  by_cases c5:(p.length:Int)<5
  .rw[a7 c5];refine hn λrd=> ?_
   rcases rd with⟨z,hz⟩| ⟨v,u,w,s,q⟩
   .exact nr z hz
   .rw[q]at c5;exact absurd c5 (by simp[qq])
  rw[a6 c5];have sm:=hp.ok.small;rcases hp.cs with⟨a,b,rfl⟩| ⟨a,b,c',rfl⟩| ⟨a0,a1,a2,a3,rfl⟩
  .exact absurd c5 ae
  .exact absurd c5 ae
  simp only[dS]at sm;obtain⟨s0,s1,s2,s3,_,_⟩:=sm;unfold bF1;rw[aL,pJ];show(uOp gI _<|uOp bZ _<|aV bP9 _) _ _;rw[a51];show(uOp bZ _<|aV bP9 _) _ _;rw[a51];show(aV bP9 _) _ _;rw[gN,fU]
  refine eV (t0:=0) 5 (λk=>([a0,a1,a2,a3,1].map D.int).getD k .non) [~~~.tup ([a0,a1,a2,a3,1].map .int),!((([a0,a1,a2,a3,1]:List Int).getD 0 0).natAbs:Int),x,none,none,none,none,none] ?_ ad (λx l=>[x,↑l]) none rfl (λ_ _ _=>rfl) (λ_ _=>cN _) (λ_ _ _ q=>q) (λ_ _ _=>rfl) (λk=> .int (([a0,a1,a2,a3,1].getD k 0).natAbs:Int)) ?_ ?_
  .intro Q' q;left;exact q
  .intro k l Q' hk' q;have e3:([a0,a1,a2,a3,1].map D.int).getD k .non= .int ([a0,a1,a2,a3,1].getD k 0):=by
    rw[aJ,bI,aM hk',aJ,aM hk'];rfl
   rw[e3]at q⊢;left;generalize [a0,a1,a2,a3,1].getD k 0=y at q⊢;rw[show(if y<0 then -y else y)=(y.natAbs:Int)by split<;>lia]
   exact q
  .rw[show((List.range 5).map λk=>D.int (([a0,a1,a2,a3,1].getD k 0).natAbs:Int))=[(a0.natAbs:Int),(a1.natAbs:Int),(a2.natAbs:Int),(a3.natAbs:Int),1].map D.int from rfl]
   left
   rw[bP2];refine⟨ae,λm hm hall=>⟨cmL ac ac,?_⟩⟩
   simp only[dS]at hall;obtain⟨m0,m1,m2,m3,m4,_⟩:=hall;have m9:m<=499:=by
    simp only[bB,iZ,lU]at hm
    lia
   have z0':a0≠0:=c0;show aO1 _ [~~~.tup [.int a0,.int a1,.int a2,.int a3,.int 1],!(a0.natAbs:Int),x,!2+2*m,none,none,none,none];unfold aO1;rw[aL]
   refine bM (2*a0.natAbs+1) (λk=> .int (-(a0.natAbs:Int)+k)) _ ?_
    (λi ρ=> ∃x4 x5 x6 x7,ρ=[~~~.tup [.int a0,.int a1,.int a2,.int a3,.int 1],!(a0.natAbs:Int),x,!2+2*m,x4,x5,x6,x7]/\ ∀k:Nat,k<i-> ∀u w s,[a0,a1,a2,a3,1]≠qq (-(a0.natAbs:Int)+(k:Int)) u w s) ⟨none,none,none,none,rfl,λk hk=>ad⟩ ?_ ?_
   .intro Q' q;left;refine⟨ad,?_⟩
    rw[show((a0.natAbs:Int)+1- -(a0.natAbs:Int)).toNat=2*a0.natAbs+1 by lia]
    exact q
   .rintro i ρ hi ⟨x4,x5,x6,x7,rfl,hk2⟩;have more: ∀b,b= -(a0.natAbs:Int)+(i:Int)->(∀u w s,[a0,a1,a2,a3,1]≠qq b u w s)-> ∀k:Nat,k<i+1-> ∀u w s,[a0,a1,a2,a3,1]≠qq (-(a0.natAbs:Int)+(k:Int)) u w s:=λb eb q k hk3=>by
     by_cases ck:k<i
     .exact hk2 k ck
     .have:k=i:=ad
      rw[this,<-eb];exact q
    generalize eb: -(a0.natAbs:Int)+(i:Int)=b;have mb:=more b eb.symm;refine⟨ae,?_⟩
    show a57 _ [~~~.tup [.int a0,.int a1,.int a2,.int a3,.int 1],!(a0.natAbs:Int),x,!2+2*m,!b,x5,x6,x7]
    unfold a57;rw[iR];left
    by_cases b0:b=0
    .rw[a6 λz=>z b0]
     refine⟨_,_,_,_,rfl,mb λu w s q=> ?_⟩
     unfold qq at q
     injection q with q0 q
     rw[b0,cJ]at q0;exact z0' q0
    rw[a7 b0];refine⟨b0,?_⟩
    by_cases dv:(a0.natAbs:Int).fmod b=0
    .rw[a7 dv];have dv':b∣a0:=Int.dvd_natAbs.mp (Int.dvd_of_fmod_eq_zero dv);obtain⟨w,hw⟩:=dv';have wb:w.natAbs<=499:=by
      have e:a0.natAbs=b.natAbs*w.natAbs:=by rw[hw,dX]
      have:1*w.natAbs<=b.natAbs*w.natAbs:=uH _ ad
      lia
     refine bL8 Q a0 a1 a2 a3 m b w (λ_=>True) _ rfl _ _ _ hw b0 ad wb s1 s2 s3 m4 m9 ad ad ad hy ?_ _ _
     intro q x5 x6 x7;exact⟨_,_,_,_,rfl,mb q⟩
    .rw[a6 dv];refine⟨_,_,_,_,rfl,mb λu w s q=> ?_⟩
     unfold qq at q
     injection q with q0 q
     exact dv (Int.fmod_eq_zero_of_dvd<|Int.dvd_natAbs.mpr ⟨w,q0⟩)
   .rintro ρ ⟨x4,x5,x6,x7,rfl,hk2⟩;try right
    unfold bF0;left;refine hn λrd=> ?_
    rcases rd with⟨z,hz⟩| ⟨v,u,w,s,q⟩
    .exact nr z hz
    .have q':=q;unfold qq at q'
     injection q' with q0 q1
     have nb:=sD ⟨w,q0⟩ z0';have:=hk2 (v+a0.natAbs).toNat ad u w s
     rw[show -(a0.natAbs:Int)+(((v+a0.natAbs).toNat:Nat):Int)=v by lia]at this
     exact this q
structure yD (b:List Int)(s:Int):Prop where
 lo:3<=b.length
 hi:b.length<=5
 one: ∃q,b=q++[1]
 bd:(s=0/\ ∀x∈b,x.natAbs<=499)\/(s.natAbs<=2/\ ∀x∈b,x.natAbs<=10)
theorem yD.ring {b:List Int}(h:yD b s):dO b:=⟨⟨h.lo,h.hi,λx hx=>by
 rcases h.bd with⟨_,k⟩| ⟨_,k⟩
 .exact k x hx
 .exact aI (k x hx) ac⟩,h.one⟩
theorem dC7 (h:yD [a,b,1] s):dO (sh2 a b s++[1]):=by
 refine⟨⟨by simp[sh2],by simp[sh2],?_⟩,sh2 a b s,rfl⟩
 unfold sh2;simp only[a15,qZ,dS,iZ,false_imp_iff,implies_true,and_true];rcases h.bd with⟨rfl,k⟩| ⟨k,k'⟩
 .simp only[dS]at k;exact⟨ad,ad,ac⟩
 .simp only[dS]at k';have t2:(2:Int).natAbs<=2:=ac
  exact⟨aI (na2 (na2 k'.1<|aR k k'.2.1)<|aR k k) ac,aI (na2 k'.2.1<|aR t2 k) ac,ac⟩
theorem dC8 (h:yD [a,b,c,1] s):dO (sh3 a b c s++[1]):=by
 refine⟨⟨by simp[sh3],by simp[sh3],?_⟩,sh3 a b c s,rfl⟩
 unfold sh3;simp only[a15,qZ,dS,iZ,false_imp_iff,implies_true,and_true];rcases h.bd with⟨rfl,k⟩| ⟨k,k'⟩
 .simp only[dS]at k;exact⟨ad,ad,ad,ac⟩
 .simp only[dS]at k';have t2:(2:Int).natAbs<=2:=ac
  have t3:(3:Int).natAbs<=3:=ac
  have k2:=aR k k;exact⟨aI (na2 (na2 (na2 k'.1<|aR k k'.2.1)<|aR k2 k'.2.2.1)<|aR k2 k) ac,aI (na2 (na2 k'.2.1<|aR (aR t2 k) k'.2.2.1)<|aR (aR t3 k) k) ac,aI (na2 k'.2.2.1<|aR t3 k) ac,ac⟩
theorem dC9 {d:Int}(h:yD [a,b,c,d,1] s):dO (sh4 a b c d s++[1]):=by
 refine⟨⟨by simp[sh4],by simp[sh4],?_⟩,sh4 a b c d s,rfl⟩
 unfold sh4;simp only[a15,qZ,dS,iZ,false_imp_iff,implies_true,and_true];rcases h.bd with⟨rfl,k⟩| ⟨k,k'⟩
 .simp only[dS]at k;exact⟨ad,ad,ad,ad,ac⟩
 .simp only[dS]at k';have t2:(2:Int).natAbs<=2:=ac
  have t3:(3:Int).natAbs<=3:=ac
  have t4:(4:Int).natAbs<=4:=ac
  have t6:(6:Int).natAbs<=6:=ac
  have k2:=aR k k;have k3:=aR k2 k;exact⟨aI (na2 (na2 (na2 (na2 k'.1<|aR k k'.2.1)<|aR k2 k'.2.2.1)<|aR k3 k'.2.2.2.1)<|aR k3 k) ac,aI (na2 (na2 (na2 k'.2.1<|aR (aR t2 k) k'.2.2.1)<|aR (aR (aR t3 k) k) k'.2.2.2.1)<|aR (aR (aR t4 k) k) k) ac,aI (na2 (na2 k'.2.2.1<|aR (aR t3 k) k'.2.2.2.1)<|aR (aR t6 k) k) ac,aI (na2 k'.2.2.2.1<|aR t4 k) ac,ac⟩
theorem bZ9 {u:Int}(h:p=qq v u w s):p.length=5:=by rw[h];rfl
theorem sred2 (a b s:Int):Red [a,b,1]↔Red (sh2 a b s++[1]):=by
 have e: ∀z,ev (sh2 a b s++[1]) z=ev [a,b,1] (z+s):=λz=>by
  show ev [a+s*b+s*s,b+2*s,1] z=_
  rw[ev2,ev2];grind
 constructor
 .rintro(⟨z,hz⟩| ⟨v,u,w,t,q⟩)
  .exact .inl ⟨z-s,by rw[e,show z-s+s=z by lia];exact hz⟩
  .have:=bZ9 q;simp at this
 .rintro(⟨z,hz⟩| ⟨v,u,w,t,q⟩)
  .exact .inl ⟨z+s,by rw[<-e];exact hz⟩
  .have:=bZ9 q;simp[sh2]at this
theorem sred3 (a b c s:Int):Red [a,b,c,1]↔Red (sh3 a b c s++[1]):=by
 have e: ∀z,ev (sh3 a b c s++[1]) z=ev [a,b,c,1] (z+s):=λz=>by
  show ev [a+s*b+s*s*c+s*s*s,b+2*s*c+3*s*s,c+3*s,1] z=_
  rw[ev3,ev3];grind
 constructor
 .rintro(⟨z,hz⟩| ⟨v,u,w,t,q⟩)
  .exact .inl ⟨z-s,by rw[e,show z-s+s=z by lia];exact hz⟩
  .have:=bZ9 q;simp at this
 .rintro(⟨z,hz⟩| ⟨v,u,w,t,q⟩)
  .exact .inl ⟨z+s,by rw[<-e];exact hz⟩
  .have:=bZ9 q;simp[sh3]at this
theorem sred4 (a b c d s:Int):Red [a,b,c,d,1]↔Red (sh4 a b c d s++[1]):=by
 have e: ∀z,ev (sh4 a b c d s++[1]) z=ev [a,b,c,d,1] (z+s):=λz=>by
  show ev [a+s*b+s*s*c+s*s*s*d+s*s*s*s,b+2*s*c+3*s*s*d+4*s*s*s,c+3*s*d+6*s*s,d+4*s,1] z=_
  rw[ev4,ev4];grind
 constructor
 .rintro(⟨z,hz⟩| ⟨v,u,w,t,q⟩)
  .exact .inl ⟨z-s,by rw[e,show z-s+s=z by lia];exact hz⟩
  .refine .inr ⟨v+u*s+s*s,u+2*s,w+t*s+s*s,t+2*s,?_⟩
   unfold qq at q
   injection q with q0 q;injection q with q1 q;injection q with q2 q;injection q with q3 q
   subst q0 q1 q2 q3;show [_,_,_,_,_]=_;unfold qq
   congr 1
   .grind
   congr 1
   .grind
   congr 1
   .grind
   congr 1
   grind
 .rintro(⟨z,hz⟩| ⟨v,u,w,t,q⟩)
  .exact .inl ⟨z+s,by rw[<-e];exact hz⟩
  .refine .inr ⟨v-u*s+s*s,u-2*s,w-t*s+s*s,t-2*s,?_⟩
   have q':[a+s*b+s*s*c+s*s*s*d+s*s*s*s,b+2*s*c+3*s*s*d+4*s*s*s,c+3*s*d+6*s*s,d+4*s,1]=qq v u w t:=q;unfold qq at q'
   injection q' with q0 q';injection q' with q1 q';injection q' with q2 q';injection q' with q3 q'
   have k3:d=u+t-4*s:=ad
   subst k3;have k2:c=v+w+u*t-3*s*(u+t-4*s)-6*s*s:=by grind
   subst k2;have k1:b=u*w+v*t-2*s*(v+w+u*t-3*s*(u+t-4*s)-6*s*s)-3*s*s*(u+t-4*s)-4*s*s*s:=by grind
   subst k1;have k0:a=v*w-s*(u*w+v*t-2*s*(v+w+u*t-3*s*(u+t-4*s)-6*s*s)-3*s*s*(u+t-4*s)-4*s*s*s)-s*s*(v+w+u*t-3*s*(u+t-4*s)-6*s*s)-s*s*s*(u+t-4*s)-s*s*s*s:=by grind
   subst k0;clear q q0 q1 q2 q3 e;unfold qq
   congr 1
   .grind
   congr 1
   .grind
   congr 1
   .grind
   congr 1
   grind
theorem sh_ok {b:List Int}(h:yD b s):dO (shK b s<|b.length-1)/\(Red b↔Red (shK b s<|b.length-1)):=by
 rcases h.ring.cs with⟨a,b,rfl⟩| ⟨a,b,c,rfl⟩| ⟨a,b,c,d,rfl⟩
 .show dO (shK [a,b,1] s 2)/\(_↔Red (shK [a,b,1] s 2))
  rw[she2];exact⟨dC7 h,sred2 a b s⟩
 .show dO (shK [a,b,c,1] s 3)/\(_↔Red (shK [a,b,c,1] s 3))
  rw[she3];exact⟨dC8 h,sred3 a b c s⟩
 .show dO (shK [a,b,c,d,1] s 4)/\(_↔Red (shK [a,b,c,d,1] s 4))
  rw[she4];exact⟨dC9 h,sred4 a b c d s⟩
theorem xE {q:List Int}(h1:2<=q.length)(h2:q.length<=4)(h:(s=0/\ ∀x∈q,x.natAbs<=499)\/(s.natAbs<=2/\ ∀x∈q,x.natAbs<=10)):yD (q++[1]) s:=by
 refine⟨by simp;lia,by simp;lia,⟨q,rfl⟩,?_⟩
 rcases h with⟨e,h⟩| ⟨e,h⟩
 .exact .inl ⟨e,λx hx=>(bU.mp hx).elim (h x) λz=>by rw[iH.mp z];decide⟩
 .exact .inr ⟨e,λx hx=>(bU.mp hx).elim (h x) λz=>by rw[iH.mp z];decide⟩
theorem bS7 (Q:B->Ev->Prop)(ui:UI)(ρ ρ1:Ev)(xs:List Int)(md lo:Int)(hm:0<md)(hl:0<=lo)(hx:xs.length<=1000)(hui: ∀Q:Nat->(Nat->D)->Ev->Prop,Q xs.length (λk=>(xs.map D.int).getD k .non) ρ1->ui ρ Q)
  (h: ∀ls:List Int,ls.length=xs.length->(∀x∈ls,-lo<=x/\x<md-lo)->Q (.ow<|ls.map .int) ρ1) :
  fJ [] [none,none] 1 ui (cE 0) (λρ Q=>Q true ρ) (uOp M.gSub (uOp jC (aB 0)<|uC<|.int md)<|uC<|.int lo) ρ Q:=by
 refine c59 (t0:=0) xs.length (λk=>(xs.map D.int).getD k .non) ρ1 hui hx (λx l=>[x,↑l]) none rfl (λ_ _ _=>rfl) (λ_ _=>cN _) (λ_ _ _ q=>q) (λ_ _ _=>rfl) (λx=> ∃z,x= .int z/\(-lo<=z/\z<md-lo)) ?_ ?_
 .intro k l Q' hk qq;have e3:(xs.map D.int).getD k .non= .int xs[k]:=by rw[aJ,bI,aM hk];rfl
  rw[e3]at qq⊢;left;refine⟨ad,?_⟩
  rw[bY _ hm];have m1:=cH xs[k] (show md≠0 by lia)
  have m2:=cG xs[k] hm;exact qq _ ⟨_,rfl,ad,ad⟩
 .intro l2 l2n l2p;obtain⟨ls,rfl,hls⟩:=c60 l2p;rw[aF]at l2n;exact h ls l2n hls
def tG:Φ:=λds Q=> ∃(p:List Int) (q:Int),ds=[aO p,.int q]/\dO p/\p.length=5/\Pr q/\(SqL q (fOf p)->Q (.pu<|.bl true))/\(¬SqL q (fOf p)->Q (.pu<|.bl false))
def zK:US:=(d6<|c39 (uOp (fH false) (uOp jC (uOp M.gSub (uOp M.gSub (uIx (aS 0)<|uC<|.int 1)<|uOp bZ (aB 4)<|aB 5)<|uOp bZ (aB 3)<|aB 6)<|uOp bZ (aB 1)<|aB 1)<|uC<|.int 0)<|uOp (fH false) (uOp jC (uOp M.gSub (uIx (aS 0)<|uC<|.int 0)<|uOp bZ (aB 4)<|aB 6)<|uOp bZ (aB 1)<|aB 1)<|uC<|.int 0)
def zL:US:=(aQ (bN 6<|uOp M.gSub (uOp M.gSub (uIx (aS 0)<|uC<|.int 2)<|aB 4)<|uOp bZ (aB 3)<|aB 5) zK)
def zM:US:=(aQ (bN 5<|uOp M.gSub (uIx (aS 0)<|uC<|.int 3)<|aB 3) zL)
def zN:US:=(aQ (fE (cO<|aV d52<|a8 (fJ [3,4,1] [none,some 3,some 4,some 1,none] 4 (jJ<|a8 (aB 1) aP) (cE 0) (λρ Q=>Q true ρ)<|uOp (fH false) (uOp jC (uOp gI (uOp gI (uOp bZ (aB 0)<|aB 0)<|uOp bZ (aB 1)<|aB 0)<|aB 2)<|aB 3)<|uC<|.int 0) aP) (d6<|uC<|.bl false) cX) zM)
def zO:US:=(aQ (fE (uOr (cO<|uOp (fH true) (uOp jC (uOp M.gSub (uOp bZ (uOp bZ (uC<|.int 2)<|aB 3)<|aB 4)<|uIx (aS 0)<|uC<|.int 1)<|aB 1)<|uC<|.int 0)<|cO<|uOp (fH true) (uOp jC (uOp M.gSub (uOp bZ (aB 4)<|aB 4)<|uIx (aS 0)<|uC<|.int 0)<|aB 1)<|uC<|.int 0) (d6<|uC<|.bl false) cX) zN)
def rR:US:=(aQ (fE (uOr (cO<|uOp (fH true) (uOp jC (uOp M.gSub (uOp bZ (uC<|.int 2)<|aB 3)<|uIx (aS 0)<|uC<|.int 3)<|aB 1)<|uC<|.int 0)<|cO<|uOp (fH true) (uOp jC (uOp M.gSub (uOp gI (uOp bZ (aB 3)<|aB 3)<|uOp bZ (uC<|.int 2)<|aB 4)<|uIx (aS 0)<|uC<|.int 2)<|aB 1)<|uC<|.int 0) (d6<|uC<|.bl false) cX) zO)
def rS:US:=(aQ (fE (cO<|uOp (fH false) (aB 1)<|uC<|.int 2) (aQ (bN 3<|uC<|.int 1)<|bN 4<|uC<|.int 1) cX) rR)
def zP:US:=(aQ (bN 4<|uOp jC (uOp bZ (uOp M.gSub (uIx (aS 0)<|uC<|.int 2)<|uOp bZ (aB 3)<|aB 3)<|aB 2)<|aB 1) rS)
def zQ:US:=(aQ (bN 3<|uOp jC (uOp bZ (uIx (aS 0)<|uC<|.int 3)<|aB 2)<|aB 1) zP)
def tH:US:=(aQ (bN 2<|uOp aQ5 (uOp gI (aB 1)<|uC<|.int 1)<|uC<|.int 2) zQ)
theorem cQ5 {Q:B->Prop}{z:Int}{h:Option B}(pq:Pr q)(hx:x.natAbs<=499)(hy:y.natAbs<=499)(hz:z.natAbs<=499)(hw:w.natAbs<=499)(ht:SqL q (fOf [x,y,z,w,1])->Q (.pu<|.bl true))(hf: ¬SqL q (fOf [x,y,z,w,1])->Q (.pu<|.bl false))(ea:sqA q (fOf [x,y,z,w,1])=a)(eb:sqC q (fOf [x,y,z,w,1])=b)(a0:0<=a)(a1:a<q)(b0:0<=b)(b1:b<q) :
  rR {nx:=λ_=>Q (.pu .non),rt:=Q} [~~~.tup [.int x,.int y,.int z,.int w,.int 1],!q,h,!a,!b,none,none]:=by
 have e0:atI [D.int x,D.int y,D.int z,D.int w,D.int 1] 0=some (.int x):=cY (j:=0) rfl;have e1:atI [D.int x,D.int y,D.int z,D.int w,D.int 1] 1=some (.int y):=cY (j:=1) rfl;have e2:atI [D.int x,D.int y,D.int z,D.int w,D.int 1] 2=some (.int z):=cY (j:=2) rfl;have e3:atI [D.int x,D.int y,D.int z,D.int w,D.int 1] 3=some (.int w):=cY (j:=3) rfl;have q2:=pq.lo;have q9:=pq.hi
 have qq:0<q*q:=rH ad ad
 have qp:0<q:=ad
 unfold rR;rw[aL];left;rw[e3,e2];right;rw[bY _ qp,bY _ qp];refine⟨cmL ac ac,ad,?_⟩
 by_cases c3: ¬(2*a-w)%q=0
 .rw[a7 c3];exact hf λsq=>c3 (bP (by have:=sq.d3;rw[ea]at this;exact this))
 rw[a6 c3];have c3:=a13.mp c3;refine⟨cmL ad ad,cmL ac ac,ad,?_⟩
 by_cases c2: ¬(a*a+2*b-z)%q=0
 .rw[a7 c2];exact hf λsq=>c2 (bP (by have:=sq.d2;rw[ea,eb]at this;exact this))
 rw[a6 c2];have c2:=a13.mp c2;unfold zO;rw[aL];left;rw[e1,e0];right;rw[bY _ qp,bY _ qp];refine⟨cmL ac ac,cmR ad ad,ad,?_⟩
 by_cases c1: ¬(2*a*b-y)%q=0
 .rw[a7 c1];exact hf λsq=>c1 (bP (by have:=sq.d1;rw[ea,eb]at this;exact this))
 rw[a6 c1];have c1:=a13.mp c1;refine⟨cmL ad ad,ad,?_⟩
 by_cases c0: ¬(b*b-x)%q=0
 .rw[a7 c0];exact hf λsq=>c0 (bP (by have:=sq.d0;rw[eb]at this;exact this))
 rw[a6 c0];have c0:=a13.mp c0;unfold zN;rw[aL,iR,aS5,gN,fU]
 refine eV (t0:=0) q.toNat (λk=> .int (0+(k:Int))) [~~~.tup [.int x,.int y,.int z,.int w,.int 1],!q,h,!a,!b,none,none] (λQ' q'=> ?_) ad (λx l=>[x,!a,!b,!q,↑l]) none rfl (λ_ _ _=>rfl) (λ_ _=>cN _) (λ_ _ _ q=>q) (λ_ _ _=>rfl) (λk=> .bl (decide (((k:Int)*(k:Int)+a*(k:Int)+b)%q=0))) ?_ ?_
 .left
  exact⟨⟨ad,ad⟩,q'⟩
 .intro k l Q' hk q';rw[bS]at q'⊢;left;rw[bY _ qp];exact⟨cmL ad ad,cmL ad ad,ad,q'⟩
 have em:(List.range q.toNat).map (λk:Nat=>D.bl (decide (((k:Int)*(k:Int)+a*(k:Int)+b)%q=0)))=((List.range q.toNat).map λk:Nat=>decide (((k:Int)*(k:Int)+a*(k:Int)+b)%q=0)).map D.bl:=by rw[eZ];rfl
 rw[em];left;rw[lZ];right
 by_cases an:((List.range q.toNat).map λk:Nat=>decide (((k:Int)*(k:Int)+a*(k:Int)+b)%q=0)).any id=true
 .rw[a7 an];refine hf λsq=> ?_
  obtain⟨c,hc,ct⟩:=a16.mp an;obtain⟨k,hk,rfl⟩:=cC.mp hc;have:=dW.mp hk;refine sq.no (k:Int) ad ad ?_
  rw[ea,eb];exact b7 (by exists ct)
 rw[a6 an];have no: ∀r,0<=r->r<q-> ¬q∣r*r+a*r+b:=λr r0 r1 d=>an (a16.mpr ⟨_,cC.mpr ⟨r.toNat,dW.mpr ad,rfl⟩,by
  rw[qT r0]
  simpa using bP d⟩)
 unfold zM;rw[aL];left;rw[e3];right;unfold zL;rw[aL];left;rw[e2];right;refine⟨cmL ad ad,?_⟩
 unfold zK;left;rw[e1,e0];right;rw[bY _ qq,bY _ qq];have rb:y-b*(w-a)-a*(z-b-a*(w-a))=rB a b (fOf [x,y,z,w,1]):=by
  show _=y-a*z+(a*a-b)*w+(2*a*b-a*a*a)
  grind
 have ra:x-b*(z-b-a*(w-a))=rA a b (fOf [x,y,z,w,1]):=by
  show _=x-b*z+a*b*w+(b*b-a*a*b)
  grind
 have u2:a.natAbs<=200:=ad
 have v2:b.natAbs<=200:=ad
 refine⟨cmL ad ad,cmL ad ad,cmL ad ad,ad,?_⟩
 rw[rb,ra]
 by_cases f1:rB a b (fOf [x,y,z,w,1])%(q*q)=0
 .rw[a7 f1];refine⟨cmL ad ad,cmL ad ad,ad,?_⟩
  by_cases f0:rA a b (fOf [x,y,z,w,1])%(q*q)=0
  .rw[fL f0];refine ht ⟨?_,?_,?_,?_,?_,?_,?_⟩<;>(try rw[ea])<;>try rw[eb]
   .exact b7 c3
   .exact b7 c2
   .exact b7 c1
   .exact b7 c0
   .exact no
   .exact b7 f1
   .exact b7 f0
  .rw[fX f0];exact hf λsq=>f0 (bP (by have:=sq.eA;rw[ea,eb]at this;exact this))
 .rw[a6 f1];exact hf λsq=>f1 (bP (by have:=sq.eB;rw[ea,eb]at this;exact this))
theorem uIf_at {k:Int}{t u:US}(h:ρ[i]? =some (!q)):fE (cO<|uOp (fH false) (aB i)<|uC<|.int k) t u E ρ=if q=k then t E ρ else u E ρ:=by
 rw[iR,aS5,a51,aS6 h];unfold uC;left
theorem if_two {T:US}{s0 s2 s3:Option B}:aQ (fE (cO<|uOp (fH false) (aB 1)<|uC<|.int 2) (aQ (bN 3<|uC<|.int 1)<|bN 4<|uC<|.int 1) cX) T E [s0,!q,s2,s3,s4,s5,s6]=if q=2 then T E [s0,!q,s2,!1,!1,s5,s6]else T E [s0,!q,s2,s3,s4,s5,s6]:=by
 rw[aL,uIf_at rfl];rfl
theorem dD0 {Q:B->Prop}{z:Int}{h:Option B}(pq:Pr q)(hx:x.natAbs<=499)(hy:y.natAbs<=499)(hz:z.natAbs<=499)(hw:w.natAbs<=499)(ht:SqL q (fOf [x,y,z,w,1])->Q (.pu<|.bl true))(hf: ¬SqL q (fOf [x,y,z,w,1])->Q (.pu<|.bl false))(ea:q≠2->sqA q (fOf [x,y,z,w,1])=a)(eb:q≠2->sqC q (fOf [x,y,z,w,1])=b)(ra:0<=a/\a<q)(rb:0<=b/\b<q) :
  rS {nx:=λ_=>Q (.pu .non),rt:=Q} [~~~.tup [.int x,.int y,.int z,.int w,.int 1],!q,h,!a,!b,none,none]:=by
 have q2:=pq.lo;unfold rS;rw[if_two]
 by_cases c:q=2
 .rw[a7 c];exact cQ5 (h:=h) (a:=1) (b:=1) pq hx hy hz hw ht hf (by unfold sqA;rw[a7 c]) (by unfold sqC;rw[a7 c]) ac ad ac ad
 .rw[a6 c];exact cQ5 (h:=h) pq hx hy hz hw ht hf (ea c) (eb c) ra.1 ra.2 rb.1 rb.2
theorem b58: Ra tG tH ["p","q","h","a","b","c","d"]:=by
 rintro ds Q ⟨p,q,rfl,rp,p5,pq,ht,hf⟩;have q2:=pq.lo;have q9:=pq.hi;rcases rp.cases with⟨x,y,rfl,hx,hy⟩| ⟨x,y,z,rfl,hx,hy,hz⟩| ⟨x,y,z,w,rfl,hx,hy,hz,hw⟩
 .exact absurd p5 ae
 .exact absurd p5 ae
 .have e0:atI [D.int x,D.int y,D.int z,D.int w,D.int 1] 0=some (.int x):=cY (j:=0) rfl;have e1:atI [D.int x,D.int y,D.int z,D.int w,D.int 1] 1=some (.int y):=cY (j:=1) rfl;have e2:atI [D.int x,D.int y,D.int z,D.int w,D.int 1] 2=some (.int z):=cY (j:=2) rfl;have e3:atI [D.int x,D.int y,D.int z,D.int w,D.int 1] 3=some (.int w):=cY (j:=3) rfl;have qq:0<q*q:=rH ad ad
  have qp:0<q:=ad
  unfold tH;show(aQ _ _:US) _ [~~~.tup [.int x,.int y,.int z,.int w,.int 1],!q,none,none,none,none,none];rw[aL];left;rw[sK _ ac]
  refine⟨⟨ac,aN3 ac ac⟩,?_⟩
  unfold zQ;rw[aL];left;rw[e3];right;rw[bY _ qp];refine⟨cmL ad ad,ad,?_⟩
  have ea:q≠2->sqA q (fOf [x,y,z,w,1])=w*((q+1)/2)%q:=λc=>by
   unfold sqA;rw[a6 c,show fOf [x,y,z,w,1] 3=w from rfl]
  have ra:0<=w*((q+1)/2)%q/\w*((q+1)/2)%q<q:=⟨cH _ ad,cG _ ad⟩
  generalize w*((q+1)/2)%q=a at *;unfold zP;rw[aL];left;rw[e2];right;rw[bY _ qp];refine⟨cmL ad ad,cmR ad ad,ad,?_⟩
  have eb:q≠2->sqC q (fOf [x,y,z,w,1])=(z-a*a)*((q+1)/2)%q:=λc=>by
   unfold sqC;rw[a6 c,ea c,show fOf [x,y,z,w,1] 2=z from rfl]
  have rb:0<=(z-a*a)*((q+1)/2)%q/\(z-a*a)*((q+1)/2)%q<q:=⟨cH _ ad,cG _ ad⟩
  generalize (z-a*a)*((q+1)/2)%q=b at *;exact dD0 pq hx hy hz hw ht hf ea eb ra rb
def b15:Φ:=λds Q=> ∃p:List Int,ds=[aO p]/\dO p/\Q (.pu<|.int<|aS2 p)
def aH3:US:=(d6<|uOp gI (uOp M.gSub (aB 4)<|uOp bZ (uOp bZ (uC<|.int 27)<|aB 1)<|aB 1)<|uOp bZ (uOp bZ (uOp bZ (uC<|.int 18)<|aB 3)<|aB 2)<|aB 1)
def aH4:US:=(aQ (bN 4<|uOp M.gSub (aB 4)<|uOp bZ (uOp bZ (uOp bZ (uOp bZ (uC<|.int 4)<|aB 3)<|aB 3)<|aB 3)<|aB 1) aH3)
def yE:US:=(aQ (bN 4<|uOp M.gSub (uOp bZ (uOp bZ (uOp bZ (aB 3)<|aB 3)<|aB 2)<|aB 2)<|uOp bZ (uOp bZ (uOp bZ (uC<|.int 4)<|aB 2)<|aB 2)<|aB 2) aH4)
def aH5:US:=(aQ (bK7 (uSl (aS 0) jA<|n8<|uC<|.int 3)<|sH<|eO 1<|eO 2<|eO 3 sG) yE)
def aC5:US:=(d6<|uOp aQ5 (uOp M.gSub (uOp bZ (uOp bZ (uOp bZ (uC<|.int 4)<|aB 6)<|aB 6)<|aB 6)<|uOp bZ (aB 7)<|aB 7)<|uC<|.int 27)
def b39:US:=(aQ (bN 7<|uOp M.gSub (uOp M.gSub (aB 7)<|uOp bZ (uOp bZ (uOp bZ (uC<|.int 27)<|aB 3)<|aB 3)<|aB 5)<|uOp bZ (uOp bZ (uOp bZ (uC<|.int 2)<|aB 2)<|aB 2)<|aB 2) aC5)
def b40:US:=(aQ (bN 7<|uOp M.gSub (uOp gI (uOp bZ (uOp bZ (uC<|.int 72)<|aB 2)<|aB 5)<|uOp bZ (uOp bZ (uOp bZ (uC<|.int 9)<|aB 3)<|aB 2)<|aB 1)<|uOp bZ (uOp bZ (uC<|.int 27)<|aB 1)<|aB 1) b39)
def aC6:US:=(aQ (bN 6<|uOp gI (uOp M.gSub (uOp bZ (uC<|.int 12)<|aB 5)<|uOp bZ (uOp bZ (uC<|.int 3)<|aB 3)<|aB 1)<|uOp bZ (aB 2)<|aB 2) b40)
def b41:US:=(aQ (bK7 (uSl (aS 0) jA<|n8<|uC<|.int 4)<|sH<|eO 5<|eO 1<|eO 2<|eO 3 sG) aC6)
def aC7:US:=(aQ (fE (cO<|uOp (fH false) (jE<|aS 0)<|uC<|.int 4) aH5 cX) b41)
def b16:US:=(aQ (fE (cO<|uOp (fH false) (jE<|aS 0)<|uC<|.int 3) (d6<|uOp M.gSub (uOp bZ (uIx (aS 0)<|uC<|.int 1)<|uIx (aS 0)<|uC<|.int 1)<|uOp bZ (uC<|.int 4)<|uIx (aS 0)<|uC<|.int 0) cX) aC7)
theorem iG {i:Int}(hx:x.natAbs<=499):c31 i x\/(Sm i/\Sm x):=cmR aa aa
theorem bF6 (k:Nat)(hx:x.natAbs<=499):((k:Int)*x).natAbs<=k*499:=by rw[dX,aL5];exact uK _ hx
theorem aH6 {u:Int}{b:Nat}(hu:u.natAbs<=b)(hx:x.natAbs<=499):(u*x).natAbs<=b*499:=by rw[dX];exact jQ hu hx
theorem dU6 {u:Int}{a b:Nat}(hu:u.natAbs<=a)(hv:v.natAbs<=b):(u+v).natAbs<=a+b:=aI (a12 u v) (rD hu hv)
theorem cQ6 {u:Int}{a b:Nat}(hu:u.natAbs<=a)(hv:v.natAbs<=b):(u-v).natAbs<=a+b:=aI (oA u v) (rD hu hv)
theorem dD1 {Q:B->Prop}{z:Int}{s7:Option B}(hx:x.natAbs<=499)(hy:y.natAbs<=499)(hz:z.natAbs<=499)(h:Q (.pu<|.int<|aS2 [x,y,z,1])):yE {nx:=λ_=>Q (.pu .non),rt:=Q} [x0,!x,!y,!z,s4,s5,s6,s7]:=by
 unfold yE;rw[aL];left;refine⟨iG hz,iG hy,iG hy,iG hy,iG hy,iG hy,?_⟩;unfold aH4;rw[aL];obtain⟨t,et⟩: ∃t,t=z*z*y*y-4*y*y*y:=⟨_,rfl⟩;rw[<-et];left;refine⟨iG hz,iG hz,iG hz,iG hx,?_⟩;unfold aH3;left;refine⟨iG hx,iG hx,iG hz,iG hy,iG hx,?_⟩;rw[et];exact h
theorem dQ8 {Q:B->Prop}{s1 s2 s3:Option B}(ha:a.natAbs<=1100000)(hb:b.natAbs<=9000000000)(h:Q (.pu<|.int<|(4*a*a*a-b*b).fdiv 27)):aC5 {nx:=λ_=>Q (.pu .non),rt:=Q} [x0,s1,s2,s3,s4,s5,!a,!b]:=by
 unfold aC5;left;exact⟨cmL ac ac,cmR ad ad,cmR ad ad,cmR ad ad,⟨ac,aN3 ac ac⟩,h⟩
theorem dQ9 {Q:B->Prop}{z:Int}{s7:Option B}(hx:x.natAbs<=499)(hy:y.natAbs<=499)(hz:z.natAbs<=499)(hw:w.natAbs<=499)(h:Q (.pu<|.int<|aS2 [x,y,z,w,1])):aC6 {nx:=λ_=>Q (.pu .non),rt:=Q} [x0,!y,!z,!w,s4,!x,s6,s7]:=by
 have a1:(12*x-3*w*y+z*z).natAbs<=1100000:=aI (dU6 (cQ6 (bF6 12 hx)<|aH6 (bF6 3 hw) hy)<|aH6 hz hz) ac
 have a2:(72*z*x+9*w*z*y-27*y*y-27*w*w*x-2*z*z*z).natAbs<=9000000000:=aI (cQ6 (cQ6 (cQ6 (dU6 (aH6 (bF6 72 hz) hx)<|aH6 (aH6 (bF6 9 hw) hz) hy)<|aH6 (bF6 27 hy) hy)<|aH6 (aH6 (bF6 27 hw) hw) hx)<|aH6 (aH6 (bF6 2 hz) hz) hz) ac
 unfold aC6;rw[aL];left;refine⟨iG hx,iG hw,iG hy,iG hz,?_⟩
 replace h:Q (.pu<|.int<|(4*(12*x-3*w*y+z*z)*(12*x-3*w*y+z*z)*(12*x-3*w*y+z*z)-(72*z*x+9*w*z*y-27*y*y-27*w*w*x-2*z*z*z)*(72*z*x+9*w*z*y-27*y*y-27*w*w*x-2*z*z*z)).fdiv 27):=h
 generalize 12*x-3*w*y+z*z=a at *;unfold b40;rw[aL];left;refine⟨iG hz,iG hx,iG hw,iG hz,iG hy,iG hy,iG hy,?_⟩;generalize 72*z*x+9*w*z*y-27*y*y=b at *;unfold b39;rw[aL];left;refine⟨iG hw,iG hw,iG hx,iG hz,iG hz,iG hz,?_⟩;generalize b-27*w*w*x-2*z*z*z=c at *;exact dQ8 a1 a2 h
theorem cW8: Ra b15 b16 ["p","d","c","b","t","e","o","w"]:=by
 rintro ds Q ⟨p,rfl,hp,h⟩;unfold b16;rcases hp.cases with⟨x,y,rfl,hx,hy⟩| ⟨x,y,z,rfl,hx,hy,hz⟩| ⟨x,y,z,w,rfl,hx,hy,hz,hw⟩
 .show(aQ _ _:US) _ [~~~.tup [.int x,.int y,.int 1],none,none,none,none,none,none,none]
  rw[aL];left;rw[a7<|by rfl]
  rw[show atI [D.int x,D.int y,D.int 1] 1=some (.int y)from cY (j:=1) rfl,show atI [D.int x,D.int y,D.int 1] 0=some (.int x)from cY (j:=0) rfl]
  exact⟨iG hy,iG hx,h⟩
 .show(aQ _ _:US) _ [~~~.tup [.int x,.int y,.int z,.int 1],none,none,none,none,none,none,none]
  rw[aL];left;rw[a6 ac]
  unfold aC7;rw[aL];left;rw[a7<|by rfl]
  unfold aH5;rw[aL];left;rw[show cutD [D.int x,D.int y,D.int z,D.int 1] none (some 3)=[D.int x,D.int y,D.int z]from aN4 _ 3 ae]
  left
  exact⟨ac,ac,ac,ac,trivial,dD1 hx hy hz h⟩
 .show(aQ _ _:US) _ [~~~.tup [.int x,.int y,.int z,.int w,.int 1],none,none,none,none,none,none,none]
  rw[aL];left;rw[a6 ac]
  unfold aC7;rw[aL];left;rw[a6 ac]
  unfold b41;rw[aL];left;rw[show cutD [D.int x,D.int y,D.int z,D.int w,D.int 1] none (some 4)=[D.int x,D.int y,D.int z,D.int w]from aN4 _ 4 ae]
  left
  exact⟨ac,ac,ac,ac,ac,trivial,dQ9 hx hy hz hw h⟩
def pkN:Nat->List (List Nat)
 | 0=>[[]]
 | i+1=>pkN i++(pkN i).map λl=>l++[i]
def pC (l:List Nat):D:= .lst (l.map λi:Nat=> .int (i:Int))
def mnr (T:Nat->∅)(l:List Nat):List (List Int):=l.map λi=>l.map λj=>T i j
noncomputable def plS (T:Nat->∅)(n:Nat)(f:∅)(l:List Nat):∅:=λj=>if j=n-l.length then f j+(1-2*((l.length:Int)%2))*d5 4 (mnr T l)else f j
noncomputable def plF (T:Nat->∅)(n:Nat)(L:List (List Nat)):∅:=L.foldl (plS T n) λj=>if j=n then 1 else 0
theorem mn1 (T:Nat->∅)(i:Nat):d5 4 (mnr T [i])=T i i:=by kernel_rfl
theorem mn2 (T:Nat->∅)(i j:Nat):d5 4 (mnr T [i,j])=1*T i i*(T j j)+(-1*T j i*(T i j)+0):=by kernel_rfl
theorem mn3 (T:Nat->∅)(a b c:Nat):d5 4 (mnr T [a,b,c])=1*T a a*(1*T b b*(T c c)+(-1*T c b*(T b c)+0))+(-1*T b a*(1*T a b*(T c c)+(-1*T c b*(T a c)+0))+(1*T c a*(1*T a b*(T b c)+(-1*T b b*(T a c)+0))+0)):=by kernel_rfl
theorem mn4 (T:Nat->∅):d5 4 (mnr T [0,1,2,3])=d5 4 (tbL 4 T):=by kernel_rfl
theorem pl_chn (n2:2<=n)(n4:n<=4)(T:Nat->∅)(j:Nat)(hj:j<n+1):plF T n (pkN n).tail j=chn n T (n-j):=by
 match n,n2,n4 with
 | 2,_,_=>
  have e:(pkN 2).tail=[[0],[1],[0,1]]:=ac
  rw[e];have:j=0\/j=1\/j=2:=ad
  rcases this with rfl|rfl|rfl
  .show _=ch2 T 2
   simp[plF,plS,mn1,mn2,ch2]
   grind
  .show _=ch2 T 1
   simp[plF,plS,mn1,mn2,ch2]
   grind
  .show _=ch2 T 0
   simp[plF,plS,ch2]
 | 3,_,_=>
  have e:(pkN 3).tail=[[0],[1],[0,1],[2],[0,2],[1,2],[0,1,2]]:=ac
  rw[e];have:j=0\/j=1\/j=2\/j=3:=ad
  rcases this with rfl|rfl|rfl|rfl
  .show _=ch3 T 3
   simp[plF,plS,mn1,mn2,mn3,ch3]
   grind
  .show _=ch3 T 2
   simp[plF,plS,mn1,mn2,mn3,ch3]
   grind
  .show _=ch3 T 1
   simp[plF,plS,mn1,mn2,mn3,ch3]
   grind
  .show _=ch3 T 0
   simp[plF,plS,ch3]
 | 4,_,_=>
  have e:(pkN 4).tail=[[0],[1],[0,1],[2],[0,2],[1,2],[0,1,2],[3],[0,3],[1,3],[0,1,3],[2,3],[0,2,3],[1,2,3],[0,1,2,3]]:=ac
  rw[e];have:j=0\/j=1\/j=2\/j=3\/j=4:=ad
  rcases this with rfl|rfl|rfl|rfl|rfl
  .have c:=bZ2 (n:=4) ac ac T
   show _=chn 4 T 4
   rw[c];simp[plF,plS,mn4]
  .show _=ch4 T 3
   simp[plF,plS,mn1,mn2,mn3,ch4]
   grind
  .show _=ch4 T 2
   simp[plF,plS,mn1,mn2,mn3,ch4]
   grind
  .show _=ch4 T 1
   simp[plF,plS,mn1,mn2,mn3,ch4]
   grind
  .show _=ch4 T 0
   simp[plF,plS,ch4]
def cK1:Φ:=λds Q=> ∃(p:List Int) (n e:Nat) (u:∅),ds=[aO p,aO<|rwF n u]/\dO p/\p.length=n+1/\e<=400/\(∀j,(u j).natAbs<=2^e)/\Q (.ow<|(rwF (n+1) λj=>chn n (itT p n u) (n-j)).map .int)
def bF7:US:=(b95 6 (uOp gI (uIx (aS 6)<|aB 10)<|uOp bZ (aB 9)<|aV (jZ 4)<|a8 (aB 8) aP)<|aB 10)
def bF8:US:=(aQ (bN 10<|uOp M.gSub (aB 2)<|jE<|aS 7) bF7)
def bF9:US:=(aQ (bN 9<|uOp M.gSub (uC<|.int 1)<|uOp bZ (uC<|.int 2)<|uOp jC (jE<|aS 7)<|uC<|.int 2) bF8)
def bG0:US:=(aQ (jI (i7<|aB 7) (cE 5)<|aQ4 8<|fJ [5] [none,some 3,some 5,none] 3 (i7<|aB 7) (cE 0) (λρ Q=>Q true ρ)<|uIx (uV<|uIx (aS 1)<|aB 2)<|aB 0) bF9)
def bG1:US:=(aQ (bN 8<|lY aP) bG0)
def c93:US:=(tP 6)
def c94:US:=(aQ (jI (i7<|uSl (aS 4) (n8<|uC<|.int 1) jA) (cE 7) bG1) c93)
def c95:US:=(aQ (bN 6<|uOp gI (uOp bZ (lY<|a8 (uC<|.int 0) aP)<|aB 2)<|lY<|a8 (uC<|.int 1) aP) c94)
def c96:US:=(aQ (jI (jJ<|a8 (aB 2) aP) (cE 5)<|bN 4<|uOp gI (aB 4)<|fJ [5] [none,some 5,none] 2 (i7<|aB 4) (cE 0) (λρ Q=>Q true ρ)<|uOp gI (aB 0)<|lY<|a8 (aB 1) aP) c95)
def c97:US:=(aQ (bN 4<|lY<|a8 (lY aP) aP) c96)
def bG2:US:=(aQ (bN 3<|aV bE3<|a8 (aB 0)<|a8 (aB 1) aP) c97)
def cK2:US:=(aQ (bN 2<|uOp M.gSub (jE<|aS 0)<|uC<|.int 1) bG2)
theorem cK3: ∀n,(pkN n).length=2^n
 | 0=>rfl
 | n+1=>by
  show(pkN n++(pkN n).map λl=>l++[n]).length=_
  rw[dD,aF,cK3 n,a28]
  lia
theorem c00: ∀n,∀l∈pkN n,l.length<=n/\ ∀i∈l,i<n
 | 0,l,hl=>by
  have:l=[]:=by simpa[pkN]using hl
  subst this;exact⟨aD _,nofun⟩
 | n+1,l,hl=>by
  rcases bU.mp (show l∈pkN n++(pkN n).map λl=>l++[n]from hl)with h|h
  .have:=c00 n l h;exact⟨ad,λi hi=>by have:=this.2 i hi;lia⟩
  .obtain⟨m,hm,rfl⟩:=cC.mp h;have:=c00 n m hm;refine⟨by simp;lia,λi hi=> ?_⟩
   rcases bU.mp hi with h|h
   .have:=this.2 i h;lia
   .have:=iH.mp h;lia
theorem cQ7: ∀n,∃L,pkN n=[]::L/\ ∀l∈L,l≠[]
 | 0=>⟨[],rfl,nofun⟩
 | n+1=>by
  obtain⟨L,e,h⟩:=cQ7 n;refine⟨L++([]::L).map λl=>l++[n],?_,λl hl=> ?_⟩
  .show pkN n++(pkN n).map _=_
   rw[e];rfl
  .rcases bU.mp hl with z|z
   .exact h l z
   .obtain⟨m,_,rfl⟩:=cC.mp z;simp
theorem dR0 (h:ρ[i]? =some (↑l)):aQ4 i te E ρ=te ρ λb ρ1=>oU ρ1 i λl=>l.length<sizeLine/\E.nx (ρ1.set i<|↑(l++[b.d])):=by
 unfold aQ4;rw[show ∀Q,oU ρ i Q=Q l from λQ=>by unfold oU;rw[h]]
theorem pl_0: ∀n,n<=4->(replicate n (0:Int)).map D.int++[D.int 1]=(rwF (n+1) λj=>if j=n then 1 else 0).map D.int
 | 0,_=>rfl
 | 1,_=>rfl
 | 2,_=>rfl
 | 3,_=>rfl
 | 4,_=>rfl
theorem cQ8 {l:List Nat}(h:i<l.length):(l.map λj:Nat=>D.int (j:Int)).getD i .non= .int ((l.getD i 0:Nat):Int):=by
 rw[aJ,aJ,bI,aM h];rfl
theorem rd_own: Ra cK1 cK2 ["p","x","m","t","k","i","o","c","w","s","a"]:=by
 rintro ds Q ⟨p,n,e,u,rfl,rp,hn,he,hu,h⟩;have lo:=rp.ok.lo;have hi:=rp.ok.hi;have n2:2<=n:=ad
 have n4:n<=4:=ad
 have pl:=cK3 n;have pl': ∀i,i<=n->(pkN i).length<=16:=λi hi=>by
  rw[cK3];exact aI (qO ac<|show i<=4 by lia) ac
 unfold cK2;show(aQ _ _:US) _ [~~~.tup (p.map .int),~~~.tup ((rwF n u).map .int),none,none,none,none,none,none,none,none,none];rw[aL];left;rw[aF,show(p.length:Int)-1=(n:Int)by lia]
 change bG2 _ [~~~aO p,~~~.tup ((rwF n u).map .int),!(n:Int),none,none,none,none,none,none,none,none]
 unfold bG2;rw[aL];left;refine⟨p,n,e,u,rfl,rp,hn,ad,hu,?_⟩
 obtain⟨T,eT⟩: ∃T,T=itT p n u:=⟨_,rfl⟩;have hT: ∀i j,i<n->(T i j).natAbs<=2^430:=λi j hi=>by
  rw[eT];exact aI (b09 (n:=n) rp.ok.small hu i j) (qO ac ad)
 rw[<-eT]at h⊢;try right
 unfold c97;rw[aL];left;refine⟨ac,ac,?_⟩
 unfold c96;rw[aL];refine bM n (λi=> .int (0+(i:Int))) _ (λQ' q=> ?_)
  (λi ρ=> ∃x,ρ=[~~~aO p,~~~.tup ((rwF n u).map .int),!(n:Int),↑(tbF n n T),↑((pkN i).map pC),x,none,none,none,none,none]) ⟨none,rfl⟩ ?_ ?_
 .left
  refine⟨⟨ad,ad⟩,?_⟩
  rw[dU];exact q
 .rintro i ρ hi' ⟨x,rfl⟩;rw[bS];refine⟨ae,?_⟩
  dsimp only[set_cons_zero,set_cons_succ];have pi:=pl' i ad
  rw[pJ,a51];rw[dO1 (l:=(pkN i).map pC) rfl];dsimp only[set_cons_zero,set_cons_succ];refine bE8 (t0:=0) ((pkN i).map pC).length (λk=>((pkN i).map pC).getD k .non) [~~~aO p,~~~.tup ((rwF n u).map .int),!(n:Int),↑(tbF n n T),~~~.lst ((pkN i).map pC),!(i:Int),none,none,none,none,none] (λQ' q=> ?_) (by rw[aF];lia)
   (λx l=>[x,!(i:Int),↑l]) none rfl (λ_ _ _=>rfl) (λ_ _=>cN _) (λ_ _ _ q=>q) (λ_ _ _=>rfl) (λk=>(((pkN i).getD k []++[i]).map λj:Nat=>D.int (j:Int))) ?_ ?_
  .left
   exact q
  .intro k l Q' hk q;rw[aF]at hk;have ek:((pkN i).map pC).getD k .non=pC ((pkN i).getD k []):=by
    rw[aJ,aJ,bI,aM hk];rfl
   have hm:=c00 i ((pkN i).getD k []) (by rw[aJ,aM hk];exact cQ hk)
   rw[ek]at q⊢;generalize (pkN i).getD k []=r at hm q;simp only[pC]at q⊢;left;rw[aF];refine⟨ac,aI (show r.length+1<=10 by lia) ac,?_⟩
   rw[bV]at q;exact q
  .have em:(List.range ((pkN i).map pC).length).map (λk=>D.lst (((pkN i).getD k []++[i]).map λj:Nat=>D.int (j:Int)))=((pkN i).map λl=>l++[i]).map pC:=by
    rw[aF];apply kM
    .simp
    .intro k h1 h2;simp at h1;simp[h1,aJ,pC]
   rw[em];left;rw[aF,aF,aF];refine⟨aI (show _<=100 by lia) ac,!(i:Int),?_⟩
   rw[<-bV];rfl
 rintro ρ ⟨x,rfl⟩;right;unfold c95;rw[aL];left;have ef:(replicate (n:Int).toNat [D.int 0]).flatten=(replicate n 0).map D.int:=by rw[dU];exact bB7 _ _
 rw[ef,aF,aK3,pl_0 n n4];refine⟨ac,⟨ad,ad,aI (show _<=10 by lia) ac⟩,ac,aI (show n+(0+1)<=10 by lia) ac,?_⟩
 obtain⟨L,eL,nL⟩:=cQ7 n;have mL: ∀l∈L,l.length<=n/\ ∀i∈l,i<n:=λl hl=>c00 n l (by rw[eL];exact bH _ hl)
 have ec:cutD ((pkN n).map pC) (some 1) none=L.map pC:=by
  have:=aA6 ((pkN n).map pC) 1 (by rw[eL];simp)
  rw[show((1:Nat):Int)=1 from rfl]at this
  rw[this,eL];rfl
 unfold c94;rw[aL];refine bM (L.map pC).length (λk=>(L.map pC).getD k .non) _ (λQ' q=> ?_)
  (λk ρ=> ∃x y z a b,ρ=[~~~aO p,~~~.tup ((rwF n u).map .int),!(n:Int),↑(tbF n n T),↑((pkN n).map pC),x,↑((rwF (n+1)<|plF T n<|L.take k).map .int),y,z,a,b]) ⟨x,none,none,none,none,rfl⟩ ?_ ?_
 .left
  rw[ec];exact q
 .rintro k ρ hk ⟨x,y,z,a,b,rfl⟩;rw[aF]at hk;have ek:(L.map pC).getD k .non=pC (L.getD k []):=by
   rw[aJ,aJ,bI,aM hk];rfl
  have el:L.getD k []=L[k]:=by rw[aJ,aM hk];rfl
  have tk:plF T n (L.take<|k+1)=plS T n (plF T n<|L.take k) (L.getD k []):=by
   unfold plF;rw[el,<-List.take_append_getElem hk,List.foldl_append];rfl
  have lm:=mL L[k] (cQ hk);have ln:=nL L[k] (cQ hk);rw[<-el]at lm ln;rw[ek,tk];generalize plF T n (L.take k)=f at *;generalize L.getD k []=l at *;have lt: ∀{i},i<l.length->l.getD i 0<n:=λ{i} h=>lm.2 _ (by rw[aJ,aM h];exact cQ h)
  refine⟨ae,?_⟩
  dsimp only[set_cons_zero,set_cons_succ];unfold bG1;rw[aL];left;refine⟨ac,?_⟩
  unfold bG0;rw[aL];refine bM l.length (λi=>(l.map λj:Nat=>D.int (j:Int)).getD i .non) _ (λQ' q=> ?_)
   (λi ρ=> ∃x,ρ=[~~~aO p,~~~.tup ((rwF n u).map .int),!(n:Int),↑(tbF n n T),↑((pkN n).map pC),x,↑((rwF (n+1) f).map .int),~~~pC l,some<|.ow<|(List.range i).map λr=>l8 ((List.range l.length).map λc=>T (l.getD r 0) (l.getD c 0)),a,b]) ⟨x,rfl⟩ ?_ ?_
  .simp only[pC]at q⊢;left;rw[aF];exact q
  .rintro i ρ hi' ⟨x,rfl⟩;rw[cQ8 hi'];refine⟨ae,?_⟩
   dsimp only[set_cons_zero,set_cons_succ];rw[dR0 rfl]
   refine eV (t0:=0) l.length (λc=>(l.map λj:Nat=>D.int (j:Int)).getD c .non) [~~~aO p,~~~.tup ((rwF n u).map .int),!(n:Int),↑(tbF n n T),↑((pkN n).map pC),!((l.getD i 0:Nat):Int),↑((rwF (n+1) f).map .int),~~~pC l,some<|.ow<|(List.range i).map λr=>l8 ((List.range l.length).map λc=>T (l.getD r 0) (l.getD c 0)),a,b] (λQ' q=> ?_) ad
    (λx r=>[x,some<|.bo<|tbF n n T,!((l.getD i 0:Nat):Int),↑r]) none rfl (λ_ _ _=>rfl) (λ_ _=>cN _) (λ_ _ _ q=>q) (λ_ _ _=>rfl) (λc=> .int (T (l.getD i 0)<|l.getD c 0)) ?_ ?_
   .simp only[pC]at q⊢;left;rw[aF];exact q
   .intro c r Q' hc q;rw[cQ8 hc]at q⊢;left;rw[tbF_at<|lt hi'];simp only[aO];rw[pM<|lt hc];exact q
   .left
    rw[aF,uO];refine⟨aZ (show i<10 by lia) ac,!((l.getD i 0:Nat):Int),?_⟩
    rw[bL,bV];simp only[l8,eZ];rfl
  .rintro ρ ⟨x,rfl⟩;right;have em:((List.range l.length).map λr=>l8 ((List.range l.length).map λc=>T (l.getD r 0) (l.getD c 0)))=(mnr T l).map l8:=by
    unfold mnr;rw[eZ];apply kM
    .simp
    .intro k h1 h2;simp at h1;simp[h1,aJ,l8];apply kM
     .simp
     .intro c h3 h4;simp at h3;simp[h3]
   rw[em];unfold bF9;rw[aL];simp only[pC];left;rw[aF,bY _ ac]
   refine⟨ac,cmL ac ac,?_⟩
   unfold bF8;rw[aL];left;rw[aF];unfold bF7;left;have l1:1<=l.length:=List.length_pos_iff.mpr ln;have l4:=lm.1;rw[show(n:Int)-(l.length:Int)=((n-l.length:Nat):Int)by lia,pM<|show n-l.length<n+1 by lia]
   right;refine⟨mnr T l,rfl,⟨by simp[mnr];lia,by simp[mnr];lia,λr hr=> ?_,λr hr v hv=> ?_⟩,?_⟩
   .obtain⟨i,_,rfl⟩:=cC.mp hr;simp[mnr]
   .obtain⟨i,hi,rfl⟩:=cC.mp hr;obtain⟨j,_,rfl⟩:=cC.mp hv;exact qV (hT i j<|lm.2 i hi) (aK9 ac ac)
   .right;refine⟨cmL ad ad,?_⟩
    rw[aF,mT,c78<|show n-l.length<n+1 by lia]
    right;rw[aS4<|show n-l.length<n+1 by lia]
    have es:plS T n f l=λj=>if j=n-l.length then f (n-l.length)+(1-2*((l.length:Int)%2))*d5 4 (mnr T l)else f j:=funext λj=>by
     unfold plS
     by_cases c:j=n-l.length
     .rw[a7 c,a7 c,c]
     .rw[a6 c,a6 c]
    rw[es];exact⟨x,_,_,_,_,rfl⟩
 .rintro ρ ⟨x,y,z,a,b,rfl⟩;right;unfold c93;left;rw[a04 ae]
  have:(rwF (n+1) λj=>chn n T (n-j))=rwF (n+1) (plF T n L):=hV λj hj=>by
   rw[<-pl_chn n2 n4 T j hj,eL];rfl
  rw[this]at h;exact h
def xF:Φ:=λds Q=> ∃(p:List Int) (n e:Nat) (u:∅) (m:Nat),ds=[aO p,aO<|rwF n u,.int (m:Int)]/\dO p/\p.length=n+1/\e<=400/\(∀j,(u j).natAbs<=2^e)/\1<=m/\m<200/\Q (.pu<|.bl<|decide (∀k,k<n+1->((m:Int)^k)∣chn n (itT p n u) k))
def aU1:US:=(d6<|uC<|.bl true)
def aU2:US:=(aQ (jI (vE<|a8 (uC<|.int 1)<|a8 (jE<|aS 0) aP) (cE 5)<|aQ (bN 4<|uOp bZ (aB 4)<|aB 2)<|fE (cO<|uOp (fH true) (uOp jC (uIx (aS 3)<|uOp M.gSub (uOp M.gSub (jE<|aS 0)<|uC<|.int 1)<|aB 5)<|aB 4)<|uC<|.int 0) (d6<|uC<|.bl false) cX) aU1)
def aU3:US:=(aQ (bN 4<|uC<|.int 1) aU2)
def aC8:US:=(aQ (bN 3<|aV cK1<|a8 (aB 0)<|a8 (aB 1) aP) aU3)
theorem c98: Ra xF aC8 ["p","x","m","o","f","k"]:=by
 rintro ds Q ⟨p,n,e,u,m,rfl,rp,hn,he,hu,m1,m2,h⟩;have lo:=rp.ok.lo;have hi:=rp.ok.hi;have n2:2<=n:=ad
 have n4:n<=4:=ad
 unfold aC8;show(aQ _ _:US) _ [~~~aO p,~~~.tup ((rwF n u).map .int),!(m:Int),none,none,none];rw[aL];left;refine⟨p,n,e,u,rfl,rp,hn,he,hu,?_⟩;generalize itT p n u=T at h⊢;try right
 unfold aU3;rw[aL];left;unfold aU2;rw[aL];refine bM n (λi=> .int (1+(i:Int))) _ (λQ' q=> ?_)
  (λi ρ=>(∀k,k<i+1->((m:Int)^k)∣chn n T k)/\ ∃x,ρ=[~~~aO p,~~~.tup ((rwF n u).map .int),!(m:Int),some<|.ow<|(rwF (n+1) λj=>chn n T (n-j)).map .int,!((m:Int)^i),x]) ⟨λk hk=> ?_,none,by rw[cR]⟩ ?_ ?_
 .simp only[aO];left;rw[aF];refine⟨⟨ac,ac,ad,ad⟩,?_⟩
  rw[show((p.length:Int)-1).toNat=n by lia]
  exact q
 .obtain rfl:k=0:=ad
  rw[cR];exact one_dvd _
 .rintro i ρ hi' ⟨dv,x,rfl⟩;simp only[aO];left;rw[aF,show(p.length:Int)-1-(1+(i:Int))=((n-(i+1):Nat):Int)by lia,pM<|show n-(i+1)<n+1 by lia]
  right;have po:0< (m:Int)^(i+1):=Int.pow_pos ad
  rw[show n-(n-(i+1))=i+1 by lia,<-gM,bY _ po]
  refine⟨ac,cmR ad ad,ad,?_⟩
  by_cases c:chn n T (i+1)%(m:Int)^(i+1)=0
  .rw[a6 λz=>z c]
   refine⟨λk hk=> ?_,_,rfl⟩
   by_cases e:k=i+1
   .rw[e];exact b7 c
   .exact dv k ad
  .rw[a7 c];rw[fX λz=>c (bP<|z (i+1) ad)]at h
   exact h
 .rintro ρ ⟨dv,x,rfl⟩;right;unfold aU1;left;rw[fL dv]at h;exact h
noncomputable def stF (p:List Int):∅:=λj=>((j:Int)+1)*fOf p (j+1)
theorem cW9 (n2:2<=n)(n4:n<=4)(r:Int):ps (stF p) r n=ps (syn (fOf p) r n) r n:=by
 have s: ∀j,j<n->syn (fOf p) r n j=fOf p (j+1)+r*syn (fOf p) r n (j+1):=λj h=>aT9 h
 have e:syn (fOf p) r n n=0:=bZ7 (aD n);generalize syn (fOf p) r n=g at *;rcases(show n=2\/n=3\/n=4 by lia)with rfl|rfl|rfl
 .have a:=s 0 ac
  have b:=s 1 ac
  show 0+(((0:Nat):Int)+1)*fOf p 1*r^0+(((1:Nat):Int)+1)*fOf p 2*r^1=0+g 0*r^0+g 1*r^1
  grind
 .have a:=s 0 ac
  have b:=s 1 ac
  have c:=s 2 ac
  show 0+(((0:Nat):Int)+1)*fOf p 1*r^0+(((1:Nat):Int)+1)*fOf p 2*r^1+(((2:Nat):Int)+1)*fOf p 3*r^2=0+g 0*r^0+g 1*r^1+g 2*r^2
  grind
 .have a:=s 0 ac
  have b:=s 1 ac
  have c:=s 2 ac
  have d:=s 3 ac
  show 0+(((0:Nat):Int)+1)*fOf p 1*r^0+(((1:Nat):Int)+1)*fOf p 2*r^1+(((2:Nat):Int)+1)*fOf p 3*r^2+(((3:Nat):Int)+1)*fOf p 4*r^3=0+g 0*r^0+g 1*r^1+g 2*r^2+g 3*r^3
  grind
noncomputable def prD (i:Nat):Bool:=((List.range i).map λk:Nat=>decide (0< (2+(i:Int))%(2+(k:Int)))).all id
theorem dD2 (hk:k<198):prD k=true↔2+(k:Int)∈prL:=by
 have h:(List.range 198).all (λk=>decide (prD k=prC k))=true:=af
 rw[show prD k=prC k from o9 (kL.mp h k<|dW.mpr hk)]
 refine⟨λc=>cC.mpr ⟨k,kN.mpr ⟨dW.mpr hk,c⟩,rfl⟩,λm=> ?_⟩
 obtain⟨j,hj,e⟩:=cC.mp m;rw[show k=j by lia]
 exact(kN.mp hj).2
theorem dU7 (h:q∈prL): ∃k:Nat,k<198/\q=2+(k:Int):=by
 obtain⟨j,hj,e⟩:=cC.mp h;exact⟨j,dW.mp (kN.mp hj).1,e.symm⟩
def bG3:Φ:=λds Q=> ∃(p:List Int) (n:Nat) (xf:Int->List ((Nat×∅)×Nat)),ds=[aO p,.int<|d5 4<|bT p]/\dO p/\p.length=n+1/\SPs n (fOf p) (d5 4<|bT p) xf/\((∀q∈prL,sqB (d5 4<|bT p) q=true->a55 n (fOf p) q (xf q))->Q (.pu<|.bl false))/\(¬(∀q∈prL,sqB (d5 4<|bT p) q=true->a55 n (fOf p) q (xf q))->Q (.pu<|.bl true))
def rT:US:=(fE (aQ3 (cO<|uOp (fH false) (uOp jC (aV sR<|a8 (aB 0)<|a8 (aB 4) aP)<|uOp bZ (aB 3)<|aB 3)<|uC<|.int 0)<|cO<|uOp (fH false) (uOp jC (aV sR<|a8 (aB 2)<|a8 (aB 4) aP)<|aB 3)<|uC<|.int 0) (d6<|uC<|.bl true) cX)
def aC9:US:=(fE (aQ3 (cO<|uOp (fH false) (jE<|aS 0)<|uC<|.int 5)<|cO<|aV tG<|a8 (aB 0)<|a8 (aB 3) aP) (d6<|uC<|.bl true) cX)
def w4:US:=(aQ (jI (jJ<|a8 (aB 3) aP) (cE 4) rT) aC9)
def a58:US:=(fE (aQ3 (cO<|uOp (fH false) (uOp jC (aB 1)<|uOp bZ (aB 3)<|aB 3)<|uC<|.int 0)<|cO<|aV c45<|a8 (fJ [3] [none,some 3,none] 2 (vE<|a8 (uC<|.int 2)<|a8 (aB 3) aP) (cE 0) (λρ Q=>Q true ρ)<|uOp (pH λi j=>decide (j<i)) (uOp jC (aB 1)<|aB 0)<|uC<|.int 0) aP) w4 cX)
def bG4:US:=(d6<|uC<|.bl false)
def bG5:US:=(aQ (jI (vE<|a8 (uC<|.int 2)<|a8 (uC<|.int 200) aP) (cE 3) a58) bG4)
def bG6:US:=(aQ (bN 2<|aV eM<|a8 (fJ [] [none,some 0,none] 2 (vE<|a8 (uC<|.int 1)<|a8 (jE<|aS 0) aP) (cE 0) (λρ Q=>Q true ρ)<|uOp bZ (aB 0)<|uIx (aS 1)<|aB 0) aP) bG5)
theorem st_at (rp:dO p)(hn:p.length=n+1){z:Int}(zb:z.natAbs<=499){Q:B->Prop}(h:Q (.pu<|.int<|ps (syn (fOf p) z n) z n)):sR [aO<|rwF n<|stF p,.int z] Q:=by
 have hlo:=rp.ok.lo;have hhi:=rp.ok.hi;have bd: ∀j,(fOf p j).natAbs<=499:=λj=>fA rp.ok.small j
 have zr: ∀j,4<j->fOf p j=0:=λj hj=>by
  unfold fOf;rw[aJ,kH ad]
  rfl
 rw[<-cW9 ad ad]at h
 refine⟨n,11,9,stF p,z,rfl,⟨λj=> ?_,aI zb ac,aa,ac,aa⟩,h⟩
 unfold stF
 by_cases c:j<=3
 .rw[dX];exact aI (jQ (show((j:Int)+1).natAbs<=4 by lia)<|bd<|j+1) ac
 .rw[zr _ ad,aX]
  decide
theorem dD3 (rp:dO p)(hn:p.length=n+1)(pq:Pr P)(sp:SP P (n,md P<|fOf p) xs)(ms:d5 4 (bT p)%(P*P)=0){m:D}{y:Option B}(ht: ¬a55 n (fOf p) P xs->E.rt (.pu<|.bl true))(hf:a55 n (fOf p) P xs-> ∀y,E.nx [~~~aO p,~~~m,~~~aO (rwF n (stF p)),!P,y]) :
  w4 E [~~~aO p,~~~m,~~~aO (rwF n (stF p)),!P,y]:=by
 have it:=cW7 rp hn pq sp ms;have lo:=pq.lo;have hi:=pq.hi;have qp:0<P:=ad
 have qq:0<P*P:=rH qp qp;unfold w4;rw[aL]
 refine bM P.toNat (λk=> .int (0+(k:Int))) _ (λQ' q=> ?_) (λi ρ=> ∃y,ρ=[~~~aO p,~~~m,~~~aO (rwF n (stF p)),!P,y]/\ ∀k:Nat,k<i-> ¬(P*P∣ps (fOf p) (k:Int) (n+1)/\P∣ps (syn (fOf p) (k:Int) n) (k:Int) n)) ⟨y,rfl,λk hk=>absurd hk (r6 k)⟩ ?_ ?_
 .left
  exact⟨⟨ad,ad⟩,q⟩
 .rintro i ρ hi2 ⟨y,rfl,hk⟩;refine⟨ae,?_⟩
  rw[bS];show rT _ [~~~aO p,~~~m,~~~aO (rwF n (stF p)),!P,!(i:Int)];have more: ¬(P*P∣ps (fOf p) (i:Int) (n+1)/\P∣ps (syn (fOf p) (i:Int) n) (i:Int) n)-> ∀k:Nat,k<i+1-> ¬(P*P∣ps (fOf p) (k:Int) (n+1)/\P∣ps (syn (fOf p) (k:Int) n) (k:Int) n):=λc k hk2=>by
   by_cases e:k=i
   .rw[e];exact c
   .exact hk k ad
  unfold rT;rw[iR];left;refine cK0 rp ad ?_
  rw[show ev p (i:Int)=ps (fOf p) (i:Int) (n+1)by unfold ev fOf;rw[hn]]
  left
  refine⟨cmL ad ad,ad,?_⟩
  rw[bY _ qq]
  by_cases c1:ps (fOf p) (i:Int) (n+1)%(P*P)=0
  .rw[a7 c1];refine st_at rp hn ad ?_
   left
   refine⟨ad,?_⟩
   rw[bY _ qp]
   by_cases c2:ps (syn (fOf p) (i:Int) n) (i:Int) n%P=0
   .rw[a7 c2];exact ht (it.mp<|.inl ⟨(i:Int),ad,ad,b7 c1,b7 c2⟩)
   .rw[a6 c2];exact⟨_,rfl,more λz=>c2 (bP z.2)⟩
  .rw[a6 c1];exact⟨_,rfl,more λz=>c1 (bP z.1)⟩
 .rintro ρ ⟨y,rfl,hk⟩;have none: ¬∃ r,0<=r/\r<P/\P*P∣ps (fOf p) r (n+1)/\P∣ps (syn (fOf p) r n) r n:=λ⟨r,r0,r1,r2⟩=>hk r.toNat ad (by rw[qT r0];exact r2)
  try right
  unfold aC9;rw[iR];left;show(if((p.map D.int).length:Int)=5 then _ else _);rw[aF]
  by_cases c:(p.length:Int)=5
  .rw[a7 c];refine⟨p,P,rfl,rp,ad,pq,λsq=> ?_,λsq=> ?_⟩
   .exact ht (it.mp<|.inr ⟨ad,sq⟩)
   .exact hf (gK λc2=>(it.mpr c2).elim none λh=>sq h.2) _
  .rw[a6 c];exact hf (gK λc2=>(it.mpr c2).elim none λh=>c ad) _
theorem dD4: Ra bG3 bG6 ["p","a","s","q","r"]:=by
 rintro ds Q ⟨p,n,xf,rfl,rp,hn,hs,hf,ht⟩;have hlo:=rp.ok.lo;have hhi:=rp.ok.hi;generalize em:d5 4 (bT p)=m at *;unfold bG6;show(aQ _ _:US) _ [~~~.tup (p.map .int),!m,none,none,none];rw[aL,pJ,gN,fU]
 refine eV (t0:=0) n (λk=> .int (1+(k:Int))) [~~~.tup (p.map .int),!m,none,none,none] (λQ' q=> ?_) ad (λx l=>[x,~~~.tup (p.map .int),↑l]) none rfl (λ_ _ _=>rfl) (λ_ _=>cN _) (λ_ _ _ q=>q) (λ_ _ _=>rfl) (λk=> .int (stF p k)) ?_ ?_
 .left
  rw[aF];refine⟨⟨ac,ac,ad,ad⟩,?_⟩
  rw[show((p.length:Int)-1).toNat=n by lia]
  exact q
 .intro k l Q' hk q;left;rw[show stF p k=((k+1:Nat):Int)*p.getD (k+1) 0 by unfold stF fOf;rw[Int.natCast_add];rfl]at q
  rw[show 1+(k:Int)=((k+1:Nat):Int)by lia]at q⊢
  rw[sL ad]
  right;refine⟨cmL ad ad,?_⟩
  exact q
 left
 rw[show(List.range n).map (λk=>D.int (stF p k))=(rwF n<|stF p).map .int by unfold rwF;rw[eZ];rfl]
 unfold bG5;rw[aL];refine bM 198 (λi=> .int (2+(i:Int))) _ (λQ' q=> ?_) (λi ρ=> ∃x y,ρ=[~~~aO p,!m,~~~aO (rwF n (stF p)),x,y]/\ ∀k:Nat,k<i->2+(k:Int)∈prL->sqB m (2+(k:Int))=true->a55 n (fOf p) (2+(k:Int)) (xf<|2+(k:Int))) ⟨none,none,rfl,λk hk=>absurd hk (r6 k)⟩ ?_ ?_
 .left
  exact⟨⟨ac,ac,ac,ac⟩,q⟩
 .rintro i ρ hi ⟨x,y,rfl,hk⟩;refine⟨ae,?_⟩
  show a58 _ [~~~aO p,!m,~~~aO (rwF n (stF p)),!(2+(i:Int)),y]
  have more:(2+(i:Int)∈prL->sqB m (2+(i:Int))=true->a55 n (fOf p) (2+(i:Int)) (xf<|2+(i:Int)))-> ∀k:Nat,k<i+1->2+(k:Int)∈prL->sqB m (2+(k:Int))=true->a55 n (fOf p) (2+(k:Int)) (xf<|2+(k:Int)):=λc k hk2=>by
   by_cases e:k=i
   .rw[e];exact c
   .exact hk k ad
  have qq:0< (2+(i:Int))*(2+(i:Int)):=rH ad ad
  unfold a58;rw[iR];left;refine⟨cmL ad ad,ad,?_⟩
  rw[bY _ qq]
  by_cases c:m%((2+(i:Int))*(2+(i:Int)))=0
  .rw[a7 c];refine eV (t0:=0) i (λk=> .int (2+(k:Int))) [~~~aO p,!m,~~~aO (rwF n (stF p)),!(2+(i:Int)),y] (λQ' q=> ?_) ad (λx l'=>[x,!(2+(i:Int)),↑l']) none rfl (λ_ _ _=>rfl) (λ_ _=>cN _) (λ_ _ _ q=>q) (λ_ _ _=>rfl) (λk:Nat=> .bl (decide (0< (2+(i:Int))%(2+(k:Int))))) ?_ ?_
   .left
    refine⟨⟨ac,ac,ad,ad⟩,?_⟩
    rw[show(2+(i:Int)-2).toNat=i by lia]
    exact q
   .intro k l' Q' hk q;left;refine⟨ad,?_⟩
    rw[bY _ ad]
    exact q
   .have e:(List.range i).map (λk:Nat=>D.bl (decide (0< (2+(i:Int))%(2+(k:Int)))))=((List.range i).map λk:Nat=>decide (0< (2+(i:Int))%(2+(k:Int)))).map D.bl:=by rw[eZ];rfl
    rw[e];right;rw[lZ];right;change (if prD i=true then _ else _)
    by_cases d:prD i=true
    .rw[a7 d];have mm:=(dD2 hi).mp d;refine dD3 rp hn (a53 mm) (hs _ mm<|fL c) (by rw[em];exact c) (λnf=> ?_) λfi y=> ?_
     .exact ht λal=>nf (al _ mm<|fL c)
     .exact⟨_,_,rfl,more λ_ _=>fi⟩
    .rw[a6 d];exact⟨_,_,rfl,more λz=>absurd ((dD2 hi).mpr z) d⟩
  .rw[a6 c];exact⟨_,_,rfl,more λ_ z=>absurd (o9 z) c⟩
 .rintro ρ ⟨x,y,rfl,hk⟩;try right
  unfold bG4;left;refine hf λq hq hd=> ?_
  obtain⟨k,k1,rfl⟩:=dU7 hq;exact hk k k1 hq hd
def bG7:Φ:=λds Q=> ∃c:Int,ds=[.int c]/\ ∀b s,yD b s->Q (.pu<|.tup [aO b,.int s])
def aU4:US:=(d6<|jD<|a8 (uIx (aS 2)<|uIx (aS 1)<|uC<|.int 1)<|a8 (uC<|.int 0) aP)
def aU5:US:=(aQ (bN 2<|uOp gI (aB 2)<|lY<|a8 (jD<|a8 (uC<|.int 38)<|a8 (uC<|.int 6)<|a8 (uC<|.int 0)<|a8 (uC<|.int 1) aP)<|a8 (jD<|a8 (uC<|.int 38)<|a8 (uC<|.int 7)<|a8 (uC<|.int 0)<|a8 (uC<|.int 1) aP) aP) aU4)
def aU6:US:=(aQ (bN 2<|uOp gI (aB 2)<|lY<|a8 (jD<|a8 (uC<|.int 5)<|a8 (uC<|.int 2)<|a8 (uC<|.int 3)<|a8 (uC<|.int 2)<|a8 (uC<|.int 1) aP)<|a8 (jD<|a8 (uC<|.int 1)<|a8 (uC<|.int 1)<|a8 (uC<|.int 1)<|a8 (uC<|.int 1)<|a8 (uC<|.int 1) aP)<|a8 (jD<|a8 (sJ<|uC<|.int 99)<|a8 (uC<|.int 199)<|a8 (uC<|.int 1) aP)<|a8 (jD<|a8 (sJ<|uC<|.int 100)<|a8 (uC<|.int 199)<|a8 (uC<|.int 1) aP) aP) aU5)
def a59:US:=(aQ (bN 2<|lY<|a8 (jD<|a8 (sJ<|uC<|.int 1)<|a8 (uC<|.int 199)<|a8 (uC<|.int 1) aP)<|a8 (jD<|a8 (sJ<|uC<|.int 1)<|a8 (sJ<|uC<|.int 14)<|a8 (sJ<|uC<|.int 11)<|a8 (uC<|.int 1) aP)<|a8 (jD<|a8 (uC<|.int 3)<|a8 (uC<|.int 0)<|a8 (uC<|.int 1) aP)<|a8 (jD<|a8 (sJ<|uC<|.int 8)<|a8 (sJ<|uC<|.int 2)<|a8 (sJ<|uC<|.int 1)<|a8 (uC<|.int 1) aP)<|a8 (jD<|a8 (sJ<|uC<|.int 19)<|a8 (uC<|.int 0)<|a8 (uC<|.int 0)<|a8 (uC<|.int 1) aP)<|a8 (jD<|a8 (uC<|.int 1)<|a8 (uC<|.int 0)<|a8 (sJ<|uC<|.int 1)<|a8 (uC<|.int 0)<|a8 (uC<|.int 1) aP) aP) aU6)
def aO2:US:=(d6<|jD<|a8 (aV eM<|a8 (uOp gI (fJ [] [none,none] 1 (i7<|aB 4) (cE 0) (λρ Q=>Q true ρ)<|uOp M.gSub (uOp jC (aB 0)<|uC<|.int 9)<|uC<|.int 4)<|lY<|a8 (uC<|.int 1) aP) aP)<|a8 (uOp M.gSub (uIx (aS 1)<|uC<|.int 2)<|uC<|.int 2) aP)
def bG8:US:=(aQ (fE (cO<|uOp (fH false) (uIx (aS 1)<|uC<|.int 0)<|uC<|.int 5) (d6<|jD<|a8 (aV eM<|a8 (uOp gI (fJ [] [none,none] 1 (i7<|uSl (aS 4) jA<|n8<|uC<|.int 3) (cE 0) (λρ Q=>Q true ρ)<|uOp M.gSub (uOp jC (aB 0)<|uC<|.int 19)<|uC<|.int 9)<|lY<|a8 (uC<|.int 1) aP) aP)<|a8 (uOp M.gSub (uIx (aS 1)<|uC<|.int 2)<|uC<|.int 2) aP) cX) aO2)
def bG9:US:=(aQ (fE (cO<|uOp (fH false) (uIx (aS 1)<|uC<|.int 0)<|uC<|.int 4) (d6<|jD<|a8 (jD<|a8 (uIx (aS 4)<|uC<|.int 0)<|a8 (uOp M.gSub (uOp jC (uIx (aS 4)<|uC<|.int 1)<|uC<|.int 121)<|uC<|.int 60)<|a8 (uC<|.int 1) aP)<|a8 (uC<|.int 0) aP) cX) bG8)
def aO3:US:=(aQ (fE (cO<|uOp (fH false) (uIx (aS 1)<|uC<|.int 3)<|uC<|.int 0) (d6<|jD<|a8 (aV eM<|a8 (uOp gI (uSl (aS 4) jA<|n8<|uOp M.gSub (uIx (aS 1)<|uC<|.int 0)<|uC<|.int 2)<|lY<|a8 (uC<|.int 1) aP) aP)<|a8 (uC<|.int 0) aP) cX) bG9)
def bH0:US:=(aQ (bN 4<|fJ [] [none,none] 1 (i7<|uSl (aS 3) (n8<|uC<|.int 4) jA) (cE 0) (λρ Q=>Q true ρ)<|uOp M.gSub (aB 0)<|uC<|.int 499) aO3)
def bH1:US:=(aQ (bN 3<|aV aR9<|a8 (aB 0)<|a8 (lY<|a8 (uC<|.int 7)<|a8 (uC<|.int 12)<|a8 (uC<|.int 5)<|a8 (uC<|.int 4)<|a8 (uC<|.int 999)<|a8 (uC<|.int 999)<|a8 (uC<|.int 999)<|a8 (uC<|.int 999) aP)<|a8 (uC<|.int 999999757) aP) bH0)
def bH2:US:=(aQ (fE (cO<|uOp (pH λi j=>decide (i<j)) (uIx (aS 1)<|uC<|.int 0)<|uC<|.int 4) a59 cX) bH1)
def bH3:US:=(aQ (bN 1<|aV aR9<|a8 (aB 0)<|a8 (lY<|a8 (uC<|.int 7)<|a8 (uC<|.int 12)<|a8 (uC<|.int 5)<|a8 (uC<|.int 4) aP)<|a8 (uC<|.int 999999757) aP) bH2)
def c99:List (List Int):=[[-1,199],[-1,-14,-11],[3,0],[-8,-2,-1],[-19,0,0],[1,0,-1,0],[5,2,3,2],[1,1,1,1],[-99,199],[-100,199],[38,6,0],[38,7,0]]
theorem nam_ok {k:Int}(h0:0<=k)(h1:k<12): ∃q:List Int,atI (c99.map λq=>aO (q++[1])) k=some (aO<|q++[1])/\yD (q++[1]) 0:=by
 have al: ∀q∈c99,2<=q.length/\q.length<=4/\ ∀x∈q,x.natAbs<=499:=af
 have hk:k.toNat<c99.length:=by show k.toNat<12;lia
 obtain⟨a,b,c⟩:=al c99[k.toNat] (cQ hk);refine⟨c99[k.toNat],?_,xE a b<|.inl ⟨rfl,c⟩⟩;have e:atI (c99.map λq=>aO (q++[1])) (k.toNat:Int)=some (aO<|c99[k.toNat]++[1]):=cY (by rw[bI,aM hk];rfl)
 rw[qT h0]at e;exact e
theorem dD5 {w0 w1 w2 w3:Int}{x3 x4:Option B}(h0:0<=w1)(h1:w1<12)(h: ∀b,yD b 0->E.rt (.pu<|.tup [aO b,.int 0])):a59 E [!c,↑[.int w0,.int w1,.int w2,.int w3],none,x3,x4]:=by
 have a1:atI [D.int w0,.int w1,.int w2,.int w3] 1=some (.int w1):=cY (j:=1) rfl;obtain⟨q,e,b⟩:=nam_ok h0 h1;have fin:=h _ b;generalize aO (q++[1])=r at *;clear h;unfold a59;rw[aL];left;refine⟨ac,ac,ac,ac,ac,ac,ac,?_⟩
 unfold aU6;rw[aL];left;refine⟨ac,ac,ac,ac,ac,ac,?_⟩
 unfold aU5;rw[aL];left;refine⟨ac,ac,ac,ac,?_⟩
 unfold aU4;left;rw[a1];right;simp only[c99,aO,fM,uY,a15,qZ]at e⊢;rw[e];exact⟨ac,fin⟩
theorem dD6: Ra bG7 bH3 ["c","d","n","f","p"]:=by
 rintro ds Q ⟨c,rfl,h⟩;unfold bH3;show(aQ _ _:US) _ [!c,none,none,none,none];rw[aL];left;refine⟨ac,c,[7,12,5,4],_,rfl,ac,ac,ac,λway hw=> ?_⟩
 obtain⟨w0,w1,w2,w3,rfl⟩: ∃w0 w1 w2 w3,way=[w0,w1,w2,w3]:=by
  match way,hw.1 with
  | [w0,w1,w2,w3],_=>exact⟨w0,w1,w2,w3,rfl⟩
 have b0:=hw.2 0 w0 7 rfl rfl;have b1:=hw.2 1 w1 12 rfl rfl;have b2:=hw.2 2 w2 5 rfl rfl;simp only[fM,uY];have a0:atI [D.int w0,.int w1,.int w2,.int w3] 0=some (.int w0):=cY (j:=0) rfl;have a2:atI [D.int w0,.int w1,.int w2,.int w3] 2=some (.int w2):=cY (j:=2) rfl;have a3:atI [D.int w0,.int w1,.int w2,.int w3] 3=some (.int w3):=cY (j:=3) rfl;have s2:(w2-2).natAbs<=2:=ad
 try right
 unfold bH2;rw[aL];left;rw[a0];right
 by_cases c3:w0<4
 .rw[a7 c3];exact dD5 b1.1 b1.2 λb hb=>h b 0 hb
 rw[a6 c3];unfold bH1;rw[aL];left;refine⟨ac,c,[7,12,5,4,999,999,999,999],_,rfl,ac,ac,ac,λfs hf=> ?_⟩
 obtain⟨f0,f1,f2,f7,f3,f4,f5,f6,rfl⟩: ∃f0 f1 f2 f7 f3 f4 f5 f6,fs=[f0,f1,f2,f7,f3,f4,f5,f6]:=by
  match fs,hf.1 with
  | [f0,f1,f2,f7,f3,f4,f5,f6],_=>exact⟨f0,f1,f2,f7,f3,f4,f5,f6,rfl⟩
 have g3:=hf.2 4 f3 999 rfl rfl;have g4:=hf.2 5 f4 999 rfl rfl;have g5:=hf.2 6 f5 999 rfl rfl;have g6:=hf.2 7 f6 999 rfl rfl;try right
 unfold bH0;rw[aL,pJ];have ecut:cutD ([f0,f1,f2,f7,f3,f4,f5,f6].map D.int) (some 4) none=[f3,f4,f5,f6].map D.int:=rfl
 refine eV (t0:=0) 4 (λk=>([f3,f4,f5,f6].map D.int).getD k .non) [!c,↑[D.int w0,.int w1,.int w2,.int w3],none,↑([f0,f1,f2,f7,f3,f4,f5,f6].map D.int),none] ?_ ad (λx l=>[x,↑l]) none rfl (λ_ _ _=>rfl) (λ_ _=>cN _) (λ_ _ _ q=>q) (λ_ _ _=>rfl) (λk=> .int ([f3,f4,f5,f6].getD k 0-499)) ?_ ?_
 .intro Q' q;left;rw[ecut];exact q
 .intro k l Q' hk' q;have e3:([f3,f4,f5,f6].map D.int).getD k .non= .int ([f3,f4,f5,f6].getD k 0):=by
   rw[aJ,bI,aM hk',aJ,aM hk'];rfl
  rw[e3]at q⊢;left;exact q
 rw[show((List.range 4).map λk=>D.int ([f3,f4,f5,f6].getD k 0-499))=[f3-499,f4-499,f5-499,f6-499].map D.int from rfl]
 have pb: ∀x∈[f3-499,f4-499,f5-499,f6-499],x.natAbs<=499:=by
  simp only[dS];exact⟨ad,ad,ad,ad,ae⟩
 have lp:[f3-499,f4-499,f5-499,f6-499].length=4:=rfl;generalize [f3-499,f4-499,f5-499,f6-499]=ps at pb lp;have take_ok: ∀n:Nat,n<=4->cutD (ps.map D.int) none (some (n:Int))=(ps.take n).map D.int:=λn hn=>by rw[aN4 _ _ (by rw[aF];lia),oC]
 show aO3 _ [!c,↑[D.int w0,.int w1,.int w2,.int w3],none,↑([f0,f1,f2,f7,f3,f4,f5,f6].map D.int),↑(ps.map .int)]
 unfold aO3;rw[aL];left;rw[a3];right
 by_cases c4:w3=0
 .rw[a7 c4,a0];right;obtain⟨n,en⟩: ∃n:Nat,w0-2=(n:Int):=⟨(w0-2).toNat,ad⟩
  have n4:2<=n/\n<=4:=ad
  rw[en,take_ok n n4.2];have lt:(ps.take n).length=n:=by rw[qX];lia
  refine⟨ac,?_,ac,?_⟩
  .rw[aF,lt];exact aI (show n+(0+1)<=10 by lia) ac
  .rw[show(ps.take n).map D.int++[D.int 1]=(ps.take n++[1]).map D.int by rw[bV];rfl]
   exact h _ _ (xE ad ad<|.inl ⟨rfl,λx hx=>pb x (List.mem_of_mem_take hx)⟩)
 rw[a6 c4];unfold bG9;rw[aL];left;rw[a0];right
 by_cases c5:w0=4
 .rw[a7 c5];rw[show atI (ps.map D.int) 0=some (.int<|ps.getD 0 0)from sL (k:=0) ad,show atI (ps.map D.int) 1=some (.int<|ps.getD 1 0)from sL (k:=1) ad]
  right;rw[bY _ ac]
  have p0:=fA pb 0;have:=h ([ps.getD 0 0,ps.getD 1 0%121-60]++[1]) 0 (xE (aD 2) (show 2<=4 by decide) (.inl ⟨rfl,λx hx=>by
   rcases bB.mp hx with rfl|hx
   .exact p0
   .rw[iH.mp hx];lia⟩))
  refine⟨ac,ac,ac,this⟩
 rw[a6 c5];unfold bG8;rw[aL,iR];show(cO<|uOp (fH false) (uIx (aS 1)<|uC<|.int 0)<|uC<|.int 5) _ _;rw[aS5,a51];simp only[uIx,aS,bO5,uC,gIx,sI,B.d,qH,aJ6,a0,fH,isB,lL,o7]
 by_cases c2:w0=5
 .rw[a7 c2,nT];show(a8 _ _) _ _;rw[fU];show(aV eM<|a8 (uOp gI _ _) aP) _ _;rw[gN,fU,a51];have lt:(ps.take 3).length=3:=by rw[qX];lia
  refine bS7 _ _ _ [!c,↑[D.int w0,.int w1,.int w2,.int w3],none,↑([f0,f1,f2,f7,f3,f4,f5,f6].map D.int),↑(ps.map .int)] (ps.take 3) 19 9 ac ac ad ?_ ?_
  .intro Q' q;left;rw[show(3:Int)=((3:Nat):Int)from rfl,take_ok 3 ac,aF]
   exact q
  .intro ls ll hls;left;refine⟨ac,?_,?_⟩
   .rw[aF];exact aI (show _<=10 by lia) ac
   .rw[a2];right;rw[show ls.map D.int++[D.int 1]=(ls++[1]).map D.int by rw[bV];rfl]
    exact⟨ac,h _ _<|xE ad ad<|.inr ⟨s2,λx hx=>by have:=hls x hx;lia⟩⟩
 rw[a6 c2];show aO2 _ [!c,↑[D.int w0,.int w1,.int w2,.int w3],none,↑([f0,f1,f2,f7,f3,f4,f5,f6].map D.int),↑(ps.map .int)];unfold aO2;rw[nT];show(a8 _ _) _ _;rw[fU];show(aV eM<|a8 (uOp gI _ _) aP) _ _;rw[gN,fU,a51]
 refine bS7 _ _ _ [!c,↑[D.int w0,.int w1,.int w2,.int w3],none,↑([f0,f1,f2,f7,f3,f4,f5,f6].map D.int),~~~.lst (ps.map .int)] ps 9 4 ac ac ad ?_ ?_
 .intro Q' q;left;rw[aF];exact q
 .intro ls ll hls;left;refine⟨ac,?_,?_⟩
  .rw[aF];exact aI (show _<=10 by lia) ac
  .rw[a2];right;rw[show ls.map D.int++[D.int 1]=(ls++[1]).map D.int by rw[bV];rfl]
   exact⟨ac,h _ _<|xE ad ad<|.inr ⟨s2,λx hx=>by have:=hls x hx;lia⟩⟩
def aO4:Φ:=λds Q=> ∃p:List Int,ds=[aO p]/\dO p/\(¬Red p->(d5 4<|bT p).natAbs<=39999->Wh (p.length-1) (fOf p) (d5 4<|bT p)-> ∀C,Q<|.pu<|.tup [.int 4,.tup [],bR2 C p])/\(Red p->Q (.pu<|.tup [.int 1,.tup [],.non]))/\(¬Red p->39999< (d5 4<|bT p).natAbs->Q (.pu<|.tup [.int 2,.tup [],.non]))/\(¬Red p->(d5 4<|bT p).natAbs<=39999->NWh (p.length-1) (fOf p) (d5 4<|bT p)-> ∀q g,bY4 (p.length-1) (fOf p) (d5 4<|bT p) q g->Q (.pu<|.tup [.int 3,.tup [.int q,aO<|bY7 (p.length-1) (fOf p) q g],.non]))
def pQ:US:=(d6<|jD<|a8 (aB 1)<|a8 (aB 2)<|a8 (aB 3) aP)
def aU7:US:=(aQ (d68 4 "FallsApart" "TooGreat" "NotWhole" (λa d es=> .xob a d ["prime","number"] es) (λEx=>aQ (bN 3<|cH5 ["poly","degree","measure"] aC1 (a8 (aB 0) aP) Ex) (bN 1<|uC<|.int 4)) (bN 1<|uC<|.int 1) (bN 1<|uC<|.int 2) λx=>(aQ (bN 1<|uC<|.int 3)<|bN 2<|jD<|a8 (cN4 x 4 "prime")<|a8 (cN4 x 4 "number") aP)) pQ)
def aU8:US:=(aQ (bN 3<|uC .non) aU7)
def aU9:US:=(aQ (bN 2<|jD aP) aU8)
def aO5:US:=(aQ (bN 1<|uC<|.int 0) aU9)
theorem cK4: Ra aO4 aO5 ["p","k","t","r","e"]:=by
 rintro ds Q ⟨p,rfl,rp,h4,h1,h2,h3⟩;unfold aO5;show(aQ _ _:US) _ [~~~aO p,none,none,none,none];rw[aL];left;unfold aU9;rw[aL];left;refine⟨ac,?_⟩
 unfold aU8;rw[aL];left;unfold aU7;rw[aL];left;refine⟨p,rfl,rp,λnr sm wh C=> ?_,λre l r _=> .inl ⟨rfl,?_⟩,λnr gr=> .inr (.inl ⟨rfl,?_⟩),λnr sm nw q g o=> .inr (.inr ⟨rfl,λa d=> ?_⟩)⟩
 .unfold pQ;left;exact⟨ac,h4 nr sm wh C⟩
 .unfold pQ;left;exact⟨ac,h1 re⟩
 .unfold pQ;left;exact⟨ac,h2 nr gr⟩
 .have l1: ∀x y:D,List.lookup (Str.ofString "prime") ([Str.ofString "prime",Str.ofString "number"].zip [x,y])=some x:=λ_ _=>rfl
  have l2: ∀x y:D,List.lookup (Str.ofString "number") ([Str.ofString "prime",Str.ofString "number"].zip [x,y])=some y:=λ_ _=>rfl
  rw[l1,l2];unfold pQ;left;exact⟨trivial,trivial,ac,ac,h3 nr sm nw q g o⟩
def bH4:Φ:=λds Q=> ∃(p:List Int) (n:Nat) (q size:Int) (g:Nat×∅),ds=[aO p,.tup [.int q,aO<|bY7 n (fOf p) q g]]/\dO p/\p.length=n+1/\bY4 n (fOf p) size q g/\Q (.pu<|.bl true)
def bH5:US:=(d6<|c39 (aV c45<|a8 (fJ [2] [none,some 2,none] 2 (i7<|aB 3) (cE 0) (λρ Q=>Q true ρ)<|cF9 (pH λi j=>decide (i<=j)) (pH λi j=>decide (i<j)) (uC<|.int 0) (aB 0)<|aB 1) aP)<|aV xF<|a8 (aB 0)<|a8 (aB 3)<|a8 (aB 2) aP)
def bH6:US:=(aQ (fE (uOr (aY3<|cO<|aV b10<|a8 (aB 3)<|a8 (uOp M.gSub (jE<|aS 0)<|uC<|.int 1) aP)<|aY3<|cO<|aV d52<|a8 (fJ [] [none,none] 1 (i7<|aB 3) (cE 0) (λρ Q=>Q true ρ)<|uOp (pH λi j=>decide (j<i)) (aB 0)<|uC<|.int 0) aP) (d6<|uC<|.bl false) cX) bH5)
def bH7:US:=(aQ (fE (uOr (aY3<|cO<|aV vL<|a8 (aB 2) aP)<|uOr (cO<|uOp (pH λi j=>decide (i<j)) (aB 2)<|uC<|.int 2)<|uOr (cO<|uOp (pH λi j=>decide (j<i)) (aB 2)<|uC<|.int 199)<|cO<|aV d52<|a8 (fJ [2] [none,some 2,none] 2 (vE<|a8 (uC<|.int 2)<|a8 (aB 2) aP) (cE 0) (λρ Q=>Q true ρ)<|uOp (fH false) (uOp jC (aB 1)<|aB 0)<|uC<|.int 0) aP) (d6<|uC<|.bl false) cX) bH6)
def bH8:US:=(aQ (bK7 (aB 1)<|sH<|eO 2<|eO 3 sG) bH7)
theorem dD7 (g1:1<=g.1):bY7 n f q g=rwF n λj=>divQ g.2 g.1 (n+1-g.1) f j%q:=by
 have hz:=xB (b:=g.2) (d:=g.1) (n+1-g.1) f;unfold bY7 bY5;generalize divQ g.2 g.1 (n+1-g.1) f=F at *;have cl:=wY F (n+1-g.1);have cz: ∀j,gQ F (n+1-g.1)<=j->F j=0:=a52 hz;generalize gQ F (n+1-g.1)=k at *;rw[mT,show((List.range k).map λi=>(rwF k F).getD i 0%q)=rwF k λj=>F j%q from nY λi hi=>by
  rw[aJ,wX<|dW.mp hi];rfl,mT,show((n:Int)-(k:Int)).toNat=n-k by lia]
 exact dO8 ad λj hj _=>by rw[cz j hj,cB]
theorem dD8: Ra bH4 bH8 ["p","t","q","x"]:=by
 rintro ds Q ⟨p,n,q,size,g,rfl,rp,hn,o,h⟩;have pq:=a53 o.pr;have lo:=pq.lo;have hi:=pq.hi;have n2:=rp.ok.lo;have n4:=rp.ok.hi;have wh:=cW5 rp hn o;have top:=dQ6 rp hn o;obtain⟨k0,k1,ek⟩:=dU7 o.pr;have pd:=(dD2 k1).mpr (ek▸o.pr);rw[dD7 o.g1];have rg: ∀j,0<=divQ g.2 g.1 (n+1-g.1) (fOf p) j%q/\divQ g.2 g.1 (n+1-g.1) (fOf p) j%q<q:=λj=>⟨cH _ ad,cG _ ad⟩
 have one:divQ g.2 g.1 (n+1-g.1) (fOf p) (n-g.1)%q=1:=by
  rw[top.2];exact dE ac ad
 have ub: ∀j,(divQ g.2 g.1 (n+1-g.1) (fOf p) j%q).natAbs<=2^8:=λj=>by
  have:=rg j
  lia
 obtain⟨u,eu⟩: ∃u:∅,u=λj=>divQ g.2 g.1 (n+1-g.1) (fOf p) j%q:=⟨_,rfl⟩
 rw[<-eu]at wh⊢
 replace rg: ∀j,0<=u j/\u j<q:=eu▸rg
 replace ub: ∀j,(u j).natAbs<=2^8:=eu▸ub
 replace one:u (n-g.1)=1:=by rw[eu];exact one
 clear eu;have g1:=o.g1;unfold bH8;show(aQ _ _:US) _ [~~~aO p,~~~.tup [.int q,aO<|rwF n u],none,none];rw[aL];left;refine⟨ac,ac,trivial,?_⟩
 unfold bH7;rw[aL];left;refine⟨q,rfl,?_⟩;right;rw[a6 ac,a6 ad,a6 ad]
 refine eV (t0:=0) k0 (λk=> .int (2+(k:Int))) [~~~aO p,~~~.tup [.int q,aO<|rwF n u],!q,~~~aO (rwF n u)] (λQ' q'=> ?_) ad (λx l'=>[x,!q,↑l']) none rfl (λ_ _ _=>rfl) (λ_ _=>cN _) (λ_ _ _ q=>q) (λ_ _ _=>rfl) (λk:Nat=> .bl (decide (q%(2+(k:Int))=0))) ?_ ?_
 .left
  refine⟨⟨ac,ac,ad,ad⟩,?_⟩
  rw[show(q-2).toNat=k0 by lia]
  exact q'
 .intro k l' Q' hk q';left;refine⟨ad,?_⟩
  rw[bY _ ad]
  exact q'
 rw[show(List.range k0).map (λk:Nat=>D.bl (decide (q%(2+(k:Int))=0)))=((List.range k0).map λk:Nat=>decide (q%(2+(k:Int))=0)).map D.bl by rw[eZ];rfl]
 right;rw[lZ];right;rw[a6 λan=>by
  obtain⟨c,hc,ct⟩:=a16.mp an;obtain⟨k,hk,rfl⟩:=cC.mp hc;have:=kL.mp pd _ (cC.mpr ⟨k,hk,rfl⟩);have h1:0< (2+(k0:Int))%(2+(k:Int)):=o9 this;rw[<-ek]at h1;have h2:q%(2+(k:Int))=0:=o9 ct;rw[h2]at h1;exact Int.lt_irrefl 0 h1]
 have e3: ∀k,k<n->((rwF n u).map D.int).getD k .non= .int (u k):=λk hk=>aA7 hk
 unfold bH6;rw[aL];left;show b10 [aO<|rwF n u,.int<|((p.map D.int).length:Int)-1] _;rw[aF,hn,show((n+1:Nat):Int)-1=((rwF n u).length:Int)by rw[mT];lia]
 refine⟨rwF n u,rfl,by rw[mT];lia,?_⟩
 right;rw[a6 ac]
 refine eV (t0:=0) n (λk=>((rwF n u).map D.int).getD k .non) [~~~aO p,~~~.tup [.int q,aO<|rwF n u],!q,~~~aO (rwF n u)] (λQ' q'=> ?_) ad (λx l'=>[x,↑l']) none rfl (λ_ _ _=>rfl) (λ_ _=>cN _) (λ_ _ _ q=>q) (λ_ _ _=>rfl) (λk:Nat=> .bl (decide (0<u k))) ?_ ?_
 .simp only[aO]at q'⊢;left;rw[fB];exact q'
 .intro k l' Q' hk q';rw[e3 k hk]at q'⊢;left;exact q'
 rw[show(List.range n).map (λk:Nat=>D.bl (decide (0<u k)))=((List.range n).map λk:Nat=>decide (0<u k)).map D.bl by rw[eZ];rfl]
 right;rw[lZ];right;rw[show((List.range n).map λk:Nat=>decide (0<u k)).any id=true from a16.mpr ⟨_,cC.mpr ⟨n-g.1,dW.mpr ad,rfl⟩,by rw[one];rfl⟩,a6 ac]
 unfold bH5;left;refine eV (t0:=0) n (λk=>((rwF n u).map D.int).getD k .non) [~~~aO p,~~~.tup [.int q,aO<|rwF n u],!q,~~~aO (rwF n u)] (λQ' q'=> ?_) ad (λx l'=>[x,!q,↑l']) none rfl (λ_ _ _=>rfl) (λ_ _=>cN _) (λ_ _ _ q=>q) (λ_ _ _=>rfl) (λk:Nat=> .bl (decide (u k<q))) ?_ ?_
 .simp only[aO]at q'⊢;left;rw[fB];exact q'
 .intro k l' Q' hk q';rw[e3 k hk]at q'⊢;left;rw[a7 (rg k).1];exact q'
 rw[show(List.range n).map (λk:Nat=>D.bl (decide (u k<q)))=((List.range n).map λk:Nat=>decide (u k<q)).map D.bl by rw[eZ];rfl]
 right;rw[lZ];right;rw[a7 (kL.mpr λx hx=>by
  obtain⟨k,_,rfl⟩:=cC.mp hx;exact fL (rg k).2)]
 show xF [aO p,aO<|rwF n u,.int q] λb=>Q b
 have qm:q=(q.toNat:Int):=ad
 generalize q.toNat=m at qm;subst qm;refine⟨p,n,8,u,m,rfl,rp,hn,ac,ub,ad,ad,?_⟩
 rw[fL λk hk=>wh k ad]
 exact h
def u7:US:=(fE (cO<|uOp (pH λi j=>decide (j<i)) (aV c42<|a8 (aB 5) aP)<|uC<|.int 39999) (bN 9<|uC<|.int 2)<|bN 9<|uOp M.gSub (uC<|.int 4)<|aV b96<|a8 (aV bG3<|a8 (aB 4)<|a8 (aB 5) aP) aP)
def aV0:US:=(fE (uOr (cO<|uOp (fH true) (aZ2 "degree"<|aB 8)<|uOp M.gSub (jE<|aS 4)<|uC<|.int 1)<|uOr (aY3<|cO<|aV vL<|a8 (aZ2 "measure"<|aB 8) aP)<|cO<|uOp (fH true) (aZ2 "measure"<|aB 8)<|aB 5) (d6<|uC<|.bl false) cX)
def aV1:US:=(aQ (fE (uOr (aY3<|cO<|aV b10<|a8 (aZ2 "poly"<|aB 8)<|a8 (jE<|aS 4) aP)<|uOr (cO<|uOp (cT9 true) (aZ2 "poly"<|aB 8)<|aB 4)<|aY3<|cO<|aV vL<|a8 (aZ2 "degree"<|aB 8) aP) (d6<|uC<|.bl false) cX) aV0)
def a60:US:=(fE (cO<|uOp (fH false) (aB 6)<|uC<|.int 4) aV1 cX)
def a61:US:=(aQ (fE (aQ3 (cO<|uOp (fH false) (aB 6)<|uC<|.int 3)<|aY3<|cO<|aV bH4<|a8 (aB 4)<|a8 (aB 7) aP) (d6<|uC<|.bl false) cX) a60)
def oN:US:=(aQ (fE (cO<|uOp (fH true) (aB 6)<|aB 9) (d6<|uC<|.bl false) cX) a61)
def w6:US:=(aQ (fE (cO<|aV bE9<|a8 (aB 2) aP) (bN 9<|uC<|.int 1) u7) oN)
def bH9:US:=(aQ (bK7 (aV aO4<|a8 (aB 4) aP)<|sH<|eO 6<|eO 7<|eO 8 sG) w6)
def bI0:US:=(aQ (bN 5<|aV b15<|a8 (aB 4) aP) bH9)
def bI1:US:=(aQ (bN 4<|aV aN9<|a8 (aB 2)<|a8 (aB 3) aP) bI0)
def aO6:US:=(aQ (bK7 (aV bG7<|a8 (aV bX1<|a8 (aB 0)<|a8 (aB 1) aP) aP)<|sH<|eO 2<|eO 3 sG) bI1)
def cA0:US:=(d6<|uC<|.bl true)
def c01:US:=(aQ (jI (jJ<|a8 (uC<|.int 2) aP) (cE 1) aO6) cA0)
theorem dR1 {r:List Int}{Q:B->Prop}(h:Q (.pu<|.bl false)):cT9 true (aO r) (aO r) Q:=c63 (by rw[lM,fL rfl];exact h)
section
variable {E:UD}{S x1 x2 x3 x9:Option B}{p b:List Int}{t r:D}
theorem bS8 {k:Int}(h3:k≠3)(h4:k≠4)(h:E.nx [S,x1,x2,x3,~~~aO p,!d5 4 (bT p),!k,~~~t,~~~r,!k]) :
  oN E [S,x1,x2,x3,~~~aO p,!d5 4 (bT p),!k,~~~t,~~~r,!k]:=by
 unfold oN;rw[aL];left;rw[a6 λz=>z trivial]
 unfold a61;rw[aL];left;rw[a6 h3];unfold a60;left;rw[a6 h4];exact h
theorem dD9 (rp:dO p)(hn:p.length=n+1)(o:bY4 n (fOf p) (d5 4<|bT p) q g)(h:E.nx [S,x1,x2,x3,~~~aO p,!d5 4 (bT p),!3,~~~.tup [.int q,aO<|bY7 n (fOf p) q g],~~~r,!3]) :
  oN E [S,x1,x2,x3,~~~aO p,!d5 4 (bT p),!3,~~~.tup [.int q,aO<|bY7 n (fOf p) q g],~~~r,!3]:=by
 unfold oN;rw[aL];left;rw[a6 λz=>z trivial]
 unfold a61;rw[aL];left;refine⟨p,n,q,_,g,rfl,rp,hn,o,?_⟩;right;rw[a6 ac]
 unfold a60;left;rw[a6 ac]
 exact h
theorem dE0 (rp:dO p)(h:E.nx [S,x1,x2,x3,~~~aO p,!d5 4 (bT p),!4,~~~t,~~~bR2 C p,!4]) :
  oN E [S,x1,x2,x3,~~~aO p,!d5 4 (bT p),!4,~~~t,~~~bR2 C p,!4]:=by
 have hi:=rp.ok.hi;unfold oN;rw[aL];left;rw[a6 λz=>z trivial]
 unfold a61;rw[aL];left;rw[a6 ac]
 unfold a60;rw[iR];left;unfold aV1;rw[aL,iR];unfold uOr aY3;rw[aS5,gN,fU,bR3 (C:=C) (p:=p) rfl];left;show b10 [aO p,.int ((p.map D.int).length:Int)] _;rw[aF];refine⟨p,rfl,ad,?_⟩
 right;rw[a6 ac,bR3 (C:=C) (p:=p) rfl]
 left
 refine dR1 ?_
 right;rw[a6 ac,b38 (C:=C) (p:=p) rfl]
 refine⟨(p.length:Int)-1,rfl,?_⟩
 right;rw[a6 ac]
 unfold aV0;rw[iR];unfold uOr aY3;rw[aS5,a51,b38 (C:=C) (p:=p) rfl];left;show(if ¬(p.length:Int)-1=((p.map D.int).length:Int)-1 then _ else _);rw[aF,a6 λz=>z rfl,aT5 (C:=C) (p:=p) rfl]
 refine⟨d5 4<|bT p,rfl,?_⟩
 right;rw[a6 ac,aT5 (C:=C) (p:=p) rfl]
 left
 rw[a6 λz=>z trivial]
 exact h
end
theorem rd_law: Ra bO8 c01 ["s","k","b","t","p","a","i","o","r","d"]:=by
 rintro ds Q ⟨ns,rfl,hl,hQ⟩;unfold c01;show(aQ _ _:US) _ [~~~.rol (ns.map .int),none,none,none,none,none,none,none,none,none];rw[aL];refine bM 2 (λk=> .int (0+k)) [~~~.rol (ns.map .int),none,none,none,none,none,none,none,none,none] ?_
  (λi ρ=> ∃x1 x2 x3 x4 x5 x6 x7 x8 x9,ρ=[~~~.rol (ns.map .int),x1,x2,x3,x4,x5,x6,x7,x8,x9]) ⟨_,_,_,_,_,_,_,_,_,rfl⟩ ?_ ?_
 .intro Q' q;left;exact⟨⟨ac,ac⟩,q⟩
 .rintro i ρ hi ⟨x1,x2,x3,x4,x5,x6,x7,x8,x9,rfl⟩;refine⟨ae,?_⟩
  show aO6 _ [~~~.rol (ns.map .int),!(0+(i:Int)),x2,x3,x4,x5,x6,x7,x8,x9]
  unfold aO6;rw[aL];left;refine⟨ns,0+(i:Int),rfl,hl,ad,ad,λcc=>⟨cc,rfl,λb s ok=> ?_⟩⟩
  have rb:=ok.ring;have sk:=sh_ok ok;have lo:=ok.lo;have hi5:=ok.hi;have s3:s.natAbs<=3:=by
   rcases ok.bd with⟨e,_⟩| ⟨e,_⟩<;>lia
  left
  refine⟨ae,ae,trivial,?_⟩
  unfold bI1;rw[aL];left;refine⟨b,s,rfl,lo,hi5,s3,?_⟩;generalize shK b s (b.length-1)=p at sk;obtain⟨rp,rr⟩:=sk;obtain⟨n,hn⟩: ∃n,p.length=n+1:=⟨p.length-1,by have:=rp.ok.lo;lia⟩
  unfold bI0;try right
  rw[aL];left;refine⟨p,rfl,rp,?_⟩;rw[<-cV3 rp];unfold bH9;try right
  rw[aL];left;have ab:(if d5 4 (bT p)<0 then -d5 4 (bT p)else d5 4 (bT p))=((d5 4<|bT p).natAbs:Int):=by split<;>lia
  refine⟨p,rfl,rp,λnr sm wh C=> ?_,λre=> ?_,λnr gr=> ?_,λnr sm nw q g o=> ?_⟩
  .left
   refine⟨ae,ae,ae,trivial,?_⟩
   unfold w6;rw[aL,iR];left;refine⟨b,rfl,rb,λz=>absurd (rr.mp z) nr,λ_=> ?_⟩
   simp only[isB,uN,dL];unfold u7;left;rw[ab,a6 ad]
   obtain⟨xf,hs,hw⟩:=wh;rw[hn,gW]at hs hw;refine⟨p,n,xf,rfl,rp,hn,hs,λ_=> ?_,λz=>absurd hw z⟩
   left
   exact dE0 rp ⟨_,_,_,_,_,_,_,_,_,rfl⟩
  .left
   refine⟨ae,ae,ae,trivial,?_⟩
   unfold w6;rw[aL,iR];left;refine⟨b,rfl,rb,λ_=> ?_,λz=>absurd (rr.mpr re) z⟩
   simp only[isB,dM];exact bS8 ac ac ⟨_,_,_,_,_,_,_,_,_,rfl⟩
  .left
   refine⟨ae,ae,ae,trivial,?_⟩
   unfold w6;rw[aL,iR];left;refine⟨b,rfl,rb,λz=>absurd (rr.mp z) nr,λ_=> ?_⟩
   simp only[isB,uN,dL];unfold u7;left;rw[ab,a7 ad]
   exact bS8 ac ac ⟨_,_,_,_,_,_,_,_,_,rfl⟩
  .left
   refine⟨ae,ae,ae,trivial,?_⟩
   unfold w6;rw[aL,iR];left;refine⟨b,rfl,rb,λz=>absurd (rr.mp z) nr,λ_=> ?_⟩
   simp only[isB,uN,dL];unfold u7;left;rw[ab,a6 ad]
   obtain⟨xf,hs,hw⟩:=nw;rw[hn,gW]at hs hw o⊢;refine⟨p,n,xf,rfl,rp,hn,hs,λz=>absurd z hw,λ_=> ?_⟩
   left
   exact dD9 rp hn o ⟨_,_,_,_,_,_,_,_,_,rfl⟩
 .rintro ρ ⟨x1,x2,x3,x4,x5,x6,x7,x8,x9,rfl⟩;try right
  unfold cA0;left;exact hQ
abbrev qB:=t9
abbrev qC:=tD
theorem a90: Ra qB qC ["f","p","u","s","total","v","w"]:=b55
theorem cX0:bootBuiltins "sorted"=some (.builtin "sorted"):=af
end M
end
namespace M
set_option maxHeartbeats 4000000
def top (i:Nat):Stmt:=PySem.Challenge.pw_ringhouse_k16_whole_verdicts.main.body.getD i (.Pass ⟨0,0,0,0⟩)
abbrev bmV:List Value:=[.type "ValueError",.type "Exception",.type "BaseException",.type "object"]
abbrev vN:String:="ValueError.__new__"
def nk:NameKind->Bool
 | .local=>true
 | .cell=>true
 | _=>false
def nm (s:Stmt):List Str:=((aG s).names.filter λx=>nk x.2).map (·.1)
def pm (s:Stmt):List Str:=(nm s).take (jX s).args.length
abbrev iW:Stmt:=top 9
abbrev rV:List Str:=nm iW
abbrev xG:List Str:=pm iW
abbrev j5:Stmt:=top 10
abbrev w8:List Str:=nm j5
abbrev tV:List Str:=pm j5
abbrev aV2:Stmt:=top 12
abbrev cQ9:List Str:=nm aV2
abbrev cA1:List Str:=pm aV2
abbrev wA:Stmt:=top 13
abbrev bI2:List Str:=nm wA
abbrev b42:List Str:=pm wA
abbrev kW:Stmt:=top 14
abbrev a81:List Str:=nm kW
abbrev zR:List Str:=pm kW
abbrev sS:Stmt:=top 15
abbrev b43:List Str:=nm sS
abbrev aV3:List Str:=pm sS
abbrev aD0:Stmt:=top 18
abbrev cA2:List Str:=nm aD0
abbrev bS9:List Str:=pm aD0
abbrev k8:Stmt:=top 19
abbrev zS:List Str:=nm k8
abbrev xH:List Str:=pm k8
abbrev zT:Stmt:=top 21
abbrev bT0:List Str:=nm zT
abbrev bI3:List Str:=pm zT
abbrev pR:Stmt:=top 22
abbrev aV4:List Str:=nm pR
abbrev aH7:List Str:=pm pR
abbrev jN:Stmt:=top 23
abbrev xI:List Str:=nm jN
abbrev wB:List Str:=pm jN
abbrev iB:Stmt:=top 24
abbrev sT:List Str:=nm iB
abbrev qD:List Str:=pm iB
abbrev pS:Stmt:=top 26
abbrev aV5:List Str:=nm pS
abbrev aH8:List Str:=pm pS
abbrev aF7:Stmt:=top 28
abbrev cR0:List Str:=nm aF7
abbrev kA:List Str:=pm aF7
abbrev oX:Stmt:=top 29
abbrev aD1:List Str:=nm oX
abbrev aV6:List Str:=pm oX
abbrev oY:Stmt:=top 31
abbrev aD2:List Str:=nm oY
abbrev aV7:List Str:=pm oY
abbrev kY:Stmt:=top 32
abbrev yF:List Str:=nm kY
abbrev aD3:List Str:=pm kY
abbrev mW:Stmt:=top 34
abbrev a62:List Str:=nm mW
abbrev aH9:List Str:=pm mW
abbrev mI:Stmt:=top 35
abbrev aD4:List Str:=nm mI
abbrev a82:List Str:=pm mI
abbrev rW:Stmt:=top 36
abbrev aO7:List Str:=nm rW
abbrev b44:List Str:=pm rW
abbrev mJ:Stmt:=top 37
abbrev aD5:List Str:=nm mJ
abbrev a83:List Str:=pm mJ
abbrev pT:Stmt:=top 39
abbrev aV8:List Str:=nm pT
abbrev aI0:List Str:=pm pT
abbrev nO:Stmt:=top 40
abbrev aI1:List Str:=nm nO
abbrev aD6:List Str:=pm nO
abbrev i4:Stmt:=top 41
abbrev oO:List Str:=nm i4
abbrev tW:List Str:=pm i4
abbrev iC:Stmt:=top 42
abbrev sU:List Str:=nm iC
abbrev qE:List Str:=pm iC
abbrev kZ:Stmt:=top 45
abbrev yG:List Str:=nm kZ
abbrev aD7:List Str:=pm kZ
abbrev mY:Stmt:=top 46
abbrev a63:List Str:=nm mY
abbrev aI2:List Str:=pm mY
abbrev kB:Stmt:=top 47
abbrev wC:List Str:=nm kB
abbrev a84:List Str:=pm kB
abbrev gO:Stmt:=top 51
abbrev xJ:List Str:=nm gO
abbrev wD:List Str:=pm gO
abbrev iD:Stmt:=top 52
abbrev wE:List Str:=nm iD
abbrev a85:List Str:=pm iD
abbrev bI4:Stmt:=top 54
abbrev dE1:List Str:=nm bI4
abbrev cR1:List Str:=pm bI4
abbrev aV9:Stmt:=top 55
abbrev cR2:List Str:=nm aV9
abbrev cA3:List Str:=pm aV9
abbrev aW0:Stmt:=top 56
abbrev cR3:List Str:=nm aW0
abbrev cA4:List Str:=pm aW0
abbrev zU:Stmt:=top 57
abbrev bT1:List Str:=nm zU
abbrev bI5:List Str:=pm zU
abbrev aW1:Stmt:=top 58
abbrev cR4:List Str:=nm aW1
abbrev cA5:List Str:=pm aW1
abbrev aW2:Stmt:=top 59
abbrev cR5:List Str:=nm aW2
abbrev cA6:List Str:=pm aW2
abbrev bT2:Stmt:=top 60
abbrev dE2:List Str:=nm bT2
abbrev dE3:List Str:=pm bT2
abbrev aW3:Stmt:=top 61
abbrev cR6:List Str:=nm aW3
abbrev cA7:List Str:=pm aW3
abbrev b81:Stmt:=top 62
abbrev c02:List Str:=["_law_poly","_law_x","_law_many","_law_turn","_law_rows","_law_row_here","_law_k"]
abbrev cA8:List Str:=["_law_poly","_law_x"]
abbrev aO8:Stmt:=top 63
abbrev cK5:List Str:=nm aO8
abbrev mZ:List Str:=pm aO8
abbrev aF8:Stmt:=top 64
abbrev c03:List Str:=nm aF8
abbrev cA9:List Str:=pm aF8
abbrev aD8:Stmt:=top 65
abbrev cB0:List Str:=nm aD8
abbrev bT3:List Str:=pm aD8
abbrev kC:Stmt:=top 66
abbrev wF:List Str:=nm kC
abbrev a86:List Str:=pm kC
abbrev a64:Stmt:=top 67
abbrev b82:List Str:=nm a64
abbrev cB1:List Str:=pm a64
abbrev cB2:Stmt:=top 68
abbrev cR7:List Str:=["_law_poly","_law_x","_law_many","_law_table_here","_law_picks","_law_i","_law_places","_law_pick","_law_minor","_law_sign","_law_at"]
abbrev dE4:List Str:=["_law_poly","_law_x"]
abbrev wG:Stmt:=top 69
abbrev bI6:List Str:=nm wG
abbrev b45:List Str:=pm wG
abbrev xK:Stmt:=top 70
abbrev aW4:List Str:=nm xK
abbrev cB3:List Str:=pm xK
abbrev zV:Stmt:=top 71
abbrev bT4:List Str:=nm zV
abbrev bI7:List Str:=pm zV
abbrev xL:Stmt:=top 72
abbrev aW5:List Str:=nm xL
abbrev cB4:List Str:=pm xL
abbrev aW6:Stmt:=top 73
abbrev dU8:List Str:=nm aW6
abbrev PP_law:List Str:=pm aW6
local macro_rules| `(tactic| walk_at "s")=> `(tactic| exact⟨rfl,rfl,rfl,by decide +kernel,rfl,by decide +kernel,by decide +kernel⟩)
theorem aW7:aY rV xG (aG iW):=by walk_at "s"
theorem aG4:aY w8 tV (aG j5):=by walk_at "s"
theorem bI8:aY cQ9 cA1 (aG aV2):=by walk_at "s"
theorem cB5:aY bI2 b42 (aG wA):=by walk_at "s"
theorem fF:aY a81 zR (aG kW):=by walk_at "s"
theorem u8:aY b43 aV3 (aG sS):=by walk_at "s"
theorem zW:aY cA2 bS9 (aG aD0):=by walk_at "s"
theorem aW8:aY zS xH (aG k8):=by walk_at "s"
theorem aO9:aY bT0 bI3 (aG zT):=by walk_at "s"
theorem yH:aY aV4 aH7 (aG pR):=by walk_at "s"
theorem oP:aY xI wB (aG jN):=by walk_at "s"
theorem gU:aY sT qD (aG iB):=by walk_at "s"
theorem yI:aY aV5 aH8 (aG pS):=by walk_at "s"
theorem pU:aY cR0 kA (aG aF7):=by walk_at "s"
theorem c04:aY aD1 aV6 (aG oX):=by walk_at "s"
theorem a65:aY aD2 aV7 (aG oY):=by walk_at "s"
theorem kD:aY yF aD3 (aG kY):=by walk_at "s"
theorem bL9:aY a62 aH9 (aG mW):=by walk_at "s"
theorem kX:aY aD4 a82 (aG mI):=by walk_at "s"
theorem cB6:aY aO7 b44 (aG rW):=by walk_at "s"
theorem nU:aY aD5 a83 (aG mJ):=by walk_at "s"
theorem yJ:aY aV8 aI0 (aG pT):=by walk_at "s"
theorem j6:aY aI1 aD6 (aG nO):=by walk_at "s"
theorem tX:aY oO tW (aG i4):=by walk_at "s"
theorem fS:aY sU qE (aG iC):=by walk_at "s"
theorem bI9:aY yG aD7 (aG kZ):=by walk_at "s"
theorem bM0:aY a63 aI2 (aG mY):=by walk_at "s"
theorem jF:aY wC a84 (aG kB):=by walk_at "s"
theorem wH:aY xJ wD (aG gO):=by walk_at "s"
theorem nV:aY wE a85 (aG iD):=by walk_at "s"
theorem dR2:aY dE1 cR1 (aG bI4):=by walk_at "s"
theorem bJ0:aY cR2 cA3 (aG aV9):=by walk_at "s"
theorem zX:aY cR3 cA4 (aG aW0):=by walk_at "s"
theorem a66:aY bT1 bI5 (aG zU):=by walk_at "s"
theorem aW9:aY cR4 cA5 (aG aW1):=by walk_at "s"
theorem dE5:aY cR5 cA6 (aG aW2):=by walk_at "s"
theorem sc_row:aY dE2 dE3 (aG bT2):=by walk_at "s"
theorem sV:aY cR6 cA7 (aG aW3):=by walk_at "s"
theorem wI:aY c02 cA8 (aG b81):=by walk_at "s"
theorem xM:aY cK5 mZ (aG aO8):=by walk_at "s"
theorem pV:aY c03 cA9 (aG aF8):=by walk_at "s"
theorem iX:aY cB0 bT3 (aG aD8):=by walk_at "s"
theorem gR:aY wF a86 (aG kC):=by walk_at "s"
theorem aX0:aY b82 cB1 (aG a64):=by walk_at "s"
theorem tI:aY cR7 dE4 (aG cB2):=by walk_at "s"
theorem sW:aY bI6 b45 (aG wG):=by walk_at "s"
theorem wJ:aY aW4 cB3 (aG xK):=by walk_at "s"
theorem j7:aY bT4 bI7 (aG zV):=by walk_at "s"
theorem bJ1:aY aW5 cB4 (aG xL):=by walk_at "s"
theorem tJ:aY dU8 PP_law (aG aW6):=by walk_at "s"
abbrev pW:Stmt:=(bX0<|top 3).getD 0 (.Pass ⟨0,0,0,0⟩)
theorem bM1:aY ["self","left","right"] ["self","left","right"] (aG pW):=by walk_at "s"
abbrev wK:Stmt:=(bX0<|top 5).getD 0 (.Pass ⟨0,0,0,0⟩)
theorem cB7:aY ["self","prime","number"] ["self","prime","number"] (aG wK):=by walk_at "s"
abbrev aD9:Stmt:=(bX0<|top 50).getD 0 (.Pass ⟨0,0,0,0⟩)
theorem cR8:aY ["self","poly","size"] ["self","poly"] (aG aD9):=by walk_at "s"
structure Zs (mg:Str->Option Value):Prop where
 z0:mg "len"=none
 z1:mg "all"=none
 z2:mg "abs"=none
 z3:mg "max"=none
 z4:mg "list"=none
 z5:mg "reversed"=none
 z6:mg "range"=none
 z7:mg "enumerate"=none
 z8:mg "tuple"=none
 z9:mg "sum"=none
 z10:mg "min"=none
 z11:mg "sorted"=none
 z12:mg "isinstance"=none
 z13:mg "int"=none
 z14:mg "bool"=none
 z15:mg "any"=none
abbrev DT (P:Program)(w:World)(K:PySem.W.Frag)(mg:Str->Option Value)(base:Heap)(N:List Str)(q:Str)(t:Stmt)(k:Nat)(u:US):Prop:= ∀{f:Addr} {cdv:Value} {A:Around} {outer:List Env} {s:Shared} {H:Hp} {E:XK},jB k (A.deeper<|envOfC q (aG t) s.heap.objs.size f cdv)->pG (vB CX0 P w K mg base N q (aG t) f cdv A outer s H E).nox (eX t) u
section
variable (P:Program)(w:World)(K:PySem.W.Frag)(mg:Str->Option Value)(base:Heap)
abbrev aX1:=Fn P w K mg base "is_ring_poly" xG 1 pK
abbrev nM:=Fn P w K mg base "need_ring_poly" tV 2 iQ
abbrev cB8:=Fn P w K mg base "cut" cA1 1 aA8
abbrev cB9:=Fn P w K mg base "padded" b42 1 aB8
abbrev n5:=Fn P w K mg base "poly_parted" zR 2 hZ
abbrev aX2:=Fn P w K mg base "poly_at" aV3 1 pO
abbrev cX1:=Fn P w K mg base "root" bS9 1 b05
abbrev xN:=Fn P w K mg base "small_primes" xH 1 lB
abbrev cK6:=Fn P w K mg base "apart" bI3 4 aN7
abbrev aI3:=Fn P w K mg base "dividers" aH7 1 sC
abbrev aP0:=Fn P w K mg base "line_and_rest" wB 3 oJ
abbrev a91:=Fn P w K mg base "two_by_two_apart" qD 3 l6
abbrev bM2:=Fn P w K mg base "two_with" aH8 2 yB
abbrev dE6:=Fn P w K mg base "det" kA 5 (iA 4)
abbrev c05:=Fn P w K mg base "without" aV6 1 a46
abbrev c06:=Fn P w K mg base "measure" aV7 6 a49
abbrev bJ2:=Fn P w K mg base "root_sums" aD3 1 vO
abbrev yK:=Fn P w K mg base "mod_poly" aH9 2 jT
abbrev b59:=Fn P w K mg base "mod_parted" a82 4 t7
abbrev cC0:=Fn P w K mg base "scaled" b44 3 xC
abbrev b60:=Fn P w K mg base "inverse_of" a83 1 sY
abbrev bM3:=Fn P w K mg base "split_by" aI0 6 y3
abbrev bJ3:=Fn P w K mg base "lines_out" aD6 5 vT
abbrev aG5:=Fn P w K mg base "rootless_parts" tW 2 nI
abbrev a92:=Fn P w K mg base "two_by_two_split" qE 1 qB
abbrev bJ4:=Fn P w K mg base "papers_of" aD7 8 vV
abbrev bM4:=Fn P w K mg base "parts_at" aI2 7 y8
abbrev b61:=Fn P w K mg base "outside_of" a84 3 tE
abbrev dR3:=Fn P w K mg base "_law_cell" cR1 1 bX1
abbrev dE7:=Fn P w K mg base "_law_mixed" cA3 1 aR8
abbrev dE8:=Fn P w K mg base "_law_draws" cA4 2 aR9
abbrev cK7:=Fn P w K mg base "_law_shifted" bI5 1 aN9
abbrev cC1:=Fn P w K mg base "_law_value" cA5 1 sR
abbrev bJ5:=Fn P w K mg base "_law_whole" cA6 1 vL
abbrev dE9:=Fn P w K mg base "_law_row" dE3 2 b10
abbrev dF0:=Fn P w K mg base "_law_times" cA7 1 bD9
abbrev dF1:=Fn P w K mg base "_law_table" cA8 2 bE3
abbrev dR4:=Fn P w K mg base "_law_det" mZ 5 (jZ 4)
abbrev dF2:=Fn P w K mg base "_law_falls" cA9 2 bE9
abbrev cX2:=Fn P w K mg base "_law_closed" bT3 1 b15
abbrev b62:=Fn P w K mg base "_law_square_lacks" a86 1 tG
abbrev dF3:=Fn P w K mg base "_law_lacks" cB1 2 bG3
abbrev TF_own:=Fn P w K mg base "_law_own" dE4 6 cK1
abbrev cC2:=Fn P w K mg base "_law_whole_by" b45 7 xF
abbrev dF4:=Fn P w K mg base "_law_drawn" cB3 3 bG7
abbrev cK8:=Fn P w K mg base "_law_outcome" bI7 12 aO4
abbrev dF5:=Fn P w K mg base "_law_shown" cB4 8 bH4
end
section
variable {P:Program}{w:World}{K:PySem.W.Frag}{mg:Str->Option Value}{base:Heap}
theorem aP1 (Z:Zs mg){rX:Tok}(i5:mg "GREATEST_PLACE"=some (.int 499 rX)):DT P w K mg base rV "is_ring_poly" iW 0 pL:=λhr=>
 (iU (PUW.pt<|pF (fN b30 (dQ (bX 0) rfl Z.z0) aC)<|pF (fN aQ6 (dQ (bX 0) rfl Z.z0) aC)<|tZ<|fN yY (eK (bX 0)<|oH aC) aC) (eW lW)<|eW<|fG (b97 rfl) rfl Z.z1 b98 (aH (nB ["c",".acc"] (aG iW).names rV (i8<|aK 0) (λ_ _ _ _ _ _=>fW) λ_ _ _ _ _ _=>(bW1 d27 (fG aY5 rfl Z.z2 aZ5 (aT 0 aA))<|cM7 rfl i5)) aA))
theorem aE0 (Z:Zs mg)(rY:aX1 P w K mg base):DT P w K mg base w8 "need_ring_poly" j5 1 nG:=λhr=>
 (b4<|a42 (u3<|vC<|gH rY hr<|aT 0 aA)<|b4 c40)
theorem cX3 (Z:Zs mg):DT P w K mg base cQ9 "cut" aV2 0 bC3:=λhr=>
 (bO 1 bI8.nd (dQ (bX 0) rfl Z.z0)<|bD (b92 kP (PUW.pt<|nQ (fN aQ6 (aK 1) aC)<|kT<|fN fP (eK (bX 0)<|aE b5 (aK 1) aC) aC)<|b4<|us_g 1 bI8.nd aC iu_sub)<|eW<|cT8 (aK 0) jK<|iO<|aK 1)
theorem c07 (Z:Zs mg):DT P w K mg base bI2 "padded" wA 0 aB9:=λhr=>
 (eW<|aE cL (aK 0)<|aE dL9 (eN<|cF aA)<|aE b5 (aK 1)<|dQ (bX 0) rfl Z.z0)
theorem aX3 (Z:Zs mg)(a69:cB8 P w K mg base):DT P w K mg base a81 "poly_parted" kW 1 rM:=λhr=>
 (bO 2 fF.nd (aE b5 (dQ (bX 1) rfl Z.z0) aC)<|bO 3 fF.nd (fG (cu_max rfl) rfl Z.z3 d76 (cF<|aH (aE b5 (dQ (bX 0) rfl Z.z0)<|aK 2) aA))<|bO 4 fF.nd (eG bV4 rfl Z.z4 bX3 (aT 0 aA))<|bO 5 fF.nd (aE aU (gB<|cF aA)<|aK 3)<|bD (pB 6 fF.nd (dL4 rfl Z.z5 rfl Z.z6 (aT 3 aA))<|bO 7 fF.nd (eK (bX 4)<|aE cL (aK 6)<|aK 2)<|bD (vF 5 (pv 5) (aK 7)<|aK 6)<|b4<|aY4 kP rfl (dL3 (by rfl) Z.z7<|aT 1 aA) (sX rfl (d4 8 (cU fF.nd rfl (Or.inl rfl))<|d4 9 (cU fF.nd rfl (Or.inl rfl)) nS) (cM<|cM kU)) (b4<|dL2 4 (pv 4) (aE cL (aK 6)<|aK 8) (aE aU (aK 7)<|aK 9) cZ9))<|eW<|eN<|aH (gH a69 hr<|aH (eG iP rfl Z.z8 i9 (aT 5 aA)) aA)<|aH (gH a69 hr<|aH (eG iP rfl Z.z8 i9 (aT 4 aA)) aA) aA)
theorem bM5 (Z:Zs mg):DT P w K mg base b43 "poly_at" sS 0 a54:=λhr=>
 (bO 2 u8.nd aC<|bD (pB 3 u8.nd (cM9 rfl Z.z5 (aT 0 aA))<|b4<|a87 2 u8.nd<|aE cL (aE aU (aK 2)<|aK 1)<|aK 3)<|b4<|nR 2<|pv 2)
theorem cK9 (Z:Zs mg):DT P w K mg base cA2 "root" aD0 0 b06:=λhr=>
 (bO 1 zW.nd (aK 0)<|bO 2 zW.nd (aE vG (aE cL (aK 0) aC) aC)<|bD (b92 kP (fN b30 (aK 2)<|aK 1)<|bO 1 zW.nd (aK 2)<|b4<|a87 2 zW.nd<|aE vG (aE cL (aK 1)<|aE vG (aK 0)<|aK 1) aC)<|b4<|nR 1<|pv 1)
theorem aP2 (Z:Zs mg){kE:Addr}(j8:mg "SMALL_PRIMES"=some (.ref kE))(wL:KT K kE (T_SMALL_PRIMES.map V.int)):DT P w K mg base zS "small_primes" k8 0 pN:=λhr=>
 (eW<|eG bV4 rfl Z.z4 bX3 (aH (dM0 rfl j8 wL) aA))
theorem cC3 (Z:Zs mg)(dZ:nM P w K mg base)(pX:aP0 P w K mg base)(mM:a91 P w K mg base):DT P w K mg base bT0 "apart" zT 3 aN8:=λhr=>
 (bD (bV8<|gH dZ hr<|aT 0 aA)<|bO 1 aO9.nd (gH pX hr<|aT 0 aA)<|iU (PUW.pt<|nQ (dM2<|aK 1)<|kT<|fN fP (dQ (bX 0) rfl Z.z0) aC) (b4<|a87 1 aO9.nd<|gH mM hr<|aT 0 aA)<|b4<|nR 1<|pv 1)
theorem bJ6 (Z:Zs mg):DT P w K mg base aV4 "dividers" pR 0 yA:=λhr=>
 (iU (fN fP (aK 0) aC) (eW<|gB<|cF aA)<|bO 1 yH.nd (gB aA)<|bD (pB 2 yH.nd (k7 rfl Z.z6 (cF<|aH (aE cL (fG aY5 rfl Z.z2 aZ5 (aT 0 aA)) aC) aA))<|b4<|a42 (fN fP (aE dP (aK 0)<|aK 2) aC)<|bD (oV 1 (pv 1)<|aK 2)<|b4<|oV 1 (pv 1)<|oH<|aK 2)<|b4<|nR 1<|pv 1)
theorem aG6 (Z:Zs mg)(n6:aI3 P w K mg base)(oZ:aX2 P w K mg base)(d8:n5 P w K mg base):DT P w K mg base xI "line_and_rest" jN 2 oK:=λhr=>
 (bD (pB 1 oP.nd (i8<|gH n6 hr<|aH (eK (bX 0) aC) aA)<|b4<|a42 (fN fP (gH oZ hr<|aT 0<|aT 1 aA) aC)<|bO 2 oP.nd (eN<|aH1 (oH<|aK 1)<|cF aA)<|eW<|eN<|aT 2<|aH (eK (aQ1<|gH d8 hr<|aT 0<|aT 2 aA) aC) aA)<|eW bU8)
theorem a67 (Z:Zs mg)(n6:aI3 P w K mg base)(a70:bM2 P w K mg base):DT P w K mg base sT "two_by_two" iB 2 l7:=λhr=>
 (bD (pB 1 gU.nd (i8<|gH n6 hr<|aH (eK (bX 0) aC) aA)<|bO 2 gU.nd (aE vG (eK (bX 0) aC)<|aK 1)<|b4<|pB 3 gU.nd (i8<|gH a70 hr<|aH (eK (bX 0) aC)<|aH (aE b5 (aE b5 (eK (bX 0) aC)<|aK 1)<|aK 2) aA)<|bO 4 gU.nd (aE b5 (eK (bX 0) aC)<|aK 3)<|b4<|a42 (fN fP (aE cL (aE aU (aK 3)<|aK 2)<|aE aU (aK 1)<|aK 4)<|eK (bX 0) aC)<|eW<|eN<|tT (eN<|aT 1<|aT 3<|cF aA)<|tT (eN<|aT 2<|aT 4<|cF aA) aA)<|eW bU8)
theorem bJ7 (Z:Zs mg)(bK1:cX1 P w K mg base):DT P w K mg base aV5 "two_with" pS 1 yC:=λhr=>
 (bO 2 yI.nd (aE b5 (aE aU (aK 0)<|aK 0)<|aE aU aC<|aK 1)<|iU (fN b30 (aK 2) aC) (eW<|gB aA)<|bO 3 yI.nd (gH bK1 hr<|aT 2 aA)<|iU (fN yY (aE aU (aK 3)<|aK 3)<|aK 2) (eW<|gB aA)<|eW<|gB<|aH (aE vG (aE cL (aK 0)<|aK 3) aC)<|aH (aE vG (aE b5 (aK 0)<|aK 3) aC) aA)
theorem aF9 (Z:Zs mg){k:Nat}{iA:Φ}(hk:1<=k)(aX6:Fn P w K mg base "det" kA k iA)(pA:c05 P w K mg base):DT P w K mg base cR0 "det" aF7 k (bB9 iA):=λhr=>
 (bD (bO6 (aQ2 fP (dQ (nF 0<|pv 0) rfl Z.z0) aC<|b88 _) (b4<|cE9<|a96 (aQ1<|a96 (nF 0<|pv 0) aC λ_ _=>rfl) aC λ_ _=>rfl) bV1)<|bD (xU 1 pU.nd rfl (Or.inl rfl) aC (hl:=il (n:=4) rfl ac))<|bD (xU 2 pU.nd rfl (Or.inl rfl) aC (hl:=il (n:=4) rfl ac))<|bD (aY4 kP rfl (fQ rfl Z.z6 (aH (dQ (nF 0<|pv 0) rfl Z.z0) aA)) (a38 3<|cU pU.nd rfl (Or.inl rfl)) (bD (d22 1 pU.nd rfl (Or.inl rfl) (aE aU (aE aU (fT 2<|pv 2)<|a96 (aQ1<|a96 (nF 0<|pv 0) (fT 3<|pv 3) λ_ _=>rfl) aC λ_ _=>rfl)<|aG7 aX6 hr (aD _) rfl (aH (aG7 pA hr hk rfl (aH (fT 0<|pv 0)<|aH (fT 3<|pv 3) aA)) aA)) cF1 (hl:=il (n:=4) rfl ac))<|b4<|xU 2 pU.nd rfl (Or.inl rfl) (oH<|fT 2<|pv 2) (hl:=il (n:=4) rfl ac)))<|b4<|nR 1<|pv 1)
theorem bM6 (Z:Zs mg):DT P w K mg base aD1 "without" oX 0 a47:=λhr=>
 (eW<|eG iP rfl Z.z8 i9 (aH (nB ["row",".acc"] (aG oX).names aD1 (i8<|aE cL (jL (bX 0) jK<|iO<|aK 1)<|jL (bX 0) (iO<|aE cL (aK 1) aC) jK) (λ_ _ _ _ _ _=>fW) λ_ _ _ _ _ _=>(jL (bX 0) (iO aC) jK)) aA))
theorem bM7 (Z:Zs mg)(dZ:nM P w K mg base)(yL:bJ2 P w K mg base)(aX6:dE6 P w K mg base):DT P w K mg base aD2 "measure" oY 5 a50:=λhr=>
 (bD (bV8<|gH dZ hr<|aT 0 aA)<|bO 1 a65.nd (aE b5 (dQ (bX 0) rfl Z.z0) aC)<|bO 2 a65.nd (gH yL hr<|aT 0<|aH (aE b5 (aE aU aC<|aK 1) aC) aA)<|eW<|gH aX6 hr<|aH (eG iP rfl Z.z8 i9 (aH (nB ["i","sums","n",".acc"] (aG oY).names aD2 (fQ rfl Z.z6 (aT 1 aA)) (λ_ _ _ _ _ _=>fW) λ_ _ _ _ _ _=>(eG iP rfl Z.z8 i9 (aH (jL (bX 1) (iO<|aK 0)<|iO<|aE cL (aK 0)<|aK 2) aA))) aA)) aA)
theorem b63 (Z:Zs mg):DT P w K mg base yF "root_sums" kY 0 vP:=λhr=>
 (bO 2 kD.nd (aE b5 (dQ (bX 0) rfl Z.z0) aC)<|bO 3 kD.nd (gB<|aT 2 aA)<|bD (pB 4 kD.nd (k7 rfl Z.z6 (cF<|aT 1 aA))<|bO 5 kD.nd (fG (cu_sum rfl) rfl Z.z9 bt_sum (aH (nB ["i","poly","n","sums","k",".acc"] (aG kY).names yF (k7 rfl Z.z6 (cF<|aH (aE cL (fG (cu_min rfl) rfl Z.z10 bt_min (aH (aE b5 (aK 4) aC)<|aT 2 aA)) aC) aA)) (λ_ _ _ _ _ _=>fW) λ_ _ _ _ _ _=>(aE aU (eK (bX 1)<|aE b5 (aK 2)<|aK 0)<|eK (bX 3)<|aE b5 (aK 4)<|aK 0)) aA))<|iU (fN d27 (aK 4)<|aK 2) (b4<|us_g 5 kD.nd (aE aU (aK 4)<|eK (bX 0)<|aE b5 (aK 2)<|aK 4) cF1)<|b4<|oV 3 (pv 3)<|oH<|aK 5)<|b4<|nR 3<|pv 3)
theorem bJ8 (Z:Zs mg)(a69:cB8 P w K mg base):DT P w K mg base a62 "mod_poly" mW 1 xZ:=λhr=>
 (eW<|gH a69 hr<|aH (eG iP rfl Z.z8 i9 (aH (nB ["c","p",".acc"] (aG mW).names a62 (i8<|aK 0) (λ_ _ _ _ _ _=>fW) λ_ _ _ _ _ _=>(aE dP (aK 0)<|aK 1)) aA)) aA)
theorem b17 (Z:Zs mg)(gP:yK P w K mg base)(wM:b60 P w K mg base)(d8:n5 P w K mg base)(a71:cC0 P w K mg base):DT P w K mg base aD4 "mod_parted" mI 3 t8:=λhr=>
 (bO 3 kX.nd (gH gP hr<|aT 1<|aT 2 aA)<|bO 4 kX.nd (gH wM hr<|aH (eK (bX 3)<|oH aC)<|aT 2 aA)<|bD (a95 (gH d8 hr<|aH (gH gP hr<|aT 0<|aT 2 aA)<|aH (gH a71 hr<|aT 3<|aT 4<|aT 2 aA) aA)<|sX rfl (d4 5 (cU kX.nd rfl (Or.inl rfl))<|d4 6 (cU kX.nd rfl (Or.inl rfl)) nS) (cM<|cM kU))<|eW<|eN<|aH (gH a71 hr<|aT 5<|aT 4<|aT 2 aA)<|aH (gH gP hr<|aT 6<|aT 2 aA) aA)
theorem c08 (Z:Zs mg)(gP:yK P w K mg base):DT P w K mg base aO7 "scaled" rW 2 aA9:=λhr=>
 (eW<|gH gP hr<|aH (eG iP rfl Z.z8 i9 (aH (nB ["c","k",".acc"] (aG rW).names aO7 (i8<|aK 0) (λ_ _ _ _ _ _=>fW) λ_ _ _ _ _ _=>(aE aU (aK 1)<|aK 0)) aA))<|aT 2 aA)
theorem b18 (Z:Zs mg):DT P w K mg base aD5 "inverse_of" mJ 0 sZ:=λhr=>
 (bO 2 nU.nd aC<|bD (pB 3 nU.nd (fQ rfl Z.z6 (aH (aE b5 (aK 1) aC) aA))<|b4<|a87 2 nU.nd<|aE dP (aE aU (aK 2)<|aK 0)<|aK 1)<|b4<|nR 2<|pv 2)
theorem bJ9 (Z:Zs mg)(iY:xN P w K mg base)(yM:bJ3 P w K mg base)(gP:yK P w K mg base)(oQ:aG5 P w K mg base):DT P w K mg base aV8 "split_by" pT 5 y6:=λhr=>
 (iU (aQ2 d35 (aK 1) (d32 iY hr ac rfl) rfl) (b4 c40)<|bD (a95 (gH yM hr<|aH (gH gP hr<|aT 0<|aT 1 aA)<|aT 1 aA)<|sX rfl (d4 2 (cU yJ.nd rfl (Or.inl rfl))<|d4 3 (cU yJ.nd rfl (Or.inl rfl)) nS) (cM<|cM kU))<|eW<|aE cL (aK 2)<|gH oQ hr<|aT 3<|aT 1 aA)
theorem b64 (Z:Zs mg)(oZ:aX2 P w K mg base)(wN:b59 P w K mg base):DT P w K mg base aI1 "lines_out" nO 4 vU:=λhr=>
 (bO 2 j6.nd (gB aA)<|bO 3 j6.nd (aK 0)<|bD (pB 4 j6.nd (fQ rfl Z.z6 (aT 1 aA))<|bO 5 j6.nd aC<|bD (b92 kP (fN fP (aE dP (gH oZ hr<|aT 3<|aH1 (oH<|aK 4) aA)<|aK 1) aC)<|bO 3 j6.nd (eK (aQ1<|gH wN hr<|aT 3<|tT (eN<|aT 4<|cF aA)<|aT 1 aA) aC)<|b4<|us_g 5 j6.nd aC cF1)<|b4<|a42 (fN aQ6 (aK 5) aC)<|b4<|oV 2 (pv 2)<|eN<|tT (eN<|aT 4<|cF aA)<|aT 5 aA)<|eW<|eN<|aT 2<|aT 3 aA)
theorem aE1 (Z:Zs mg)(mO:a92 P w K mg base):DT P w K mg base oO "rootless_parts" i4 1 nJ:=λhr=>
 (iU (fN fP (dQ (bX 0) rfl Z.z0) aC) (eW<|gB aA)<|bO 2 tX.nd (d19 (fN fP (dQ (bX 0) rfl Z.z0) aC) (gH mO hr<|aT 0<|aT 1 aA)<|gB aA)<|iU (fN fP (dQ (bX 2) rfl Z.z0) aC) (eW<|gB<|tT (eN<|aT 0<|cF aA) aA)<|iU (fN (ou_eqD hr.units) (eK (bX 2) aC)<|eK (bX 2) aC) (eW<|gB<|tT (eN<|aH (eK (bX 2) aC)<|cF aA) aA)<|eW<|nB ["g",".acc"] (aG i4).names oO (i8<|fG d54 rfl Z.z11 cX0 (aT 2 aA)) (λ_ _ _ _ _ _=>fW) λ_ _ _ _ _ _=>(eN<|aT 0<|cF aA))
theorem a68 (Z:Zs mg):DT P w K mg base sU "two_by_two" iC 0 qC:=λhr=>
 (bD (pB 2 fS.nd (fQ rfl Z.z6 (aT 1 aA))<|bO 3 fS.nd (aE dP (aE b5 (eK (bX 0) aC)<|aK 2)<|aK 1)<|bO 4 fS.nd (aE b5 (eK (bX 0) aC)<|aE aU (aK 2)<|aK 3)<|b4<|pB 5 fS.nd (fQ rfl Z.z6 (aT 1 aA))<|bO 6 fS.nd (aE dP (aE b5 (aK 4)<|aK 5)<|aK 1)<|b4<|a42 (PUW.pt<|nQ (fN fP (aE dP (aE aU (aK 5)<|aK 6)<|aK 1)<|eK (bX 0) aC)<|kT<|fN fP (aE dP (aE cL (aE aU (aK 2)<|aK 6)<|aE aU (aK 5)<|aK 3)<|aK 1)<|eK (bX 0) aC)<|eW<|gB<|tT (eN<|aT 5<|aT 2<|cF aA)<|tT (eN<|aT 6<|aT 3<|cF aA) aA)<|eW<|gB aA)
theorem b65 (Z:Zs mg)(iY:xN P w K mg base)(a72:bM4 P w K mg base):DT P w K mg base yG "papers_of" kZ 7 vW:=λhr=>
 (eW<|nB ["p","poly","size",".acc"] (aG kZ).names yG (i8<|d32 iY hr ac rfl) (λ_ _ _ _ _ _=>(dK7<|fN fP (aE dP (aK 2)<|aE aU (aK 0)<|aK 0) aC)) λ_ _ _ _ _ _=>(eN<|aT 0<|aH (gH a72 hr<|aT 1<|aT 0 aA) aA))
theorem bK0 (Z:Zs mg)(a73:bM3 P w K mg base)(d8:n5 P w K mg base):DT P w K mg base a63 "parts_at" mY 6 y9:=λhr=>
 (eW<|b99 (js:=[0]) (N:=["g","often","poly",".acc"]) (cap:=[none,none,some 0,none]) (last:=3) (esc:=(aG mY).names) (XN:=a63) rfl rfl af ac ac rfl (i8<|gH a73 hr<|aT 0<|aT 1 aA) (λ_ _ _ _ _ _=>(sX rfl (d4 0 (cU (show Nodup (["g","often","poly",".acc"]:List Str)by decide +kernel) rfl (Or.inl rfl))<|d4 1 (cU (show Nodup (["g","often","poly",".acc"]:List Str)by decide +kernel) rfl (Or.inl rfl)) nS) (cM<|cM kU))) (λ_ _ _ _ _ _=>fW) (λ_ _ _ _ _ _=>(eN<|aT 0<|aT 1<|aH (eK (aQ1<|gH d8 hr<|aT 2<|aT 0 aA) aC) aA)))
theorem b19 (Z:Zs mg)(d8:n5 P w K mg base):DT P w K mg base wC "outside_of" kB 2 tF:=λhr=>
 (bD (aY4 kP rfl (i8<|aK 1) (sX rfl (d4 2 (cU jF.nd rfl (Or.inr rfl))<|d4 3 (cU jF.nd rfl (Or.inl rfl)) nS) (cM<|cM kU)) (b4<|aY4 kP rfl (i8<|aK 3) (sX rfl (d4 4 (cU jF.nd rfl (Or.inl rfl))<|d4 5 (cU jF.nd rfl (Or.inl rfl))<|d4 6 (cU jF.nd rfl (Or.inl rfl)) nS) (cM<|cM<|cM kU)) (b4<|a42 (PUW.pt<|nQ (fN dT4 (aK 5) aC)<|kT<|vC<|fG (b97 rfl) rfl Z.z1 b98 (aH (nB ["c","p",".acc"] (aG kB).names wC (i8<|aK 6) (λ_ _ _ _ _ _=>fW) λ_ _ _ _ _ _=>(bW1 fP (aE dP (aK 0)<|aE aU (aK 1)<|aK 1) aC)) aA))<|eW<|eN<|aT 2<|aH (eK (aQ1<|gH d8 hr<|aT 0<|aT 4 aA) aC) aA)))<|eW bU8)
theorem aE2 (Z:Zs mg){bF:Addr}(i6:mg "FallsApart"=some (.ref bF)){fV:Addr}{yN:FuncData}(iS:wW K bF fV bmV vN=true)(pY:bL1 K bF fV yN "left" "right")(b21:cK6 P w K mg base){f:Addr}{cdv:Value}{A:Around}{outer:List Env}{s:Shared}{H:Hp}{E:XK}(hr:jB 4 (A.deeper<|envOfC "need_together" (aG gO) s.heap.objs.size f cdv)) :
  a77 (vB (CXr P w base) P w K mg base xJ "need_together" (aG gO) f cdv A outer s H E) E (eX gO) nK:=
 (bW7 (aR5<|xU 1 wH.nd rfl (Or.inl rfl) (aG7 b21 hr ac rfl (aH (fT 0<|pv 0) aA)) (hl:=il (n:=2) rfl ac))<|bB0<|d62 (c52<|fT 1<|pv 1) (bB0<|bQ3 (k:=0) a00 iS pY (hr.mono ac) rfl i6 rfl (aH (a96 (nF 1<|pv 1) aC λ_ _=>rfl)<|aH (a96 (nF 1<|pv 1) aC λ_ _=>rfl) aA) cH2 rfl ac) cH4)
theorem aX4 (Z:Zs mg){bG:Addr}(jU:mg "NotWhole"=some (.ref bG)){iF:Addr}{aE3:FuncData}(j9:wW K bG iF bmV vN=true)(wO:bL1 K bG iF aE3 "prime" "number")(wP:b61 P w K mg base)(yO:bJ4 P w K mg base)(aP3:cB9 P w K mg base){f:Addr}{cdv:Value}{A:Around}{outer:List Env}{s:Shared}{H:Hp}{E:XK}(hr:jB 8 (A.deeper<|envOfC "need_whole" (aG iD) s.heap.objs.size f cdv)) :
  a77 (vB (CXr P w base) P w K mg base wE "need_whole" (aG iD) f cdv A outer s H E) E (eX iD) rO:=
 (bW7 (aR5<|xU 2 nV.nd rfl (Or.inl rfl) (aG7 wP hr ac rfl (aH (fT 0<|pv 0)<|aH (aG7 yO hr ac rfl (aH (fT 0<|pv 0)<|aH (fT 1<|pv 1) aA)) aA)) (hl:=il (n:=5) rfl ac))<|bB0<|d62 (c52<|fT 2<|pv 2) (bW7 (aR5<|a95 (fT 2<|pv 2)<|sX rfl (d4 3 (cU nV.nd rfl (Or.inr rfl))<|d4 4 (cU nV.nd rfl (Or.inl rfl)) nS) (cM<|cM kU))<|bB0<|bQ3 (k:=0) a00 j9 wO (hr.mono ac) rfl jU rfl (aH (fT 3<|pv 3)<|aH (aG7 aP3 hr ac rfl (aH (eG iP rfl Z.z8 i9 (aH (b99 (js:=[3]) (N:=["c","p",".acc"]) (cap:=[none,some 3,none]) (last:=2) (esc:=(aG iD).names) (XN:=wE) rfl rfl af ac ac rfl (i8<|fT 4<|pv 4) (λ_ _ _ _ _ _=>(a38 0<|cU (show Nodup (["c","p",".acc"]:List Str)by decide +kernel) rfl (Or.inl rfl))) (λ_ _ _ _ _ _=>fW) (λ_ _ _ _ _ _=>(aE dP (fT 0<|pv 0)<|fT 1<|pv 1))) aA))<|aH (aE b5 (dQ (nF 0<|pv 0) rfl Z.z0) aC) aA)) aA) cH2 rfl ac) cH4)
theorem dF6 (Z:Zs mg):DT P w K mg base dE1 "_law_cell" bI4 0 bX2:=λhr=>
 (iU (fN fP (dQ (bX 0) rfl Z.z0) aC) (eW<|aE aU aC<|aE cL (aK 1) aC)<|iU (fN b30 (aK 1)<|dQ (bX 0) rfl Z.z0) (eW<|eK (bX 0)<|aK 1)<|eW<|aE cL (eK (bX 0)<|aE dP (aK 1)<|dQ (bX 0) rfl Z.z0)<|aE aU aC<|aK 1)
theorem cX4 (Z:Zs mg):DT P w K mg base cR2 "_law_mixed" aV9 0 bB4:=λhr=>
 (bO 3 bJ0.nd (aE dP (aE aU (aE cL (aE cL (aE cL (aK 0)<|aE aU (aE aU aC<|aK 1)<|aK 1)<|aE aU aC<|aK 1) aC) aC) aC)<|bO 3 bJ0.nd (aE dP (aE aU (aK 3)<|aK 3) aC)<|eW<|aE dP (aE aU (aK 3) aC)<|aK 2)
theorem cX5 (Z:Zs mg)(c12:dE7 P w K mg base):DT P w K mg base cR3 "_law_draws" aW0 1 bB5:=λhr=>
 (bO 3 zX.nd aC<|iU (fN dT4 (aK 0)<|aE d26 aC aC) (b4<|a87 3 zX.nd<|aE b5 (aK 0)<|aE d26 aC aC)<|bO 4 zX.nd (gB aA)<|bD (pB 5 zX.nd (fQ rfl Z.z6 (aH (dQ (bX 1) rfl Z.z0) aA))<|b4<|bO6 (fN aQ6 (aK 3) aC) (bD (oV 4 (pv 4)<|aE dP (aK 3)<|eK (bX 1)<|aK 5)<|b4<|a87 3 zX.nd<|aE vG (aK 3)<|eK (bX 1)<|aK 5)<|b4<|oV 4 (pv 4)<|aE dP (gH c12 hr<|aT 0<|aT 5<|aT 2 aA)<|eK (bX 1)<|aK 5)<|b4<|nR 4<|pv 4)
theorem cC4 (Z:Zs mg):DT P w K mg base bT1 "_law_shifted" zU 0 aO0:=λhr=>
 (bO 2 a66.nd (eG bV4 rfl Z.z4 bX3 (aT 0 aA))<|bD (pB 3 a66.nd (fQ rfl Z.z6 (aH (aE b5 (dQ (bX 2) rfl Z.z0) aC) aA))<|b4<|pB 4 a66.nd (bP6 rfl Z.z6 (aH (aE b5 (dQ (bX 2) rfl Z.z0) aC)<|aH (aE b5 (aK 3) aC)<|aH1 (oH aC) aA))<|b4<|vF 2 (pv 2) (aE cL (eK (bX 2)<|aK 4)<|aE aU (aK 1)<|eK (bX 2)<|aE cL (aK 4) aC)<|aK 4)<|eW<|eG iP rfl Z.z8 i9 (aT 2 aA))
theorem cX6 (Z:Zs mg):DT P w K mg base cR4 "_law_value" aW1 0 c92:=λhr=>
 (bO 2 aW9.nd aC<|bD (pB 3 aW9.nd (cM9 rfl Z.z5 (aT 0 aA))<|b4<|a87 2 aW9.nd<|aE cL (aE aU (aK 2)<|aK 1)<|aK 3)<|b4<|nR 2<|pv 2)
theorem cX7 (Z:Zs mg):DT P w K mg base cR5 "_law_whole" aW2 0 bB8:=λhr=>
 (eW<|cE8 (fG cF3 rfl Z.z12 xY (aT 0<|aH (d31 rfl Z.z13 cH6) aA))<|cE7<|pu_not<|fG cF3 rfl Z.z12 xY (aT 0<|aH (d31 rfl Z.z14 dN2) aA))
theorem dR5 (Z:Zs mg)(sE:bJ5 P w K mg base):DT P w K mg base dE2 "_law_row" bT2 1 cI7:=λhr=>
 (iU (PUW.pt<|pF (u3<|vC<|fG cF3 rfl Z.z12 xY (aT 0<|aH (d31 rfl Z.z8 i9) aA))<|tZ<|fN yY (dQ (bX 0) rfl Z.z0)<|aK 1) (eW lW)<|eW<|fG (b97 rfl) rfl Z.z1 b98 (aH (nB ["_law_place",".acc"] (aG bT2).names dE2 (i8<|aK 0) (λ_ _ _ _ _ _=>fW) λ_ _ _ _ _ _=>(gH sE hr<|aT 0 aA)) aA))
theorem cX8 (Z:Zs mg):DT P w K mg base cR6 "_law_times" aW3 0 bE0:=λhr=>
 (bO 3 sV.nd (aE b5 (dQ (bX 0) rfl Z.z0) aC)<|bO 4 sV.nd (aE aU (gB<|cF aA)<|aE b5 (aE aU aC<|aK 3) aC)<|bD (pB 5 sV.nd (fQ rfl Z.z6 (aT 3 aA))<|b4<|pB 6 sV.nd (fQ rfl Z.z6 (aT 3 aA))<|b4<|vF 4 (pv 4) (aE cL (eK (bX 4)<|aE cL (aK 5)<|aK 6)<|aE aU (eK (bX 1)<|aK 5)<|eK (bX 2)<|aK 6)<|aE cL (aK 5)<|aK 6)<|bD (pB 7 sV.nd (bP6 rfl Z.z6 (aH (aE b5 (aE aU aC<|aK 3) aC)<|aH (aE b5 (aK 3) aC)<|aH1 (oH aC) aA))<|b4<|pB 6 sV.nd (fQ rfl Z.z6 (aT 3 aA))<|bO 8 sV.nd (aE cL (aE b5 (aK 7)<|aK 3)<|aK 6)<|b4<|vF 4 (pv 4) (aE b5 (eK (bX 4)<|aK 8)<|aE aU (eK (bX 4)<|aK 7)<|eK (bX 0)<|aK 6)<|aK 8)<|eW<|eG iP rfl Z.z8 i9 (aH (jL (bX 4) jK<|iO<|aK 3) aA))
theorem cX9 (Z:Zs mg)(c13:dF0 P w K mg base):DT P w K mg base c02 "_law_table" b81 1 bE4:=λhr=>
 (bO 2 wI.nd (aE b5 (dQ (bX 0) rfl Z.z0) aC)<|bO 3 wI.nd (eG iP rfl Z.z8 i9 (aH (nB ["_law_k",".acc"] (aG b81).names c02 (fQ rfl Z.z6 (aT 2 aA)) (λ_ _ _ _ _ _=>fW) λ_ _ _ _ _ _=>(eG d29 rfl Z.z13 cH6 (aH (bW1 fP (aK 0) aC) aA))) aA))<|bO 4 wI.nd (gB aA)<|bO 5 wI.nd (eG iP rfl Z.z8 i9 (aT 1 aA))<|bD (pB 6 wI.nd (fQ rfl Z.z6 (aT 2 aA))<|bD (oV 4 (pv 4)<|aK 5)<|b4<|a87 5 wI.nd<|gH c13 hr<|aT 0<|aT 3<|aT 5 aA)<|b4<|nR 4<|pv 4)
theorem aX5 (Z:Zs mg){k:Nat}{jZ:Φ}(hk:1<=k)(bK2:Fn P w K mg base "_law_det" mZ k jZ):DT P w K mg base cK5 "_law_det" aO8 k (bZ6 jZ):=λhr=>
 (bD (bO6 (aQ2 fP (dQ (nF 0<|pv 0) rfl Z.z0) aC<|b88 _) (b4<|cE9<|a96 (aQ1<|a96 (nF 0<|pv 0) aC λ_ _=>rfl) aC λ_ _=>rfl) bV1)<|bD (xU 1 xM.nd rfl (Or.inl rfl) aC (hl:=il (n:=4) rfl ac))<|bD (aY4 kP rfl (fQ rfl Z.z6 (aH (dQ (nF 0<|pv 0) rfl Z.z0) aA)) (a38 2<|cU xM.nd rfl (Or.inl rfl)) (bD (b31 (js:=[]) (N:=["_law_row_here",".acc"]) (cap:=[none,none]) (last:=1) (esc:=(aG aO8).names) (XN:=cK5) 3 rfl rfl af ac ac rfl (i8<|aE cL (jL (nF 0<|pv 0) jK<|iO<|fT 2<|pv 2)<|jL (nF 0<|pv 0) (iO<|aE cL (fT 2<|pv 2) aC) jK) (λ_ _ _ _ _ _=>(a38 0<|cU (show Nodup (["_law_row_here",".acc"]:List Str)by decide +kernel) rfl (Or.inl rfl))) (λ_ _ _ _ _ _=>fW) (λ_ _ _ _ _ _=>(jL (nF 0<|pv 0) (iO aC) jK)) (cU xM.nd rfl (Or.inl rfl)) (il (n:=4) rfl ac))<|b4<|xU 1 xM.nd rfl (Or.inl rfl) (aE cL (fT 1<|pv 1)<|aE aU (aE aU (aE b5 aC<|aE aU aC<|aE dP (fT 2<|pv 2) aC)<|a96 (aQ1<|a96 (nF 0<|pv 0) (fT 2<|pv 2) λ_ _=>rfl) aC λ_ _=>rfl)<|aG7 bK2 hr (aD _) rfl (aH (fT 3<|pv 3) aA)) (hl:=il (n:=4) rfl ac)))<|b4<|nR 1<|pv 1)
theorem cY0 (Z:Zs mg)(xO:cC1 P w K mg base):DT P w K mg base c03 "_law_falls" aF8 1 bF5:=λhr=>
 (bO 1 pV.nd (fG aY5 rfl Z.z2 aZ5 (aH (eK (bX 0) aC) aA))<|iU (fN fP (aK 1) aC) (eW lW)<|bD (pB 2 pV.nd (k7 rfl Z.z6 (cF<|aH (aE cL (aK 1) aC) aA))<|b4<|a42 (PUW.pt<|nQ (fN fP (aE dP (aK 1)<|aK 2) aC)<|kT<|PUW.pt<|pF (fN fP (gH xO hr<|aT 0<|aT 2 aA) aC)<|tZ<|fN fP (gH xO hr<|aT 0<|aH1 (oH<|aK 2) aA) aC)<|eW lW)<|iU (fN b30 (dQ (bX 0) rfl Z.z0) aC) (eW lW)<|bO 3 pV.nd (aE cL aC<|aE aU aC<|fG (dM1 rfl) rfl Z.z3 d76 (aH (nB ["_law_place",".acc"] (aG aF8).names c03 (i8<|aK 0) (λ_ _ _ _ _ _=>fW) λ_ _ _ _ _ _=>(fG aY5 rfl Z.z2 aZ5 (aT 0 aA))) aA))<|bD (pB 4 pV.nd (k7 rfl Z.z6 (aH1 (oH<|aK 1)<|aH (aE cL (aK 1) aC) aA))<|b4<|a42 (PUW.pt<|nQ (fN yY (aK 4) aC)<|kT<|fN fP (aE dP (aK 1)<|aK 4) aC)<|bO 5 pV.nd (aE vG (eK (bX 0) aC)<|aK 4)<|bO 6 pV.nd (aE b5 (eK (bX 0) aC)<|aE aU (aK 4)<|eK (bX 0) aC)<|iU (PUW.pt<|nQ (fN yY (aK 5)<|aK 4)<|kT<|fN fP (aE dP (aK 6)<|aE b5 (aK 5)<|aK 4) aC) (bO 7 pV.nd (aE vG (aK 6)<|aE b5 (aK 5)<|aK 4)<|b4<|a42 (fN fP (aE cL (aE cL (aK 4)<|aK 5)<|aE aU (aK 7)<|aE b5 (eK (bX 0) aC)<|aK 7)<|eK (bX 0) aC)<|eW lW)<|b4<|a42 (PUW.pt<|nQ (fN fP (aK 5)<|aK 4)<|kT<|fN fP (aK 6) aC)<|b4<|pB 7 pV.nd (k7 rfl Z.z6 (aH1 (oH<|aK 3)<|aH (aE cL (aK 3) aC) aA))<|b4<|a42 (fN fP (aE cL (aE aU aC<|aK 4)<|aE aU (aK 7)<|aE b5 (eK (bX 0) aC)<|aK 7)<|eK (bX 0) aC)<|eW lW)<|eW lW)
theorem cL0 (Z:Zs mg):DT P w K mg base cB0 "_law_closed" aD8 0 b16:=λhr=>
 (iU (fN fP (dQ (bX 0) rfl Z.z0) aC) (eW<|aE b5 (aE aU (eK (bX 0) aC)<|eK (bX 0) aC)<|aE aU aC<|eK (bX 0) aC)<|iU (fN fP (dQ (bX 0) rfl Z.z0) aC) (bD (a95 (jL (bX 0) jK<|iO aC)<|sX rfl (d4 1 (cU iX.nd rfl (Or.inl rfl))<|d4 2 (cU iX.nd rfl (Or.inl rfl))<|d4 3 (cU iX.nd rfl (Or.inl rfl)) nS) (cM<|cM<|cM kU))<|bO 4 iX.nd (aE b5 (aE aU (aE aU (aE aU (aK 3)<|aK 3)<|aK 2)<|aK 2)<|aE aU (aE aU (aE aU aC<|aK 2)<|aK 2)<|aK 2)<|bO 4 iX.nd (aE b5 (aK 4)<|aE aU (aE aU (aE aU (aE aU aC<|aK 3)<|aK 3)<|aK 3)<|aK 1)<|eW<|aE cL (aE b5 (aK 4)<|aE aU (aE aU aC<|aK 1)<|aK 1)<|aE aU (aE aU (aE aU aC<|aK 3)<|aK 2)<|aK 1)<|bD (a95 (jL (bX 0) jK<|iO aC)<|sX rfl (d4 5 (cU iX.nd rfl (Or.inl rfl))<|d4 1 (cU iX.nd rfl (Or.inl rfl))<|d4 2 (cU iX.nd rfl (Or.inl rfl))<|d4 3 (cU iX.nd rfl (Or.inl rfl)) nS) (cM<|cM<|cM<|cM kU))<|bO 6 iX.nd (aE cL (aE b5 (aE aU aC<|aK 5)<|aE aU (aE aU aC<|aK 3)<|aK 1)<|aE aU (aK 2)<|aK 2)<|bO 7 iX.nd (aE b5 (aE cL (aE aU (aE aU aC<|aK 2)<|aK 5)<|aE aU (aE aU (aE aU aC<|aK 3)<|aK 2)<|aK 1)<|aE aU (aE aU aC<|aK 1)<|aK 1)<|bO 7 iX.nd (aE b5 (aE b5 (aK 7)<|aE aU (aE aU (aE aU aC<|aK 3)<|aK 3)<|aK 5)<|aE aU (aE aU (aE aU aC<|aK 2)<|aK 2)<|aK 2)<|eW<|aE vG (aE b5 (aE aU (aE aU (aE aU aC<|aK 6)<|aK 6)<|aK 6)<|aE aU (aK 7)<|aK 7) aC)
theorem b20 (Z:Zs mg):DT P w K mg base wF "_law_square_lacks" kC 0 tH:=λhr=>
 (bO 2 gR.nd (aE vG (aE cL (aK 1) aC) aC)<|bO 3 gR.nd (aE dP (aE aU (eK (bX 0) aC)<|aK 2)<|aK 1)<|bO 4 gR.nd (aE dP (aE aU (aE b5 (eK (bX 0) aC)<|aE aU (aK 3)<|aK 3)<|aK 2)<|aK 1)<|iU (fN fP (aK 1) aC) (bO 3 gR.nd aC<|b4<|a87 4 gR.nd aC)<|iU (PUW.pt<|pF (fN yY (aE dP (aE b5 (aE aU aC<|aK 3)<|eK (bX 0) aC)<|aK 1) aC)<|tZ<|fN yY (aE dP (aE b5 (aE cL (aE aU (aK 3)<|aK 3)<|aE aU aC<|aK 4)<|eK (bX 0) aC)<|aK 1) aC) (eW lW)<|iU (PUW.pt<|pF (fN yY (aE dP (aE b5 (aE aU (aE aU aC<|aK 3)<|aK 4)<|eK (bX 0) aC)<|aK 1) aC)<|tZ<|fN yY (aE dP (aE b5 (aE aU (aK 4)<|aK 4)<|eK (bX 0) aC)<|aK 1) aC) (eW lW)<|iU (vC<|fG (cG2 rfl) rfl Z.z15 cG3 (aH (nB ["_law_r","_law_a","_law_b","_law_p",".acc"] (aG kC).names wF (fQ rfl Z.z6 (aT 1 aA)) (λ_ _ _ _ _ _=>fW) λ_ _ _ _ _ _=>(bW1 fP (aE dP (aE cL (aE cL (aE aU (aK 0)<|aK 0)<|aE aU (aK 1)<|aK 0)<|aK 2)<|aK 3) aC)) aA)) (eW lW)<|bO 5 gR.nd (aE b5 (eK (bX 0) aC)<|aK 3)<|bO 6 gR.nd (aE b5 (aE b5 (eK (bX 0) aC)<|aK 4)<|aE aU (aK 3)<|aK 5)<|eW<|cE8 (bW1 fP (aE dP (aE b5 (aE b5 (eK (bX 0) aC)<|aE aU (aK 4)<|aK 5)<|aE aU (aK 3)<|aK 6)<|aE aU (aK 1)<|aK 1) aC)<|cE7<|bW1 fP (aE dP (aE b5 (eK (bX 0) aC)<|aE aU (aK 4)<|aK 6)<|aE aU (aK 1)<|aK 1) aC)
theorem cY1 (Z:Zs mg)(xO:cC1 P w K mg base)(wQ:b62 P w K mg base):DT P w K mg base b82 "_law_lacks" a64 1 bG6:=λhr=>
 (bO 2 aX0.nd (eG iP rfl Z.z8 i9 (aH (nB ["_law_k","_law_poly",".acc"] (aG a64).names b82 (k7 rfl Z.z6 (cF<|aH (dQ (bX 0) rfl Z.z0) aA)) (λ_ _ _ _ _ _=>fW) λ_ _ _ _ _ _=>(aE aU (aK 0)<|eK (bX 1)<|aK 0)) aA))<|bD (pB 3 aX0.nd (k7 rfl Z.z6 (cF<|cF aA))<|b4<|a42 (PUW.pt<|nQ (fN fP (aE dP (aK 1)<|aE aU (aK 3)<|aK 3) aC)<|kT<|vC<|fG (b97 rfl) rfl Z.z1 b98 (aH (nB ["_law_q","_law_p",".acc"] (aG a64).names b82 (k7 rfl Z.z6 (cF<|aT 3 aA)) (λ_ _ _ _ _ _=>fW) λ_ _ _ _ _ _=>(bW1 aQ6 (aE dP (aK 1)<|aK 0) aC)) aA))<|bD (pB 4 aX0.nd (fQ rfl Z.z6 (aT 3 aA))<|b4<|a42 (PUW.pt<|nQ (fN fP (aE dP (gH xO hr<|aT 0<|aT 4 aA)<|aE aU (aK 3)<|aK 3) aC)<|kT<|fN fP (aE dP (gH xO hr<|aT 2<|aT 4 aA)<|aK 3) aC)<|eW lW)<|b4<|a42 (PUW.pt<|nQ (fN fP (dQ (bX 0) rfl Z.z0) aC)<|kT<|vC<|gH wQ hr<|aT 0<|aT 3 aA)<|eW lW)<|eW lW)
theorem dR6 (Z:Zs mg)(c14:dF1 P w K mg base)(bK2:dR4 P w K mg base):DT P w K mg base cR7 "_law_own" cB2 5 cK2:=λhr=>
 (bO 2 tI.nd (aE b5 (dQ (bX 0) rfl Z.z0) aC)<|bO 3 tI.nd (gH c14 hr<|aT 0<|aT 1 aA)<|bO 4 tI.nd (gB<|aH (gB aA) aA)<|bD (pB 5 tI.nd (fQ rfl Z.z6 (aT 2 aA))<|b4<|a87 4 tI.nd<|aE cL (aK 4)<|nB ["_law_pick","_law_i",".acc"] (aG cB2).names cR7 (i8<|aK 4) (λ_ _ _ _ _ _=>fW) λ_ _ _ _ _ _=>(aE cL (aK 0)<|gB<|aT 1 aA))<|bO 6 tI.nd (aE cL (aE aU (gB<|cF aA)<|aK 2)<|gB<|cF aA)<|bD (pB 7 tI.nd (i8<|jL (bX 4) (iO aC) jK)<|bO 8 tI.nd (gB aA)<|bD (pB 5 tI.nd (i8<|aK 7)<|b4<|oV 8 (pv 8)<|nB ["_law_j","_law_table_here","_law_i",".acc"] (aG cB2).names cR7 (i8<|aK 7) (λ_ _ _ _ _ _=>fW) λ_ _ _ _ _ _=>(eK (aQ1<|eK (bX 1)<|aK 2)<|aK 0))<|bO 9 tI.nd (aE b5 aC<|aE aU aC<|aE dP (dQ (bX 7) rfl Z.z0) aC)<|bO 10 tI.nd (aE b5 (aK 2)<|dQ (bX 7) rfl Z.z0)<|b4<|vF 6 (pv 6) (aE cL (eK (bX 6)<|aK 10)<|aE aU (aK 9)<|gH bK2 hr<|aT 8 aA)<|aK 10)<|b4<|nR 6<|pv 6)
theorem c09 (Z:Zs mg)(dF8:TF_own P w K mg base):DT P w K mg base bI6 "_law_whole_by" wG 6 aC8:=λhr=>
 (bO 3 sW.nd (gH dF8 hr<|aT 0<|aT 1 aA)<|bO 4 sW.nd aC<|bD (pB 5 sW.nd (k7 rfl Z.z6 (cF<|aH (dQ (bX 0) rfl Z.z0) aA))<|bO 4 sW.nd (aE aU (aK 4)<|aK 2)<|b4<|a42 (fN yY (aE dP (eK (bX 3)<|aE b5 (aE b5 (dQ (bX 0) rfl Z.z0) aC)<|aK 5)<|aK 4) aC)<|eW lW)<|eW lW)
theorem cY2 (Z:Zs mg)(b83:dE8 P w K mg base):DT P w K mg base aW4 "_law_drawn" xK 2 bH3:=λhr=>
 (bO 1 wJ.nd (gH b83 hr<|aT 0<|aH (gB<|cF<|cF<|cF<|cF aA)<|cF aA)<|iU (fN b30 (eK (bX 1) aC) aC) (by refine WS.out ?_;exact ws_lw (cU2 (bW0<|aR2<|aR2 aN1)<|cU2 (bW0<|bW0<|bW0<|aR2 aN1)<|cU2 (aR2<|aR2<|aR2 aN1)<|cU2 (bW0<|bW0<|bW0<|aR2 aN1)<|cU2 (bW0<|aR2<|aR2<|aR2 aN1)<|cU2 (aR2<|aR2<|bW0<|aR2<|aR2 aN1) aN1) (ws_of<|bO 2 wJ.nd (aE cL (aK 2)<|gB<|tT (eN<|cF<|cF<|cF<|cF<|cF aA)<|tT (eN<|cF<|cF<|cF<|cF<|cF aA)<|tT (eN<|aH1 (oH aC)<|cF<|cF aA)<|tT (eN<|aH1 (oH aC)<|cF<|cF aA) aA)<|bO 2 wJ.nd (aE cL (aK 2)<|gB<|tT (eN<|cF<|cF<|cF<|cF aA)<|tT (eN<|cF<|cF<|cF<|cF aA) aA)<|eW<|eN<|aH (eK (bX 2)<|eK (bX 1) aC)<|cF aA) wJ.nd)<|bO 3 wJ.nd (gH b83 hr<|aT 0<|aH (gB<|cF<|cF<|cF<|cF<|cF<|cF<|cF<|cF aA)<|cF aA)<|bD (b31 (js:=[]) (N:=["_law_place",".acc"]) (cap:=[none,none]) (last:=1) (esc:=(aG xK).names) (XN:=aW4) 4 rfl rfl af ac ac rfl (i8<|jL (bX 3) (iO aC) jK) (λ_ _ _ _ _ _=>(a38 0<|cU (show Nodup (["_law_place",".acc"]:List Str)by decide +kernel) rfl (Or.inl rfl))) (λ_ _ _ _ _ _=>fW) (λ_ _ _ _ _ _=>(aE b5 (aK 0) aC)) (cU wJ.nd rfl (Or.inl rfl)) (il (n:=5) rfl ac))<|iU (fN fP (eK (bX 1) aC) aC) (eW<|eN<|aH (eG iP rfl Z.z8 i9 (aH (aE cL (jL (bX 4) jK<|iO<|aE b5 (eK (bX 1) aC) aC)<|gB<|cF aA) aA))<|cF aA)<|iU (fN fP (eK (bX 1) aC) aC) (eW<|eN<|tT (eN<|aH (eK (bX 4) aC)<|aH (aE b5 (aE dP (eK (bX 4) aC) aC) aC)<|cF aA)<|cF aA)<|iU (fN fP (eK (bX 1) aC) aC) (eW<|eN<|aH (eG iP rfl Z.z8 i9 (aH (aE cL (nB ["_law_place",".acc"] (aG xK).names aW4 (i8<|jL (bX 4) jK<|iO aC) (λ_ _ _ _ _ _=>fW) λ_ _ _ _ _ _=>(aE b5 (aE dP (aK 0) aC) aC))<|gB<|cF aA) aA))<|aH (aE b5 (eK (bX 1) aC) aC) aA)<|eW<|eN<|aH (eG iP rfl Z.z8 i9 (aH (aE cL (nB ["_law_place",".acc"] (aG xK).names aW4 (i8<|aK 4) (λ_ _ _ _ _ _=>fW) λ_ _ _ _ _ _=>(aE b5 (aE dP (aK 0) aC) aC))<|gB<|cF aA) aA))<|aH (aE b5 (eK (bX 1) aC) aC) aA)
theorem cC5 (Z:Zs mg){bG:Addr}(jU:mg "NotWhole"=some (.ref bG)){iF:Addr}{aE3:FuncData}(j9:wW K bG iF bmV vN=true)(wO:bL1 K bG iF aE3 "prime" "number"){bF:Addr}(i6:mg "FallsApart"=some (.ref bF)){fV:Addr}{yN:FuncData}(iS:wW K bF fV bmV vN=true)(pY:bL1 K bF fV yN "left" "right"){eC:Addr}(jV:mg "TooGreat"=some (.ref eC))(jW:excIn K eC bmV vN=true)(KX_NotWhole:d67 K bG ["prime","number"])(U1_NotWhole:xX K bG bG bmV vN)(U1_FallsApart:xX K bF bF bmV vN)(U1_TooGreat:xX K eC eC bmV vN)(NB_FallsApart_TooGreat:m8 K bF eC bmV vN false)(NB_FallsApart_NotWhole:m8 K bF bG bmV vN false)(NB_TooGreat_NotWhole:m8 K eC bG bmV vN false)(c15:MkX P w K mg base "Ring" 10 ["poly","degree","measure"] aC1):DT P w K mg base bT4 "_law_outcome" zV 11 aO5:=λhr=>
 (bO 1 j7.nd aC<|bO 2 j7.nd (eN aA)<|bO 3 j7.nd bU8<|bD (dN0 4 (.inr ⟨ac,rfl⟩) a00 rfl rfl rfl rfl (d69 3 c15 hr ac rfl (λ_=>(aT 0 aA)) j7.nd rfl (Or.inl rfl) (λ_=>(b4<|a87 1 j7.nd aC)) (il (n:=5) rfl ac)) (λ_=>(b4<|a87 1 j7.nd aC)) (λ_=>(b4<|a87 1 j7.nd aC)) (λa oe x ho hx=>(bO 1 j7.nd aC<|b4<|a87 2 j7.nd<|eN<|aH (cN5 4 KX_NotWhole (cP ..) ho hx ac<|pv 4)<|aH (cN5 4 KX_NotWhole (cP ..) ho hx ac<|pv 4) aA)) rfl i6 (.inr ⟨_,iS⟩) rfl jV (.inl jW) rfl jU (.inr ⟨_,j9⟩) U1_FallsApart U1_TooGreat U1_NotWhole NB_FallsApart_TooGreat NB_FallsApart_NotWhole NB_TooGreat_NotWhole j7.nd rfl rfl (il (n:=5) rfl ac))<|eW<|eN<|aT 1<|aT 2<|aT 3 aA)
theorem cY3 (Z:Zs mg)(sE:bJ5 P w K mg base)(bT5:dE9 P w K mg base)(aP4:cC2 P w K mg base):DT P w K mg base aW5 "_law_shown" xL 7 bH8:=λhr=>
 (bD (a95 (aK 1)<|sX rfl (d4 2 (cU bJ1.nd rfl (Or.inr rfl))<|d4 3 (cU bJ1.nd rfl (Or.inl rfl)) nS) (cM<|cM kU))<|iU (PUW.pt<|pF (u3<|vC<|gH sE hr<|aT 2 aA)<|pF (fN b30 (aK 2) aC)<|pF (fN aQ6 (aK 2) aC)<|tZ<|vC<|fG (cG2 rfl) rfl Z.z15 cG3 (aH (nB ["_law_q","_law_p",".acc"] (aG xL).names aW5 (k7 rfl Z.z6 (cF<|aT 2 aA)) (λ_ _ _ _ _ _=>fW) λ_ _ _ _ _ _=>(bW1 fP (aE dP (aK 1)<|aK 0) aC)) aA)) (eW lW)<|iU (PUW.pt<|pF (u3<|vC<|gH bT5 hr<|aT 3<|aH (aE b5 (dQ (bX 0) rfl Z.z0) aC) aA)<|tZ<|u3<|vC<|fG (cG2 rfl) rfl Z.z15 cG3 (aH (nB ["_law_place",".acc"] (aG xL).names aW5 (i8<|aK 3) (λ_ _ _ _ _ _=>fW) λ_ _ _ _ _ _=>(bW1 aQ6 (aK 0) aC)) aA)) (eW lW)<|eW<|cE8 (fG (b97 rfl) rfl Z.z1 b98 (aH (nB ["_law_place","_law_p",".acc"] (aG xL).names aW5 (i8<|aK 3) (λ_ _ _ _ _ _=>fW) λ_ _ _ _ _ _=>(d44 d27 b30 aC (aK 0)<|aK 1)) aA))<|cE7<|gH aP4 hr<|aT 0<|aT 3<|aT 2 aA)
theorem dR7 (Z:Zs mg)(c16:dF4 P w K mg base)(cL1:dR3 P w K mg base)(b22:cK7 P w K mg base)(bK3:cX2 P w K mg base)(b23:cK8 P w K mg base)(c17:dF2 P w K mg base)(c18:dF3 P w K mg base)(c19:dF5 P w K mg base)(bT5:dE9 P w K mg base)(sE:bJ5 P w K mg base):DT P w K mg base dU8 "law" aW6 12 c01:=λhr=>
 (bD (pB 1 tJ.nd (fQ rfl Z.z6 (cF aA))<|bD (a95 (gH c16 hr<|aH (gH cL1 hr<|aT 0<|aT 1 aA) aA)<|sX rfl (d4 2 (cU tJ.nd rfl (Or.inl rfl))<|d4 3 (cU tJ.nd rfl (Or.inl rfl)) nS) (cM<|cM kU))<|bO 4 tJ.nd (gH b22 hr<|aT 2<|aT 3 aA)<|bO 5 tJ.nd (gH bK3 hr<|aT 4 aA)<|bD (a95 (gH b23 hr<|aT 4 aA)<|sX rfl (d4 6 (cU tJ.nd rfl (Or.inl rfl))<|d4 7 (cU tJ.nd rfl (Or.inl rfl))<|d4 8 (cU tJ.nd rfl (Or.inl rfl)) nS) (cM<|cM<|cM kU))<|bD (bO6 (vC<|gH c17 hr<|aT 2 aA) (b4<|a87 9 tJ.nd aC)<|b4<|bO6 (fN aQ6 (fG aY5 rfl Z.z2 aZ5 (aT 5 aA)) aC) (b4<|a87 9 tJ.nd aC)<|b4<|a87 9 tJ.nd<|aE b5 aC<|eG d29 rfl Z.z13 cH6 (aH (gH c18 hr<|aT 4<|aT 5 aA) aA))<|iU (fN yY (aK 6)<|aK 9) (eW lW)<|iU (PUW.pt<|nQ (fN fP (aK 6) aC)<|kT<|u3<|vC<|gH c19 hr<|aT 4<|aT 7 aA) (eW lW)<|b4<|a42 (fN fP (aK 6) aC)<|iU (PUW.pt<|pF (u3<|vC<|gH bT5 hr<|aH (aZ3<|aK 8)<|aH (dQ (bX 4) rfl Z.z0) aA)<|pF (fN (ou_neD hr.units) (aZ3<|aK 8)<|aK 4)<|tZ<|u3<|vC<|gH sE hr<|aH (aZ3<|aK 8) aA) (eW lW)<|b4<|a42 (PUW.pt<|pF (fN yY (aZ3<|aK 8)<|aE b5 (dQ (bX 4) rfl Z.z0) aC)<|pF (u3<|vC<|gH sE hr<|aH (aZ3<|aK 8) aA)<|tZ<|fN yY (aZ3<|aK 8)<|aK 5)<|eW lW)<|eW lW)
theorem cY4 (Z:Zs mg){oR:Tok}(gD:mg "GREATEST_MEASURE"=some (.int 39999 oR)){eC:Addr}(jV:mg "TooGreat"=some (.ref eC))(jW:excIn K eC bmV vN=true)(dZ:nM P w K mg base)(aE4:c06 P w K mg base)(oS:FnX P w K mg base "need_together" wD 5 jY)(tK:FnX P w K mg base "need_whole" a85 9 mU){f:Addr}{cdv:Value}{A:Around}{outer:List Env}{s:Shared}{H:Hp}{E:XK}(hr:jB 9 (A.deeper<|envOfC "Ring.__init__" (aG aD9) s.heap.objs.size f cdv)) :
  PSs (vB (CXr P w base) P w K mg base ["self","poly","size"] "Ring.__init__" (aG aD9) f cdv A outer s H E) (eX aD9) (λD=>lSX K mg E bD5 {D with nx:=tS3 K "poly" "degree" "measure" bD6 bD7 bD8 D}):=
 (b74 (aR5<|bV8<|aG7 dZ hr ac rfl (aH (fT 1<|pv 1) aA))<|b74 (cN2 oS hr ac dT6 rfl (aH (fT 1<|pv 1) aA))<|b74 (aR5<|xU 2 cR8.nd rfl (Or.inl rfl) (aG7 aE4 hr ac rfl (aH (fT 1<|pv 1) aA)) (hl:=il (n:=3) rfl ac))<|b74 (d62 (aQ2 aQ6 (fG aY5 rfl Z.z2 aZ5 (aH (fT 2<|pv 2) aA)) (cM7 rfl gD)<|b88 _) (bB0<|d63 a00 jW rfl jV rfl (aH pu_str aA) cH2 rfl) cH4)<|dM8 (cN2 tK hr ac dT6 rfl (aH (fT 1<|pv 1)<|aH (fT 2<|pv 2) aA))<|yW (cD8 (pv 0) (fT 1<|pv 1) rfl)<|yW (cD8 (pv 0) (aE b5 (dQ (nF 1<|pv 1) rfl Z.z0) aC) rfl)<|bT7<|cD8 (pv 0) (fT 2<|pv 2) rfl)
end
theorem lC {P:List Value->Prop}{n:Nat}(h: ∀a us,us.length=n->P (a::us)): ∀us:List Value,us.length=n+1->P us:=λus=>us.casesOn (λe=>nomatch e) λa us e=>h a us (Nat.succ.inj e)
theorem lN0 {P:List Value->Prop}(h:P []): ∀us:List Value,us.length=0->P us:=λus=>us.casesOn (λ_=>h) λ_ _ e=>nomatch e
local macro_rules| `(tactic| walk_at "b0")=> `(tactic| exact λ_ _ _ _ _ _=>lN0 rfl)
theorem lN1 {P:List Value->Prop}(h: ∀a0,P [a0]): ∀us:List Value,us.length=1->P us:=lC λa0=>lN0 (h a0)
local macro_rules| `(tactic| walk_at "b1")=> `(tactic| exact λ_ _ _ _ _ _=>lN1 λ_=>rfl)
theorem lN2 {P:List Value->Prop}(h: ∀a0 a1,P [a0,a1]): ∀us:List Value,us.length=2->P us:=lC λa0=>lC λa1=>lN0 (h a0 a1)
local macro_rules| `(tactic| walk_at "b2")=> `(tactic| exact λ_ _ _ _ _ _=>lN2 λ_ _=>rfl)
theorem lN3 {P:List Value->Prop}(h: ∀a0 a1 a2,P [a0,a1,a2]): ∀us:List Value,us.length=3->P us:=lC λa0=>lC λa1=>lC λa2=>lN0 (h a0 a1 a2)
local macro_rules| `(tactic| walk_at "b3")=> `(tactic| exact λ_ _ _ _ _ _=>lN3 λ_ _ _=>rfl)
local macro_rules| `(tactic| walk_at "n")=> `(tactic| (intro _ _ h;repeat (first| (obtain⟨e,_⟩:=h;subst e;rfl)|obtain⟨_,h⟩:=h)))
structure FD where
 oc:Value
 od:Option Addr
 kV:Value
 dc:Value
 pm:Value
 an:Option Addr
 cd:Value
 ct:Value
 sl:Array (Option Value)
abbrev iE (K:PySem.W.Frag)(x y:Str)(s:Stmt)(f:Addr):Prop:= ∃d:FD,nsIn K mainGlobals y=some (some<|.ref f)/\K.lookup f=some ⟨d.oc,d.od,.func<|fnOf x x (jX s) (eX s) (aG s) .none d.kV d.dc d.pm d.an d.cd d.ct,d.sl⟩/\codeIn K d.cd x=true/\keepIn K (.ref f)=true
theorem fnAt {K:PySem.W.Frag}{x y:Str}{s:Stmt}{f:Addr}{oc:Value}{od:Option Addr}{kV dc pm:Value}{an:Option Addr}{cd ct:Value}{sl:Array (Option Value)}(a:nsIn K mainGlobals y=some (some<|.ref f))(b:K.lookup f=some ⟨oc,od,.func<|fnOf x x (jX s) (eX s) (aG s) .none kV dc pm an cd ct,sl⟩)(c:codeIn K cd x=true)(k:keepIn K (.ref f)=true):iE K x y s f:=⟨⟨oc,od,kV,dc,pm,an,cd,ct,sl⟩,a,b,c,k⟩
theorem dF7 {K:PySem.W.Frag}{x y:Str}{s:Stmt}{f:Addr}(p:iE K x y s f): ∃fd,Fun K x x s f fd/\nsIn K mainGlobals y=some (some<|.ref f):=let ⟨_,a,b,c,k⟩:=p;⟨_,aY2 b c k,a⟩
section
variable {P:Program}{w:World}{K:PySem.W.Frag}{mg:Str->Option Value}{base h:Heap}(X:K.In h)(G:h.Ns mainGlobals mg){x y:Str}{st:Stmt}{f:Addr}{N ps:List Str}{k:Nat}(p:iE K x y st f)(b: ∀(kV doc pm:Value) (an:Option Addr) (cdv ct:Value) (us:List Value),us.length=ps.length->bindArgs (fnOf x x (jX st) (eX st) (aG st) .none kV doc pm an cdv ct) ⟨us,[]⟩=pure (ps.zip us))(S:aY N ps (aG st))
include X G p b S
theorem fn_b {φ:Φ}(len: ∀ds Q,φ ds Q->ds.length=ps.length){t:US}(der: ∀(cdv:Value) (A:Around) (outer:List Env) (s:Shared) (H:Hp) (E:XK),jB k (A.deeper<|envOfC x (aG st) s.heap.objs.size f cdv)->pG (vB CX0 P w K mg base N x (aG st) f cdv A outer s H E).nox (eX st) t)(rd: ∀ds Q,φ ds Q->t {nx:=λ_=>Q (.pu .non),rt:=Q} (init N ds)):Fn P w K mg base y ps (k+1) φ:=
 let ⟨_,U,m⟩:=dF7 p
 Fn.mkA U (dJ X G m) (U.binds b) S len der rd
theorem fnX_b {φ:ΦX}(q:x=y)(len: ∀ds Q Ex,φ ds Q Ex->ds.length=ps.length){t:USX}(der: ∀(cdv:Value) (A:Around) (outer:List Env) (s:Shared) (H:Hp) (E:XK),jB k (A.deeper<|envOfC x (aG st) s.heap.objs.size f cdv)->a77 (vB (CXr P w base) P w K mg base N x (aG st) f cdv A outer s H E) E (eX st) t)(rd: ∀ds Q Ex,φ ds Q Ex->t Ex {nx:=λ_=>Q (.pu .non),rt:=Q} (init N ds)):FnX P w K mg base y ps (k+1) φ:=
 let ⟨_,U,m⟩:=dF7 p
 q▸FnX.mk' U (dJ X G<|q▸m) (U.binds b) S len der rd
end
theorem all_mk {l:PySem.W.OpenLaw}{w:World}{K:PySem.W.Frag}{h:Heap}{mg:Str->Option Value}{fa f1 f2 f3 f4 f5 f6 f7 f8 f9 f10 f11 f12 f13 f14 f15 f16 f17 f18 f19 f20 f21 f22 f23 f24 f25 f26 f27 f28 f29 f30 f31 f32 f33 f34 f35 f36 f37 f38 f39 f40 f41 f42 f43 f44 f45 f46 f47 f48 f49 f50 iF fV aX7 bG bF eC rZ kE:Addr}(X:K.In h)(G:h.Ns mainGlobals mg)(hfa:mg "law"=some (.ref fa))
  {cC6 cC7 bM8 bM9 dR8 dR9 b66:Option Addr} {cC8 bN0 dS0 b67:Array (Option Value)} {cC9 cD0 cD1 b46 cD2 bN1 bN2 bN3 aI4 bN4 dS1 dS2 dS3 cR9 dS4 dS5:Value} {sA u9 aP5:ClassData} {rX oR:Tok} {b24:Array Value} {n_SMALL_PRIMES:Nat}
  (P1:iE K "is_ring_poly" "is_ring_poly" iW f1)
  (P2:iE K "need_ring_poly" "need_ring_poly" j5 f2)
  (P3:iE K "cut" "cut" aV2 f3)
  (P4:iE K "padded" "padded" wA f4)
  (P5:iE K "poly_parted" "poly_parted" kW f5)
  (P6:iE K "poly_at" "poly_at" sS f6)
  (P7:iE K "root" "root" aD0 f7)
  (P8:iE K "small_primes" "small_primes" k8 f8)
  (P9:iE K "apart" "apart" zT f9)
  (P10:iE K "dividers" "dividers" pR f10)
  (P11:iE K "line_and_rest" "line_and_rest" jN f11)
  (P12:iE K "two_by_two" "two_by_two_apart" iB f12)
  (P13:iE K "two_with" "two_with" pS f13)
  (P14:iE K "det" "det" aF7 f14)
  (P15:iE K "without" "without" oX f15)
  (P16:iE K "measure" "measure" oY f16)
  (P17:iE K "root_sums" "root_sums" kY f17)
  (P18:iE K "mod_poly" "mod_poly" mW f18)
  (P19:iE K "mod_parted" "mod_parted" mI f19)
  (P20:iE K "scaled" "scaled" rW f20)
  (P21:iE K "inverse_of" "inverse_of" mJ f21)
  (P22:iE K "split_by" "split_by" pT f22)
  (P23:iE K "lines_out" "lines_out" nO f23)
  (P24:iE K "rootless_parts" "rootless_parts" i4 f24)
  (P25:iE K "two_by_two" "two_by_two_split" iC f25)
  (P26:iE K "papers_of" "papers_of" kZ f26)
  (P27:iE K "parts_at" "parts_at" mY f27)
  (P28:iE K "outside_of" "outside_of" kB f28)
  (P29:iE K "need_together" "need_together" gO f29)
  (P30:iE K "need_whole" "need_whole" iD f30)
  (P31:iE K "_law_cell" "_law_cell" bI4 f31)
  (P32:iE K "_law_mixed" "_law_mixed" aV9 f32)
  (P33:iE K "_law_draws" "_law_draws" aW0 f33)
  (P34:iE K "_law_shifted" "_law_shifted" zU f34)
  (P35:iE K "_law_value" "_law_value" aW1 f35)
  (P36:iE K "_law_whole" "_law_whole" aW2 f36)
  (P37:iE K "_law_row" "_law_row" bT2 f37)
  (P38:iE K "_law_times" "_law_times" aW3 f38)
  (P39:iE K "_law_table" "_law_table" b81 f39)
  (P40:iE K "_law_det" "_law_det" aO8 f40)
  (P41:iE K "_law_falls" "_law_falls" aF8 f41)
  (P42:iE K "_law_closed" "_law_closed" aD8 f42)
  (P43:iE K "_law_square_lacks" "_law_square_lacks" kC f43)
  (P44:iE K "_law_lacks" "_law_lacks" a64 f44)
  (P45:iE K "_law_own" "_law_own" cB2 f45)
  (P46:iE K "_law_whole_by" "_law_whole_by" wG f46)
  (P47:iE K "_law_drawn" "_law_drawn" xK f47)
  (P48:iE K "_law_outcome" "_law_outcome" zV f48)
  (P49:iE K "_law_shown" "_law_shown" xL f49)
  (P50:iE K "law" "law" aW6 f50)
  (jU:nsIn K mainGlobals "NotWhole"=some (some<|.ref bG))
  (i6:nsIn K mainGlobals "FallsApart"=some (some<|.ref bF))
  (jV:nsIn K mainGlobals "TooGreat"=some (some<|.ref eC))
  (bK4:nsIn K mainGlobals "Ring"=some (some<|.ref rZ))
  (b47:PySem.W.findIn K (.ref bG) "__init__"=some (some<|.ref iF))
  (aI5:PySem.W.findIn K (.ref bF) "__init__"=some (some<|.ref fV))
  (c20:PySem.W.findIn K (.ref rZ) "__init__"=some (some<|.ref aX7))
  (aP6:K.lookup iF=some ⟨.type "function",cC6,.func<|fnOf "__init__" "NotWhole.__init__" (jX wK) (eX wK) (aG wK) .none cC9 cD0 cD1 cC7 b46 cD2,cC8⟩)
  (a74:K.lookup fV=some ⟨.type "function",bM8,.func<|fnOf "__init__" "FallsApart.__init__" (jX pW) (eX pW) (aG pW) .none bN1 bN2 bN3 bM9 aI4 bN4,bN0⟩)
  (cL2:K.lookup aX7=some ⟨dS5,dR8,.func<|fnOf "__init__" "Ring.__init__" (jX aD9) (eX aD9) (aG aD9) .none dS1 dS2 dS3 dR9 cR9 dS4,dS0⟩)
  (aE5:codeIn K b46 "NotWhole.__init__"=true)
  (aE6:keepIn K (.ref iF)=true)
  (yP:codeIn K aI4 "FallsApart.__init__"=true)
  (yQ:keepIn K (.ref fV)=true)
  (c21:codeIn K cR9 "Ring.__init__"=true)
  (c22:keepIn K (.ref aX7)=true)
  (j9:wW K bG iF [.type "ValueError",.type "Exception",.type "BaseException",.type "object"] "ValueError.__new__"=true)
  (iS:wW K bF fV [.type "ValueError",.type "Exception",.type "BaseException",.type "object"] "ValueError.__new__"=true)
  (jW:excIn K eC [.type "ValueError",.type "Exception",.type "BaseException",.type "object"] "ValueError.__new__"=true)
  (mQ:PySem.W.clsIn K bG=some sA)
  (sF:PySem.W.clsIn K bF=some u9)
  (xP:PySem.W.clsIn K eC=some aP5)
  (se_NotWhole:(sA).mro.contains (.ref bG)=true)
  (se_FallsApart:(u9).mro.contains (.ref bF)=true)
  (se_TooGreat:(aP5).mro.contains (.ref eC)=true)
  (nu_FallsApart_TooGreat:(aP5).mro.contains (.ref bF)=false)
  (nu_FallsApart_NotWhole:(sA).mro.contains (.ref bF)=false)
  (nu_TooGreat_NotWhole:(sA).mro.contains (.ref eC)=false)
  (kg_NotWhole:PySem.W.findIn K (.ref bG) "__getattribute__"=some (some<|.builtin "BaseException.__getattribute__"))
  (kh_NotWhole:PySem.W.findIn K (.ref bG) "__getattr__"=some none)
  (ka_NotWhole:PySem.W.findIn K (.ref bG) "__class__"=some (some<|.builtin "object.__class__"))
  (kn_NotWhole:PySem.W.specialIn K (.builtin "object.__class__") "__get__"=some (some<|.builtin "getset_descriptor.__get__"))
  (kt_NotWhole:PySem.W.takesIn K (.builtin "object.__class__")=some true)
  (km_NotWhole:PySem.W.mroIn K bG (.type "object")=some true)
  (kb_NotWhole:PySem.W.mroIn K bG (.type "BaseException")=some true)
  (kd_NotWhole:PySem.W.hasDictIn K bG=true)
  (aE7:vK (sA).mro=true)
  (aE8:(sA).hasDict=true)
  (aE9:PySem.W.findIn K (.ref bG) "__setattr__"=some (some<|.builtin "object.__setattr__"))
  (xQ:PySem.W.findIn K (.ref bG) "prime"=some none)
  (xR:PySem.W.findIn K (.ref bG) "number"=some none)
  (yR:vK (u9).mro=true)
  (yS:(u9).hasDict=true)
  (yT:PySem.W.findIn K (.ref bF) "__setattr__"=some (some<|.builtin "object.__setattr__"))
  (yU:PySem.W.findIn K (.ref bF) "left"=some none)
  (yV:PySem.W.findIn K (.ref bF) "right"=some none)
  (mk_Ring:makesIn K rZ=true)
  (fn_Ring:PySem.W.isFn K (.ref aX7)=true)
  (kc_Ring:keepIn K (.ref rZ)=true)
  (pg_Ring:plainGet K rZ Str.empty=true)
  (c23:PySem.W.hasDictIn K rZ=true)
  (po_Ring:plainOver K rZ=true)
  (c24:PySem.W.findIn K (.ref rZ) "__setattr__"=some (some<|.builtin "object.__setattr__"))
  (c25:PySem.W.findIn K (.ref rZ) "poly"=some none)
  (b25:PySem.W.findIn K (.ref rZ) "degree"=some none)
  (aP7:PySem.W.findIn K (.ref rZ) "measure"=some none)
  (dF9:nsIn K mainGlobals "len"=some none)
  (dG0:nsIn K mainGlobals "all"=some none)
  (dG1:nsIn K mainGlobals "abs"=some none)
  (dG2:nsIn K mainGlobals "max"=some none)
  (cL3:nsIn K mainGlobals "list"=some none)
  (aP8:nsIn K mainGlobals "reversed"=some none)
  (c26:nsIn K mainGlobals "range"=some none)
  (aF0:nsIn K mainGlobals "enumerate"=some none)
  (c27:nsIn K mainGlobals "tuple"=some none)
  (dG3:nsIn K mainGlobals "sum"=some none)
  (dG4:nsIn K mainGlobals "min"=some none)
  (bK5:nsIn K mainGlobals "sorted"=some none)
  (a75:nsIn K mainGlobals "isinstance"=some none)
  (dG5:nsIn K mainGlobals "int"=some none)
  (cL4:nsIn K mainGlobals "bool"=some none)
  (dG6:nsIn K mainGlobals "any"=some none)
  (i5:nsIn K mainGlobals "GREATEST_PLACE"=some (some<|.int 499 rX))
  (gD:nsIn K mainGlobals "GREATEST_MEASURE"=some (some<|.int 39999 oR))
  (j8:nsIn K mainGlobals "SMALL_PRIMES"=some (some<|.ref kE))
  (tL:K.lookup kE=some ⟨.type "tuple",b66,.seq b24 n_SMALL_PRIMES,b67⟩)
  (tM:b24.size<=sizeLine)
  (tN:Vals (T_SMALL_PRIMES.map V.int) b24.toList) :
  ∃fd:FuncData,(∀(s:Shared) (v:Value),BindsTo s fd ⟨[v],[]⟩ [("_law_script",v)])/\ ∀base:Heap,K.In base->base.Ns mainGlobals mg->wS l.prog w K mg base CX0 13 fa fd ["_law_script"] (spP K bO8):=by
 have h14:=P14.choose_spec;have h40:=P40.choose_spec;have h50:=P50.choose_spec;have e:=hfa.symm.trans (dJ X G h50.1);cases e;have Z:Zs mg:=⟨fK X G dF9,fK X G dG0,fK X G dG1,fK X G dG2,fK X G cL3,fK X G aP8,fK X G c26,fK X G aF0,fK X G c27,fK X G dG3,fK X G dG4,fK X G bK5,fK X G a75,fK X G dG5,fK X G cL4,fK X G dG6⟩;have i5:=dJ X G i5;have gD:=dJ X G gD;have j8:=dJ X G j8
 have wL:KT K kE (T_SMALL_PRIMES.map V.int):=kt_of tL tM tN;have jU:=dJ X G jU;have i6:=dJ X G i6;have jV:=dJ X G jV;have bK4:=dJ X G bK4;have wO:bL1 K bG iF _ "prime" "number":=cN3 (st:=wK) (x0:="self") (x1:="prime") (x2:="number") aP6 aE5 aE6 rfl cB7 rfl rfl rfl ac ac ac (λ_ _ _ _ _ _=>lN3 λ_ _ _=>rfl) mQ aE7 aE8 aE9 xQ xR
 have pY:bL1 K bF fV _ "left" "right":=cN3 (st:=pW) (x0:="self") (x1:="left") (x2:="right") a74 yP yQ rfl bM1 rfl rfl rfl ac ac ac (λ_ _ _ _ _ _=>lN3 λ_ _ _=>rfl) sF yR yS yT yU yV
 have KX_NotWhole:d67 K bG ["prime","number"]:=⟨⟨by rw[mQ];rfl,kg_NotWhole,kh_NotWhole,ka_NotWhole,kn_NotWhole,kt_NotWhole,km_NotWhole,kb_NotWhole⟩,kd_NotWhole,λf hf=>by
  simp only[bB,iZ,lU]at hf;rcases hf with rfl|rfl
  .exact xQ
  .exact xR⟩
 have U1_NotWhole:xX K bG bG bmV vN:=aZ4 (.inr ⟨_,j9⟩) mQ se_NotWhole;have U1_FallsApart:xX K bF bF bmV vN:=aZ4 (.inr ⟨_,iS⟩) sF se_FallsApart;have U1_TooGreat:xX K eC eC bmV vN:=aZ4 (.inl jW) xP se_TooGreat;have NB_FallsApart_TooGreat:m8 K bF eC bmV vN false:=⟨(.inl jW),_,xP,nu_FallsApart_TooGreat⟩;have NB_FallsApart_NotWhole:m8 K bF bG bmV vN false:=⟨(.inr ⟨_,j9⟩),_,mQ,nu_FallsApart_NotWhole⟩
 have NB_TooGreat_NotWhole:m8 K eC bG bmV vN false:=⟨(.inr ⟨_,j9⟩),_,mQ,nu_TooGreat_NotWhole⟩;have U14:=aY2 (st:=aF7) h14.2.1 h14.2.2.1 h14.2.2.2;have U40:=aY2 (st:=aO8) h40.2.1 h40.2.2.1 h40.2.2.2;have U50:=aY2 (st:=aW6) h50.2.1 h50.2.2.1 h50.2.2.2;have UR:=aY2 (st:=aD9) cL2 c21 c22
 refine⟨fnOf "law" "law" (jX aW6) (eX aW6) (aG aW6) .none P50.choose.kV P50.choose.dc P50.choose.pm P50.choose.an P50.choose.cd P50.choose.ct,λs v=> .of_eq rfl,λbase _ _=> ?_⟩
 have mB:= @fn_b l.prog w K mg base h X G;have mX:= @fnX_b l.prog w K mg base h X G;have rY:=mB P1 (by walk_at "b1") aW7 ag (λ_ _ _ _ _ _ hr=>aP1 Z i5 hr) aS1
 have dZ:=mB P2 (by walk_at "b1") aG4 ag (λ_ _ _ _ _ _ hr=>aE0 Z rY hr) aG1
 have a69:=mB P3 (by walk_at "b1") bI8 ag (λ_ _ _ _ _ _ hr=>cX3 Z hr) d82
 have aP3:=mB P4 ah cB5 ag (λ_ _ _ _ _ _ hr=>c07 Z hr) c77
 have d8:=mB P5 ah fF ag (λ_ _ _ _ _ _ hr=>aX3 Z a69 hr) aZ9
 have oZ:=mB P6 ah u8 ag (λ_ _ _ _ _ _ hr=>bM5 Z hr) aT1
 have bK1:=mB P7 (by walk_at "b1") zW ag (λ_ _ _ _ _ _ hr=>cK9 Z hr) cV6
 have iY:=mB P8 (by walk_at "b0") aW8 ag (λ_ _ _ _ _ _ hr=>aP2 Z j8 wL hr) aS9
 have n6:=mB P10 (by walk_at "b1") yH ag (λ_ _ _ _ _ _ hr=>bJ6 Z hr) bL5
 have pX:=mB P11 (by walk_at "b1") oP ag (λ_ _ _ _ _ _ hr=>aG6 Z n6 oZ d8 hr) aN6
 have a70:=mB P13 ah yI ag (λ_ _ _ _ _ _ hr=>bJ7 Z bK1 hr) bL6
 have mM:=mB P12 (by walk_at "b1") gU ag (λ_ _ _ _ _ _ hr=>a67 Z n6 a70 hr) a88
 have b21:=mB P9 (by walk_at "b1") aO9 ag (λ_ _ _ _ _ _ hr=>cC3 Z dZ pX mM hr) cI5
 have pA:=mB P15 ah c04 ag (λ_ _ _ _ _ _ hr=>bM6 Z hr) bX4
 have cY5:Fn l.prog w K mg base "det" kA 1 (iA 0):=Fn.void U14 (dJ X G h14.1) (U14.binds (ps:=kA)<|by walk_at "b1") cH8
 have cY6:Fn l.prog w K mg base "det" kA 2 (iA 1):=Fn.mk' U14 (dJ X G h14.1) (U14.binds (ps:=kA)<|by walk_at "b1") pU (aF3 _) (λcdv A outer s H E hr=>aF9 Z ac cY5 pA hr) (aS0 0 ac)
 have cY7:Fn l.prog w K mg base "det" kA 3 (iA 2):=Fn.mk' U14 (dJ X G h14.1) (U14.binds (ps:=kA)<|by walk_at "b1") pU (aF3 _) (λcdv A outer s H E hr=>aF9 Z ac cY6 pA hr) (aS0 1 ac)
 have cY8:Fn l.prog w K mg base "det" kA 4 (iA 3):=Fn.mk' U14 (dJ X G h14.1) (U14.binds (ps:=kA)<|by walk_at "b1") pU (aF3 _) (λcdv A outer s H E hr=>aF9 Z ac cY7 pA hr) (aS0 2 ac)
 have cY9:Fn l.prog w K mg base "det" kA 5 (iA 4):=Fn.mk' U14 (dJ X G h14.1) (U14.binds (ps:=kA)<|by walk_at "b1") pU (aF3 _) (λcdv A outer s H E hr=>aF9 Z ac cY8 pA hr) (aS0 3 ac)
 have aX6:=cY9;have yL:=mB P17 ah kD ag (λ_ _ _ _ _ _ hr=>b63 Z hr) bC0
 have aE4:=mB P16 (by walk_at "b1") a65 ag (λ_ _ _ _ _ _ hr=>bM7 Z dZ yL aX6 hr) bX5
 have gP:=mB P18 ah bL9 ag (λ_ _ _ _ _ _ hr=>bJ8 Z a69 hr) bL2
 have wM:=mB P21 ah nU ag (λ_ _ _ _ _ _ hr=>b18 Z hr) b53
 have a71:=mB P20 (by walk_at "b3") cB6 ag (λ_ _ _ _ _ _ hr=>c08 Z gP hr) c67
 have wN:=mB P19 (by walk_at "b3") kX ag (λ_ _ _ _ _ _ hr=>b17 Z gP wM d8 a71 hr) b54
 have yM:=mB P23 ah j6 ag (λ_ _ _ _ _ _ hr=>b64 Z oZ wN hr) bD1
 have mO:=mB P25 ah fS ag (λ_ _ _ _ _ _ hr=>a68 Z hr) a90
 have oQ:=mB P24 ah tX ag (λ_ _ _ _ _ _ hr=>aE1 Z mO hr) aG2
 have a73:=mB P22 ah yJ ag (λ_ _ _ _ _ _ hr=>bJ9 Z iY yM gP oQ hr) bL3
 have a72:=mB P27 ah bM0 ag (λ_ _ _ _ _ _ hr=>bK0 Z a73 d8 hr) bL4
 have yO:=mB P26 ah bI9 ag (λ_ _ _ _ _ _ hr=>b65 Z iY a72 hr) bD3
 have wP:=mB P28 ah jF ag (λ_ _ _ _ _ _ hr=>b19 Z d8 hr) b56
 have oS:=mX P29 (by walk_at "b1") wH rfl aC0 (λ_ _ _ _ _ _ hr=>aE2 Z i6 iS pY b21 hr) aG3
 have tK:=mX P30 ah nV rfl aT4 (λ_ _ _ _ _ _ hr=>aX4 Z jU j9 wO wP yO aP3 hr) b07
 have cL1:=mB P31 ah dR2 ag (λ_ _ _ _ _ _ hr=>dF6 Z hr) dN1
 have c12:=mB P32 (by walk_at "b3") bJ0 ag (λ_ _ _ _ _ _ hr=>cX4 Z hr) d70
 have b83:=mB P33 (by walk_at "b3") zX ag (λ_ _ _ _ _ _ hr=>cX5 Z c12 hr) d71
 have b22:=mB P34 ah a66 ag (λ_ _ _ _ _ _ hr=>cC4 Z hr) cI6
 have xO:=mB P35 ah aW9 ag (λ_ _ _ _ _ _ hr=>cX6 Z hr) dC5
 have sE:=mB P36 (by walk_at "b1") dE5 ag (λ_ _ _ _ _ _ hr=>cX7 Z hr) d75
 have bT5:=mB P37 ah sc_row ag (λ_ _ _ _ _ _ hr=>dR5 Z sE hr) rd_row
 have c13:=mB P38 (by walk_at "b3") sV ag (λ_ _ _ _ _ _ hr=>cX8 Z hr) d99
 have c14:=mB P39 ah wI ag (λ_ _ _ _ _ _ hr=>cX9 Z c13 hr) dA4
 have dG7:Fn l.prog w K mg base "_law_det" mZ 1 (jZ 0):=Fn.void U40 (dJ X G h40.1) (U40.binds (ps:=mZ)<|by walk_at "b1") cW3
 have dG8:Fn l.prog w K mg base "_law_det" mZ 2 (jZ 1):=Fn.mk' U40 (dJ X G h40.1) (U40.binds (ps:=mZ)<|by walk_at "b1") xM (aT8 _) (λcdv A outer s H E hr=>aX5 Z ac dG7 hr) (b80 0 ac)
 have dG9:Fn l.prog w K mg base "_law_det" mZ 3 (jZ 2):=Fn.mk' U40 (dJ X G h40.1) (U40.binds (ps:=mZ)<|by walk_at "b1") xM (aT8 _) (λcdv A outer s H E hr=>aX5 Z ac dG8 hr) (b80 1 ac)
 have dH0:Fn l.prog w K mg base "_law_det" mZ 4 (jZ 3):=Fn.mk' U40 (dJ X G h40.1) (U40.binds (ps:=mZ)<|by walk_at "b1") xM (aT8 _) (λcdv A outer s H E hr=>aX5 Z ac dG9 hr) (b80 2 ac)
 have dH1:Fn l.prog w K mg base "_law_det" mZ 5 (jZ 4):=Fn.mk' U40 (dJ X G h40.1) (U40.binds (ps:=mZ)<|by walk_at "b1") xM (aT8 _) (λcdv A outer s H E hr=>aX5 Z ac dH0 hr) (b80 3 ac)
 have bK2:=dH1;have c17:=mB P41 (by walk_at "b1") pV ag (λ_ _ _ _ _ _ hr=>cY0 Z xO hr) dC6
 have bK3:=mB P42 (by walk_at "b1") iX ag (λ_ _ _ _ _ _ hr=>cL0 Z hr) cW8
 have wQ:=mB P43 ah gR ag (λ_ _ _ _ _ _ hr=>b20 Z hr) b58
 have c18:=mB P44 ah aX0 ag (λ_ _ _ _ _ _ hr=>cY1 Z xO wQ hr) dD4
 have dF8:=mB P45 ah tI ag (λ_ _ _ _ _ _ hr=>dR6 Z c14 bK2 hr) rd_own
 have aP4:=mB P46 (by walk_at "b3") sW ag (λ_ _ _ _ _ _ hr=>c09 Z dF8 hr) c98
 have c16:=mB P47 (by walk_at "b1") wJ ag (λ_ _ _ _ _ _ hr=>cY2 Z b83 hr) dD6
 have okR:OkC K rZ ["poly","degree","measure"]:=⟨⟨pg_Ring,c23,po_Ring,c24⟩,λf hf=>by
  simp only[bB,iZ,lU]at hf;rcases hf with rfl|rfl|rfl
  .exact c25
  .exact b25
  .exact aP7⟩
 have fR:=d66 UR cR8 okR ac ac ac cV8 ac (λcdv A outer s H E hr=>cY4 Z gD jV jW dZ aE4 oS tK hr) d98
 have bR:=UR.binds (ps:=["self","poly"]) λ_ _ _ _ _ _ us hl=>match us,hl with| [_,_],_=>rfl
 have c15:MkX l.prog w K mg base "Ring" 10 ["poly","degree","measure"] aC1:=⟨rZ,aX7,_,["self","poly"],Mk.mk mk_Ring c20 fn_Ring kc_Ring,okR,fR,bR,bK4⟩;have b23:=mB P48 (by walk_at "b1") j7 ag (λ_ _ _ _ _ _ hr=>cC5 Z jU j9 wO i6 iS pY jV jW KX_NotWhole U1_NotWhole U1_FallsApart U1_TooGreat NB_FallsApart_TooGreat NB_FallsApart_NotWhole NB_TooGreat_NotWhole c15 hr) cK4
 have c19:=mB P49 ah bJ1 ag (λ_ _ _ _ _ _ hr=>cY3 Z sE bT5 aP4 hr) dD8
 exact bV6 U50 tJ dN3 (λcdv A outer s H E hr=>⟨c01,dR7 Z c16 cL1 b22 bK3 b23 c17 c18 c19 bT5 sE hr,rd_law⟩)
end M
open PySem PySem.W PyProof.Rows
local macro_rules| `(tactic| walk_at "f")=> `(tactic| (refine' M.fnAt ?x1 ?x2 ?x3 ?x4;(case x1=>k_is);(case x2=>k_is);(case x3=>k_is);(case x4=>k_is)))
namespace PySem.W.Fast
def tw2211321364093951682:=()
def tw5167613940146617326:=()
def tw13546222386201647940:=()
def tw16409791407798459866:=()
def tw2845227176741643411:=()
def tw10239111695108029046:=()
def tw18174701840006170803:=()
def tw1512521146260789281:=()
def tw17805603745555410244:=()
def tw17774113414486476657:=()
def tw4127522803185954418:=()
def tw10198129807761362942:=()
def tw4169411988664748742:=()
def tw9384932385793004501:=()
def tw7565254159414592598:=()
def tw18267768697811337690:=()
def tw9605220644606136499:=()
def tw4941556161294937550:=()
def tw18029454131225262152:=()
def tw10121571949928127375:=()
def tw5905662519489157757:=()
def tw13089886322799782174:=()
def tw14736869944135240810:=()
def tw12867392299710900039:=()
def tw1531347016940157060:=()
def tw2965931709524378371:=()
def tw9716031807601257140:=()
def tw15359417271839277341:=()
def tw1575465991186125474:=()
def tw3059993168683275743:=()
def tw5919346937009292485:=()
def tw2746217440922679378:=()
def tw7859990874750295052:=()
def tw15847440016031908159:=()
def tw9501080544318286670:=()
def tw4664069190869313722:=()
def tw18291121173270069731:=()
def tw1936945227391604368:=()
def tw12497823943508946016:=()
def tw11484558445310703504:=()
def tw10367018160340840180:=()
def tw8560410267970003288:=()
def tw15156834529016866369:=()
def tw16471269873966801651:=()
def tw5809730141899839652:=()
def tw7889684237352008411:=()
def tw138250660441351491:=()
def tw2385688624121481221:=()
def tw12429946373898189138:=()
def tw3039053784936279658:=()
def tw15050140282837027183:=()
def tw918423254801395952:=()
def tw16668535725821594342:=()
def tw9372084304782837244:=()
def tw15809146073423972776:=()
def tw15653574455720247050:=()
def tw5801947450873226412:=()
def tw27556110837524852:=()
def tw11487100431115823343:=()
def tw675322291736297254:=()
def tw13133319406270513858:=()
def tw2264840311675009525:=()
def tw4261355454295689975:=()
def tw261553661767098467:=()
def tw2510826717278527184:=()
def tw11385356999101512185:=()
def tw492757825826190534:=()
def tw8799985052999197773:=()
def tw17925959110817809007:=()
def tw12236599153209423352:=()
def tw8328496776824596028:=()
def tw8030093941871039835:=()
def tw9264224800521560716:=()
def tw9865993751226527902:=()
def tw7021952294193525463:=()
def tw12322485315460993353:=()
def tw10900634398767925546:=()
def tw15428303559199542239:=()
def tw1896118947763339033:=()
def tw11347965535023210325:=()
def tw619949619170560653:=()
def tw3906298725858168963:=()
def tw16892139090154782761:=()
def tw15789611080313171965:=()
def tw14768499566814590324:=()
def tw4423240761898106834:=()
def tw2246818633466455956:=()
def tw5419787825039249617:=()
def tw9330059100699421755:=()
def tw11486418107251960023:=()
def tw4511480046200124656:=()
def tw18432380862480125528:=()
def tw15688493455182750186:=()
def tw2216681908350313551:=()
def tw7802017490365085390:=()
def tw14750258106870047157:=()
def tw94536854272167722:=()
def tw16138722999648734590:=()
def tw13524052668144233753:=()
def tw13805114829914040930:=()
def tw13099497704958524529:=()
def tw9701493091641037594:=()
def tw18194154014976608885:=()
def tw1344509891888921940:=()
def tw8263781787579268081:=()
def tw14880505928569221508:=()
def tw7748093051583998165:=()
def tw13340049158336209610:=()
def tw7911064922748251999:=()
def tw6290206216721977466:=()
def tw6115149034885768357:=()
def tw867694632529816918:=()
def tw10050871489073915101:=()
def tw13247596573875173957:=()
def tw2694607222583140430:=()
def tw2956337737609367542:=()
def tw6236806543843361652:=()
def tw11893801002183291037:=()
def tw14800822235578928896:=()
def tw3494247214814848785:=()
def tw8918271818019044144:=()
def tw11723731889545592267:=()
def tw15602423126464436329:=()
def tw11327615753749576125:=()
def tw15807444888570759783:=()
def tw1003221161136289838:=()
def tw3166904823150547288:=()
def tw15832641755481379514:=()
def tw16816042423424208207:=()
def tw10718985473534657205:=()
def tw4211720918343904385:=()
def tw16585442149288866967:=()
def tw8631539174380465652:=()
def tw9175525775982455198:=()
def tw3160049449389335941:=()
def tw2012182274728641389:=()
def tw5631426696220488099:=()
def tw8940132795477146725:=()
def tw4079333911923591738:=()
def tw8776962146387439921:=()
def tw9849429910164975677:=()
def tw14282699771965383541:=()
def tw1827260440865779470:=()
def tw10716570833224620579:=()
def tw15341905101194420447:=()
def tw18283700836106285035:=()
def tw17823587079720480854:=()
def tw84224812482658847:=()
def tw14227974340631220897:=()
def tw4573521936161299683:=()
end PySem.W.Fast
set_option maxRecDepth 100000 in
set_option maxHeartbeats 0 in
theorem PySem.Challenge.cw_ringhouse_k16_whole_verdicts_holds : PySem.Challenge.rw_ringhouse_k16_whole_verdicts.Holds := by
 w_on;o_law;k_head;(case hw=>w_witness2)
 k_fill
 refine M.walkM (l:=PySem.Challenge.rw_ringhouse_k16_whole_verdicts) (k:=13) (x:="_law_script") rfl rfl ⟨rfl,ac,ac⟩ (λw h Y=>PySem.W.kIn_of Y) ?F
 case F=>
  intro w mg fa h KX G hmg
  refine' M.all_mk KX G hmg ?P1 ?P2 ?P3 ?P4 ?P5 ?P6 ?P7 ?P8 ?P9 ?P10 ?P11 ?P12 ?P13 ?P14 ?P15 ?P16 ?P17 ?P18 ?P19 ?P20 ?P21 ?P22 ?P23 ?P24 ?P25 ?P26 ?P27 ?P28 ?P29 ?P30 ?P31 ?P32 ?P33 ?P34 ?P35 ?P36 ?P37 ?P38 ?P39 ?P40 ?P41 ?P42 ?P43 ?P44 ?P45 ?P46 ?P47 ?P48 ?P49 ?P50 ?jU ?i6 ?jV ?bK4 ?b47 ?aI5 ?c20 ?aP6 ?a74 ?cL2 ?aE5 ?aE6 ?yP ?yQ ?c21 ?c22 ?j9 ?iS ?jW ?mQ ?sF ?xP ?se_NotWhole ?se_FallsApart ?se_TooGreat ?nu_FallsApart_TooGreat ?nu_FallsApart_NotWhole ?nu_TooGreat_NotWhole ?kg_NotWhole ?kh_NotWhole ?ka_NotWhole ?kn_NotWhole ?kt_NotWhole ?km_NotWhole ?kb_NotWhole ?kd_NotWhole ?aE7 ?aE8 ?aE9 ?xQ ?xR ?yR ?yS ?yT ?yU ?yV ?mk_Ring ?fn_Ring ?kc_Ring ?pg_Ring ?c23 ?po_Ring ?c24 ?c25 ?b25 ?aP7 ?dF9 ?dG0 ?dG1 ?dG2 ?cL3 ?aP8 ?c26 ?aF0 ?c27 ?dG3 ?dG4 ?bK5 ?a75 ?dG5 ?cL4 ?dG6 ?i5 ?gD ?j8 ?tL ?tM ?tN
  (case P1|P2|P3|P4|P5|P6|P7|P8|P9|P10|P11|P12|P13|P14|P15|P16|P17|P18|P19|P20|P21|P22|P23|P24|P25|P26|P27|P28|P29|P30|P31|P32|P33|P34|P35|P36|P37|P38|P39|P40|P41|P42|P43|P44|P45|P46|P47|P48|P49|P50=>walk_at "f");(case jU|i6|jV|bK4|b47|aI5|c20|aP6|a74|cL2|aE5|aE6|yP|yQ|c21|c22|mQ|sF|xP|kg_NotWhole|kh_NotWhole|ka_NotWhole|kn_NotWhole|kt_NotWhole|km_NotWhole|kb_NotWhole|kd_NotWhole|aE9|xQ|xR|yT|yU|yV|mk_Ring|fn_Ring|kc_Ring|pg_Ring|c23|po_Ring|c24|c25|b25|aP7|dF9|dG0|dG1|dG2|cL3|aP8|c26|aF0|c27|dG3|dG4|bK5|a75|dG5|cL4|dG6|i5|gD|j8|tL=>k_is);(case j9|iS=>first|kernel_rfl|rfl);(case jW=>k_exc);(case se_NotWhole|se_FallsApart|se_TooGreat|nu_FallsApart_TooGreat|nu_FallsApart_NotWhole|nu_TooGreat_NotWhole|aE7|aE8|yR|yS=>first|kernel_rfl|rfl|decide);(case tM=>first|decide| (trace_state;decide +kernel));(case tN=>first| (show L2.Vals (List.map _ _) (List.toList _);simp only[M.T_SMALL_PRIMES,List.map];repeat (first|exact .nil|refine .cons (.int _ _) ?_))| (repeat constructor)|trace_state)
