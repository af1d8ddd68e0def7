import PyProof.Rows.All
import Wide.All
import OpenK.AllK
import Wide.FinOn
import Lean
import PyProof.EqAt
import PyProof.EqKinds
import PyProof.TupleCall
import PySem.Challenge.RW_ringhouse_k09_split_known
set_option Elab.async false
set_option linter.all false
open PySem.W (instObj methodObj lookIn emptyDict keepIn fnOf codeIn excIn nsIn kitOne)
open List (replicate all_cons any_cons foldl nodup_nil map_drop Nodup)
open Nat (le_of_eq add_comm sub_zero mul_succ)
open Int (add_mul dvd_add)
open PySem.Heap (SameBut ExtBut FlyingW HeldW)
open Option (getD_none bind_some)
open Array (toList)
set_option maxRecDepth 100000
set_option compiler.extract_closed false
set_option bootstrap.genMatcherCode false
local macro_rules | `(tactic| walk_at "z") => `(tactic| first|exact .inl rfl|exact .inr rfl|assumption)
def aa{p:Prop}(h:p:=by omega):p:=h
def ac{p:Prop}(h:p:=by decide):p:=h
def ad{p:Prop}(h:p:=by lia):p:=h
def ae{p:Prop}(h:p:=by simp):p:=h
def af{p:Prop}(h:p:=by decide +kernel):p:=h
def al{p:Prop}(h:p:=by rfl):p:=h
local macro_rules|`(↥$t)=>`(autoParam $t al._auto_1)|`(⇑$t)=>`(autoParam $t ac._auto_1)
local macro_rules|`(nonrec def $i:declId $s:optDeclSig $v:declVal)=>`(noncomputable def $i:declId $s:optDeclSig $v:declVal)
local macro_rules|`($x∩$e $s*)=>`(PySem.wpAny (PySem.model ($x).prog ($x).w) ($x).A $e $s*)
local macro_rules|`($x∪0)=>`(($x==("__debug__":PySem.Str))=false)
local macro_rules|`({$q:ident with})=>`({nx:=λ_=>$q (.pu .non),rt:=$q})
local macro_rules|`(@$n:num)=>`($(Lean.mkIdent `M.uC) (.int $n))
local macro_rules|`($f<$>$x:ident)=>`($f $x $(Lean.mkIdent `w) $(Lean.mkIdent `K) $(Lean.mkIdent `mg) $(Lean.mkIdent `base))|`($f<$>$g $s*)=>`($f $(Lean.mkIdent `P) $(Lean.mkIdent `w) $(Lean.mkIdent `K) $(Lean.mkIdent `mg) $(Lean.mkIdent `base) $g $s*)
local macro_rules|`(tactic|exists $t)=>`(tactic|simpa using $t)
local macro_rules|`(tactic|right)=>`(tactic|dsimp only)
def ag{p:Prop}(h:p:=by walk_at "n"):p:=h
def ah{p:Prop}(h:p:=by walk_at "b2"):p:=h
def a6:= @PySem.wpAny_bind
def aJ:= @PySem.Heap.get?_push_of_some
def aA:= @PySem.wpAny_pure
def a7:= @if_neg
def aC:= @Nat.le_refl
def a8:= @if_pos
def aL:= @List.mem_cons_self
def aW:= @List.getElem?_eq_getElem
def aG:= @List.mem_cons
def aK:= @List.length_map
def aU:= @List.mem_cons_of_mem
def aH:= @PySem.Heap.lt_size
def bI:= @List.getD_eq_getElem?_getD
def aY:= @PySem.Heap.get?_push_size
def aN:= @Nat.le_trans
def aZ:= @List.size_toArray
def aO:= @Nat.ne_of_lt
def b7:= @Nat.lt_of_lt_of_le
def b9:= @Int.emod_lt_of_pos
def bG:= @Bool.false_ne_true
def bB:= @Int.toNat_natCast
def bC:= @Int.emod_nonneg
def bH:= @List.mem_append
def bK:= @Bool.and_eq_true
def bP:= @List.getElem?_map
def aS:= @PySem.wpAny_mono
def cI:= @List.mem_append_right
def bR:= @Int.emod_eq_of_lt
def cQ:= @List.length_replicate
def dN:= @List.getElem?_eq_some_iff
def cE:= @List.length_append
def bS:= @List.map_append
def bL:= @Int.mul_zero
def cF:= @List.lookup_cons
def cR:= @PySem.W.mg_none_of
def bW:= @List.mem_range
def bT:= @Int.zero_emod
def cJ:= @List.all_eq_true
def bX:= @List.map_cons
def cW:= @Nat.lt_succ_of_lt
def cC:= @PySem.wpAny_holding
def gH:= @PyProof.Rows.callWith_type1
def cX:= @PySem.wpAny_call_entry
def cS:= @List.length_set
def cY:= @List.not_mem_nil
def eK:= @List.getElem?_eq_none
def fK:= @PySem.wpAny_callSpecial?_slot
def cD:= @Int.mul_emod
def bY:= @PySem.wpAny_field
nonrec def dC:= @decide_eq_false
def eM:= @List.replicate_succ
def dZ:= @PySem.wpAny_newObj_type
def dD:= @PySem.Heap.size_push
def cZ:= @Nat.lt_irrefl
def e6:= @Nat.zero_lt_succ
def e9:= @List.getElem_mem
def cT:= @Int.zero_add
def cK:= @Nat.zero_le
def eO:= @PySem.Heap.get?_push_ne
def bZ:= @And.right
def fL:= @PySem.Obj.data_mapFields
def fM:= @List.mem_singleton
def bQ:= @congrArg
def kD:= @Int.mul_le_mul_of_nonneg_left
def gI:= @PySem.Heap.SameBut.update
def i6:= @PySem.Heap.get?_update_self
def dE:= @Int.add_emod
def eQ:= @Option.some.inj
def gJ:= @List.pairwise_cons
def j8:= @Int.dvd_of_emod_eq_zero
def gK:= @List.length_cons
def dO:= @List.mem_map
def eR:= @decide_eq_true
def i7:= @List.filterMap_cons
def j9:= @Int.emod_add_mul_ediv
def gL:= @PySem.Heap.size_update
def i8:= @Nat.add_sub_cancel
def kE:= @Int.dvd_mul_of_dvd_left
def i9:= @List.flatten_cons
def cL:= @or_false
def iA:= @List.foldl_append
def jA:= @Array.length_toList
def eB:= @PySem.wpAny_of_eq
def fN:= @Bool.not_true
def fO:= @Int.emod_emod
def r8:= @PySem.F.slot_tuple_iterator_next
def gM:= @PySem.isSubtype_type
def kF:= @PySem.builtinLookup_eq_fast
def rA:= @PyProof.Rows.slot_tuple_getitem
def kG:= @PySem.Heap.get?_none_of_le
def kH:= @List.mem_append_left
def kI:= @List.getElem?_set_ne
def iB:= @List.append_nil
def iC:= @List.nodup_cons
def iD:= @PySem.codeAny_builtin
def fP:= @Int.add_zero
def fQ:= @Int.zero_mul
def fR:= @Int.pow_zero
def jB:= @PySem.wpAny_truthy_bool
def gN:= @PySem.wpAny_attempt
def gO:= @Int.mul_assoc
def nV:= @List.getElem?_replicate
def nW:= @List.getElem?_cons_succ
def nX:= @List.pairwise_singleton
def kJ:= @PySem.mem_of_lookup
def kK:= @PySem.Heap.get?_update_ne
def kL:= @Int.toNat_of_nonneg
def jC:= @Nat.lt_succ_self
def jD:= @List.length_drop
nonrec def dF:= @if_false
def iE:= @PySem.wpAny_seqItems
def iF:= @PySem.wpAny_setField
def vT:= @Int.emod_eq_emod_iff_emod_sub_eq_zero
def gP:= @Nat.ne_of_gt
def kM:= @PySem.wpAny_Call_Name_kw
def kN:= @PySem.wpAny_setField_rec
def kO:= @Bool.false_eq_true
def vU:= @PyProof.Rows.F.plain_set_update_loop
def kP:= @List.map_replicate
def kQ:= @List.mem_replicate
def jE:= @PySem.wpAny_execs_nil
def jF:= @PySem.wpAny_passesOwn
def nY:= @PySem.Obj.isFreed_of_fields
def rB:= @Int.add_mul_emod_self_left
def rC:= @List.getElem?_append_left
def rD:= @Decidable.byContradiction
def nZ:= @PySem.Around.under_plainId
def o7:= @List.pairwise_append
def jG:= @Bool.false_xor
def rE:= @Option.isSome_iff_exists
def eD:= @Prod.ext
def iG:= @List.map_nil
def rF:= @List.eq_of_mem_replicate
def o8:= @PyProof.Rows.call_isinstance_yes
def rG:= @decide_eq_false_iff_not
def jH:= @PySem.W.mg_of
def o9:= @PySem.W.of_hideAll
def kR:= @PySem.typeLookup_type
def gQ:= @PyProof.Rows.size_push'
def kS:= @List.length_nil
def rH:= @List.getElem?_set_self
def oA:= @PySem.wpAny_pyIter_list
def oB:= @PySem.wpAny_setState_of
def oC:= @decide_eq_true_eq
def jI:= @Nat.le_of_lt
def rJ:= @PySem.F.slot_zip_next
def rK:= @List.take_append_drop
def jJ:= @Int.sub_emod
def jK:= @Int.pow_succ
def oD:= @PySem.wpAny_askSetting
def oE:= @List.ext_getElem
def vV:= @List.getElem?_append_right
def kT:= @Bool.false_or
def vW:= @Int.fmod_eq_emod_of_nonneg
def vX:= @PySem.F.excBase_ValueError
def rL:= @Nat.mul_le_mul_left
def vY:= @List.getElem?_eq_none_iff
def oF:= @PyProof.Rows.get?_update_seq
def oG:= @PySem.PassesOwn.never
def vZ:= @Array.getElem?_eq_getElem
def oH:= @List.range_succ
def kU:= @PySem.codeAny_mono
def w4:= @PySem.F.args_tuple_add_2
def w6:= @PySem.AutoSeq1.wpAny_loadPart'
def rM:= @Nat.lt_of_le_of_lt
def kW:= @List.map_map
def fS:= @if_true
def jL:= @beq_iff_eq
def jM:= @PySem.wpAny_rule
def w8:= @PySem.F.entry_tuple_add
def wA:= @List.length_eq_zero_iff
def wB:= @List.getElem?_cons_zero
def wC:= @Int.emod_eq_zero_of_dvd
def rN:= @List.reverse_cons
def rO:= @PySem.Obj.cls_mapFields
def rP:= @bne_self_eq_false
def wE:= @PySem.wpAny_pyIter_rangeiter
def wF:= @PySem.W.cellsFrom_some
def wG:= @PySem.F.slot_tuple_add
def wH:= @PySem.Heap.get?_update_other
def eS:= @not_or
def wI:= @List.sum_replicate_nat
def oI:= @Bool.true_xor
def oJ:= @PySem.plainId_quiet
def oK:= @List.map_take
def oM:= @Nat.add_assoc
def rQ:= @PySem.wpAny_isInstance
def wJ:= @Array.getElem?_toList
def rR:= @List.mem_filter
def rS:= @Bool.eq_iff_iff
def wK:= @List.mem_of_getElem?
def oN:= @PySem.wpAny_typeOf
def wL:= @PySem.isinstance_false_int
def rT:= @List.forIn_cons
def wM:= @PySem.wpAny_updateSeq_pair
def rV:= @PySem.wpAny_specialOf
def wN:= @List.mem_of_mem_drop
def wO:= @PySem.codeAny_call_builtin
def rW:= @Option.map_some
def wP:= @beq_eq_false_iff_ne
def wQ:= @PySem.wpAny_setEntries_of
def rX:= @Nat.mul_le_mul
def oO:= @Nat.le_succ
def wR:= @List.mem_filterMap
def wS:= @PySem.Calls.spliced_cons
def rY:= @PySem.wpAny_standAt
def rZ:= @PySem.wpAny_onRaise
def sA:= @PySem.signature?_of
def sB:= @PyProof.Rows.listUpdate_at
def sC:= @Int.le_of_dvd
def wT:= @PySem.Calls.spliced_nil
def wU:= @PySem.wpAny_pyIter_slot
def wV:= @List.ext_getElem?
def wW:= @Bool.not_eq_true'
def wX:= @List.length_range
def wY:= @Int.lt_trichotomy
def wZ:= @of_decide_eq_true
def x6:= @List.flatMap_cons
def oP:= @PySem.intKind_is
def x8:= @PySem.wpAny_execs_cons
def x9:= @List.length_take
def xA:= @PySem.noFill_tuple_add
def sD:= @PySem.seqIndex_neg
def xB:= @List.isEmpty_nil
def sE:= @Int.mul_comm
def sF:= @Int.add_comm
def xC:= @List.of_mem_zip
def xD:= @PySem.pushCells_keeps
def xE:= @PySem.codeAny_of_tree
def xF:= @Nat.min_eq_left
def sG:= @Int.mul_one
def sH:= @PySem.seqIndex_of
def sI:= @Int.one_mul
def sJ:= @Int.mul_add
open PySem PySem.Spec PyProof.Rows
section
variable {us its os bmB:List Value}{a it f t C sl l l1 l2 I R:Addr}{P q:Program}{w:World}{h g base h':Heap}{o oe:Obj}{t' i j k n k' last kt slot ep:Nat}{ch fp:List Addr}{x qual y:Str}{e c tg iter elt:Expr}{N loose XN:List Str}{A:Around}{E Q:Value->Shared->Prop}{u v vl vu fl:Value}{s' s:Shared}{pos pos' tpos p cpos spos py tp:Pos}{pins:List (Addr×Obj)}{K:PySem.W.Frag}{st:Stmt}{es ifs elts:List Expr}{op:CmpOp}{body:List Stmt}{vs items xs:Array Value}{lo:Int}{hi:Option Int}{mg:Str->Option Value}{fd:FuncData}{outer:List Env}{scope:Scope}{YP:World->Heap->Prop}{φ:Φ}{T T1 T2 led:Bool}{cl:List (Str×Addr)}{cap:List (Option Nat)}{em:Value->Env->Sem Unit}{js ks:List Nat}{esc:List (Str×NameKind)}{newId initId:String}
namespace L2
abbrev Key:=Sum Int Str
nonrec def c42:Key->Value->Bool
 | .inl k,v=>Value.isInt k v
 | .inr x,v=>Value.isStrOf x v
nonrec def keyH (w:World):Key->Int
 | .inl k=>hashInt k
 | .inr x=>hashStr w x
theorem fB: ∀{k:Key} {v:Value},c42 k v=true->(∃i t,k=Sum.inl i/\v=Value.int i t)\/(∃x t,k=Sum.inr x/\v=Value.str x t)
 | .inl i,v,h=>by
  obtain⟨t,e⟩:=Value.isInt_shape h;exact .inl ⟨i,t,rfl,e⟩
 | .inr x,v,h=>by
  obtain⟨t,e⟩:=Value.isStrOf_shape h;exact .inr ⟨x,t,rfl,e⟩
theorem key_ll (a b:Int):decide ((Sum.inl a:Key)=Sum.inl b)=(a==b):=by
 by_cases e:a=b
 .subst e;simp
 .have h: ¬(Sum.inl a:Key)=Sum.inl b:=λq=>e (Sum.inl.inj q)
  rw[dC h];exact(wP.mpr e).symm
theorem key_rr (a b:Str):decide ((Sum.inr a:Key)=Sum.inr b)=decide (a=b):=by
 by_cases e:a=b
 .subst e;simp
 .have h: ¬(Sum.inr a:Key)=Sum.inr b:=λq=>e (Sum.inr.inj q)
  rw[dC h,dC e]
theorem key_lr (a:Int)(b:Str):decide ((Sum.inl a:Key)=Sum.inr b)=false:=dC (λq=>nomatch q)
theorem key_rl (a:Str)(b:Int):decide ((Sum.inr a:Key)=Sum.inl b)=false:=dC (λq=>nomatch q)
nonrec def b47 (prog:Program)(w:World):PySem.KeyKind prog w Key where
 is:=c42
 hash:=keyH w
 inj:=λv a b ha hb=>by
  rcases fB ha with⟨i,t,rfl,rfl⟩| ⟨x,t,rfl,rfl⟩
  .rcases fB hb with⟨j,u,rfl,e⟩| ⟨y,u,rfl,e⟩
   .injection e with e1 _;rw[e1]
   .exact nomatch e
  .rcases fB hb with⟨j,u,rfl,e⟩| ⟨y,u,rfl,e⟩
   .exact nomatch e
   .injection e with e1 _;rw[e1]
 byValue:=λk v h=>by
  rcases fB h with⟨i,t,rfl,rfl⟩| ⟨x,t,rfl,rfl⟩<;>rfl
 pyHash:=λhv h=>by
  rcases fB hv with⟨i,t,rfl,rfl⟩| ⟨x,t,rfl,rfl⟩
  .exact wpAny_pyHash_int h
  .exact wpAny_pyHash_str h
 eqBool:=λhu hv h=>by
  rcases fB hu with⟨i,t,rfl,rfl⟩| ⟨x,t,rfl,rfl⟩
  .rcases fB hv with⟨j,u,rfl,rfl⟩| ⟨y,u,rfl,rfl⟩
   .rw[key_ll]at h;exact wpAny_eqBool_int h
   .rw[key_lr]at h;exact SeqAt.EqAt.int_str i t y u _ _ _ _ h
  .rcases fB hv with⟨j,u,rfl,rfl⟩| ⟨y,u,rfl,rfl⟩
   .rw[key_rl]at h;exact SeqAt.EqAt.str_int x t j u _ _ _ _ h
   .rw[key_rr]at h;exact wpAny_eqBool_str h
 «strs» :=λk x t v h=>by
  rcases fB h with⟨i,u,rfl,e⟩| ⟨y,u,rfl,e⟩
  .exact nomatch e
  .injection e with e1 _
   subst e1;cases v<;>rfl
end L2
open L2
namespace L2
inductive V where
 | non|bl (b:Bool)|int (i:Int)|str (x:Str)|byt (b:Array UInt8)|flt (b:UInt64)|ref (a:Addr)|ty (n:String)
 deriving DecidableEq
def RelV:V->Value->Prop
 | .non,u=>u=Value.none
 | .bl b,u=>u=Value.bool b
 | .int i,u=> ∃t,u=Value.int i t
 | .str x,u=> ∃t,u=Value.str x t
 | .byt b,u=> ∃t,u=Value.bytes b t
 | .flt b,u=> ∃t,u=Value.float b t
 | .ref a,u=>u=Value.ref a
 | .ty n,u=>u=Value.type n
abbrev Vals:List V->List Value->Prop:=Paired RelV
theorem Vals.length {xs:List V}(r:Vals xs us):xs.length=us.length:=Paired.length r
theorem Vals.get: ∀{xs:List V} {us:List Value} {i:Nat} {x:V},Vals xs us->xs[i]? =some x-> ∃u,us[i]? =some u/\RelV x u
 | _,_,_,_,.nil,e=>by simp at e
 | _,_,0,_,.cons r _,e=>by simp at e;subst e;exact⟨_,rfl,r⟩
 | _,_,i+1,x,.cons _ t,e=>by
  obtain⟨u,h1,h2⟩:=Vals.get t (by exists e)
  exact⟨u,by simpa using h1,h2⟩
theorem Vals.set {x:V}{u:Value}(r:RelV x u): ∀{xs:List V} {us:List Value} (i:Nat),Vals xs us->Vals (xs.set i x) (us.set i u)
 | _,_,_,.nil=> .nil
 | _,_,0,.cons _ t=> .cons r t
 | _,_,i+1,.cons q t=> .cons q (Vals.set r i t)
theorem Vals.append: ∀{xs ys:List V} {us ws:List Value},Vals xs us->Vals ys ws->Vals (xs++ys) (us++ws)
 | _,_,_,_,.nil,s=>s
 | _,_,_,_,.cons r t,s=> .cons r (Vals.append t s)
theorem Vals.take: ∀{xs:List V} {us:List Value} (n:Nat),Vals xs us->Vals (xs.take n) (us.take n)
 | _,_,0,_=> .nil
 | _,_,_+1,.nil=> .nil
 | _,_,n+1,.cons r t=> .cons r (Vals.take n t)
theorem Vals.drop: ∀{xs:List V} {us:List Value} (n:Nat),Vals xs us->Vals (xs.drop n) (us.drop n)
 | _,_,0,r=>r
 | _,_,_+1,.nil=> .nil
 | _,_,n+1,.cons _ t=>Vals.drop n t
theorem Vals.none_of: ∀{xs:List V} {us:List Value} {i:Nat},Vals xs us->xs[i]? =none->us[i]? =none:=λ{xs us i} r e=>by
 have h1:=r.length;have h2:xs.length<=i:=vY.mp e;exact vY.mpr ad
def bU7:Option V->Option Value->Prop
 | some v,some u=>RelV v u
 | none,none=>True
 | _,_=>False
def KV {κ:Type}:List (κ×V)->List (κ×Value)->Prop:=Paired fun(p:κ×V) (q:κ×Value)=>p.1=q.1/\RelV p.2 q.2
nonrec def kV:Key->V
 | .inl i=> .int i
 | .inr x=> .str x
inductive HO where
 | lst (xs:List V)
 | tup (xs:List V)
 | dK (kvs:List (Key×V))|dT (kvs:List (List Key×V))
 | set (S:Int->Bool) (n:Nat)
 | ins (C dx:Addr) (fs:List (Str×V))
 | own (x:Addr)
 | xd (fs:List (Str×V))
 | met (f x:Addr)
 | rng (lo hi:Int)
 | frz (o:Obj) (u:HO)
 | tbl (ps:Array Value)
 | ext (φ:Heap->Prop)
abbrev Hp:=Addr->Option HO
nonrec def upd (H:Hp)(a:Addr)(o:HO):Hp:=λb=>if b=a then some o else H b
theorem jU {H:Hp}{o:HO}:upd H a o a=some o:=by unfold upd;rw[a8 rfl]
theorem cG {H:Hp}{b:Addr}{o:HO}(h:b≠a):upd H a o b=H b:=by unfold upd;rw[a7 h]
theorem eT {H:Hp}{b:Addr}{o:HO}(h:H a=some o)(h':H b=none):a≠b:=by
 intro e;subst e;rw[h]at h';cases h'
section
variable (P:Program)(w:World)
nonrec def nA (H:Hp)(h:Heap)(a:Addr):HO->Prop
 | .lst xs=>xs.length<=sizeLine/\ ∃(its:List Value) (n:Nat),Vals xs its/\h.get? a=some {cls:= .type "list",data:= .seq its.toArray n}
 | .tup xs=>xs.length<=sizeLine/\ ∃its:List Value,Vals xs its/\IsTup h a its.toArray
 | .dK kvs=>kvs.length<=sizeLine/\(a==sysModules)=false/\ ∃vs,KV kvs vs/\h.DictOf (b47 P w) a vs
 | .dT kvs=>kvs.length<=sizeLine/\(a==sysModules)=false/\ ∃xs:List (List Key×Addr×Value),
   Paired (fun(p:List Key×V) (q:List Key×Addr×Value)=>p.1=q.1/\H q.2.1=some (.tup<|p.1.map kV)/\RelV p.2 q.2.2) kvs xs/\
   ∃o es ep,h.get? a=some o/\o.ExactDict/\o.data= .dict es ep/\es.toList=xs.map (entryOfKey<|tupleKind<|b47 P w)/\(xs.map (·.1)).Nodup
 | .set S n=>h.SetOf (intKind P w) a S n
 | .ins C dx fs=>H dx=some (.own a)/\fs.length<=1000/\dx≠a/\h.get? a=some (instObj C dx)/\
   ∃mA,h.Ns1 dx mA/\(∀f,bU7 (fs.lookup f)<|mA f)/\PySem.Within mA (fs.map (·.1))
 | .own _=> ∃o,h.get? a=some o
 | .xd fs=> ∃mA,h.Ns1 a mA/\ ∀f,bU7 (fs.lookup f) (mA f)
 | .rng lo hi=> ∃t u v,h.get? a=some {cls:= .type "range",data:= .fields #[.int lo t,.int hi u,.int 1 v]}
 | .frz o u=>h.get? a=some o/\nA H h a u
 | .tbl ps=>h.get? a=some {cls:= .none,data:= .fields ps}
 | .met f x=>h.get? a=some (methodObj (.ref f)<|.ref x)
 | .ext φ=>φ h/\(∃o,h.get? a=some o)/\ ∀h1 h2:Heap,φ h1->(∀o,h1.get? a=some o->h2.get? a=some o)->φ h2
def HOk (H:Hp)(h:Heap):Prop:= ∀a o,H a=some o->nA P w H h a o
end
section
variable {P:Program}{w:World}{H H':Hp}{h h':Heap}{a:Addr}{o:HO}
theorem nA.lt (x:nA P w H h a o):a<h.objs.size:=by
 cases o with
 | lst xs=>obtain⟨_,_,_,_,e⟩:=x;exact aH e
 | tup xs=>obtain⟨_,_,_,p⟩:=x;exact p.lt
 | dK kvs=>obtain⟨_,_,_,_,o,_,_,e,_⟩:=x;exact aH e
 | dT kvs=>obtain⟨_,_,_,_,o,_,_,e,_⟩:=x;exact aH e
 | set S n=>obtain⟨o,_,_,_,e,_⟩:=x;exact aH e
 | ins C dx fs=>obtain⟨_,_,_,e,_⟩:=x;exact aH e
 | own y=>obtain⟨_,e⟩:=x;exact aH e
 | xd fs=>obtain⟨_,⟨_,_,_,e,_⟩,_⟩:=x;exact aH e
 | rng lo hi=>obtain⟨_,_,_,e⟩:=x;exact aH e
 | frz ob u=>obtain⟨e,_⟩:=x;exact aH e
 | tbl ps=>exact aH (show h.get? a=some _ from x)
 | met f y=>exact aH (show h.get? a=some _ from x)
 | ext φ=>obtain⟨_,⟨_,e⟩,_⟩:=x;exact aH e
theorem Paired.mapP {α β:Type}{F G:α->β->Prop}: ∀{l₁:List α} {l₂:List β},Paired F l₁ l₂->(∀a b,F a b->G a b)->Paired G l₁ l₂
 | _,_,.nil,_=> .nil
 | _,_,.cons r t,f=> .cons (f _ _ r) (Paired.mapP t f)
theorem nA.stay (x:nA P w H h a o)(k: ∀b u,(b=a\/H b=some (.own a))->h.get? b=some u->h'.get? b=some u)
  (ho: ∀b,H b=some (.own a)->H' b=some (.own a)) (ht: ∀b xs,H b=some (.tup xs)->H' b=some (.tup xs)):nA P w H' h' a o:=by
 induction o with
 | lst xs=>obtain⟨z,its,n,r,e⟩:=x;exact⟨z,its,n,r,k _ _ (.inl rfl) e⟩
 | tup xs=>obtain⟨z,its,r,ob,e,c⟩:=x;exact⟨z,its,r,ob,k _ _ (.inl rfl) e,c⟩
 | dK kvs=>obtain⟨z,y,vs,r,ob,es,ep,e,c⟩:=x;exact⟨z,y,vs,r,ob,es,ep,k _ _ (.inl rfl) e,c⟩
 | dT kvs=>
  obtain⟨z,y,xs,r,ob,es,ep,e,c⟩:=x;exact⟨z,y,xs,Paired.mapP r λp q z=>⟨z.1,ht _ _ z.2.1,z.2.2⟩,ob,es,ep,k _ _ (.inl rfl) e,c⟩
 | set S n=>obtain⟨ob,es,ep,t,e,c⟩:=x;exact⟨ob,es,ep,t,k _ _ (.inl rfl) e,c⟩
 | ins C dx fs=>
  obtain⟨d,z,ne,e,mA,⟨od,es,ep,e2,c⟩,r⟩:=x;exact⟨ho _ d,z,ne,k _ _ (.inl rfl) e,mA,⟨od,es,ep,k _ _ (.inr d) e2,c⟩,r⟩
 | own y=>obtain⟨ob,e⟩:=x;exact⟨ob,k _ _ (.inl rfl) e⟩
 | xd fs=>obtain⟨mA,⟨od,es,ep,e,c⟩,r⟩:=x;exact⟨mA,⟨od,es,ep,k _ _ (.inl rfl) e,c⟩,r⟩
 | rng lo hi=>obtain⟨t,u,v,e⟩:=x;exact⟨t,u,v,k _ _ (.inl rfl) e⟩
 | frz ob u ih=>obtain⟨e,q⟩:=x;exact⟨k _ _ (.inl rfl) e,ih q⟩
 | tbl ps=>
  have e:h.get? a=some {cls:= .none,data:= .fields ps}:=x;show h'.get? a=some {cls:= .none,data:= .fields ps};exact k a _ (.inl rfl) e
 | met f y=>
  have e:h.get? a=some (methodObj (.ref f)<|.ref y):=x;show h'.get? a=some (methodObj (.ref f)<|.ref y);exact k a _ (.inl rfl) e
 | ext φ=>obtain⟨p,⟨o,e⟩,st⟩:=x;exact⟨st _ _ p λo q=>k _ _ (.inl rfl) q,⟨o,k _ _ (.inl rfl) e⟩,st⟩
theorem HOk.lt (x:HOk P w H h)(e:H a=some o):a<h.objs.size:=(x a o e).lt
theorem HOk.fresh (x:HOk P w H h)(e:h.objs.size<=a):H a=none:=by
 cases q:H a with
 | none=>rfl
 | some u=>exact absurd (b7 (x.lt q) e) (cZ _)
theorem HOk.kept (x:HOk P w H h)(k: ∀b u,h.get? b=some u->h'.get? b=some u):HOk P w H h':=λa o e=>
 (x a o e).stay (λb u _ q=>k b u q) (λ_ q=>q) λ_ _ q=>q
theorem HOk.laid (x:HOk P w H h)(k: ∀b u,h.get? b=some u->h'.get? b=some u)(hp:h.objs.size<=a)(new:nA P w (upd H a o) h' a o):HOk P w (upd H a o) h':=λb u e=>by
 have hn:=x.fresh hp
 by_cases hb:b=a
 .subst hb;rw[jU]at e;cases e;exact new
 .rw[cG hb]at e;exact(x b u e).stay (λc v _ q=>k c v q) (λc q=>by rw[cG<|eT q hn];exact q) λc xs q=>by rw[cG<|eT q hn];exact q
end
def Rd (H:Hp)(a:Addr)(u:HO):Prop:=H a=some u\/ ∃o,H a=some (.frz o u)
theorem Rd.of {H:Hp}{u:HO}(h:H a=some u):Rd H a u:= .inl h
theorem Rd.ok {H:Hp}{u:HO}(r:Rd H a u)(x:HOk P w H h):nA P w H h a u:=by
 rcases r with r| ⟨o,r⟩
 .exact x a u r
 .obtain⟨_,q⟩:=x a _ r;exact q
def Mut:Option HO->Prop
 | some (.lst _)=>True
 | some (.dK _)=>True
 | some (.dT _)=>True
 | some (.set _ _)=>True
 | some (.ins _ _ _)=>True
 | some (.ext _)=>True
 | _=>False
section
variable {P:Program}{w:World}{H:Hp}{h h':Heap}{x e:Addr}{o':HO}
theorem HOk.write (ok:HOk P w H h)(mu:Mut (H x))(he:e=x\/H e=some (.own x))(k: ∀b u,b≠e->h.get? b=some u->h'.get? b=some u)(heo: ∃u,h'.get? e=some u)
  (new:nA P w (upd H x o') h' x o'):HOk P w (upd H x o') h':=λb u q=>by
 have nown: ∀c y,H c=some (.own y)->c≠x:=λc y r z=>by subst z;rw[r]at mu;exact mu
 have ntup: ∀c xs,H c=some (.tup xs)->c≠x:=λc xs r z=>by subst z;rw[r]at mu;exact mu
 by_cases hb:b=x
 .subst hb;rw[jU]at q;cases q;exact new
 .rw[cG hb]at q
  by_cases hbe:b=e
  .have q':H b=some (.own x):=by
    rcases he with z|z
    .exact absurd (hbe.trans z) hb
    .rw[hbe];exact z
   rw[q]at q';cases q';obtain⟨v,hv⟩:=heo;exact⟨v,by rw[hbe];exact hv⟩
  .refine(ok b u q).stay (λc v hc r=>k c v ?_ r) (λc r=>by rw[cG<|nown c b r];exact r) λc xs r=>by rw[cG<|ntup c xs r];exact r
   rcases hc with rfl|hc
   .exact hbe
   .rintro rfl;rcases he with z|z
    .exact nown c b hc z
    .rw[hc]at z;cases z;exact hb rfl
end
structure Un (fs ex:List Addr)(H H':Hp)(h h':Heap):Prop where
 keep: ∀b o,h.get? b=some o->H b=none->b ∉ fs->b ∉ ex->h'.get? b=some o
 slot: ∀b o,h.get? b=some o->H b=none->b∈fs->b ∉ ex-> ∃sl,h'.get? b=some {o with slots:=sl}
 free: ∀b o,h.get? b=some o->H b=none->b ∉ ex->H' b=none
 there: ∀b o,h.get? b=some o->b ∉ ex-> ∃o',h'.get? b=some o'
 tups: ∀b xs,H b=some (.tup xs)->H' b=some (.tup xs)
 frzs: ∀b o u,H b=some (.frz o u)->H' b=some (.frz o u)
 tbls: ∀b ps,H b=some (.tbl ps)-> ∃more,H' b=some (.tbl<|ps++more)
section
variable {fs fs' ex ex':List Addr}{H H1 H2:Hp}{h h1 h2 h':Heap}{a x e:Addr}{o:HO}
theorem Un.any (u:Un fs ex H H1 h h1){b:Addr}{ob:Obj}(q:h.get? b=some ob)(n:H b=none)(hx:b ∉ ex): ∃sl,h1.get? b=some {ob with slots:=sl}:=by
 by_cases hb:b∈fs
 .exact u.slot b ob q n hb hx
 .exact⟨ob.slots,u.keep b ob q n hb hx⟩
theorem Un.trans (a:Un fs ex H H1 h h1)(b:Un fs ex H1 H2 h1 h2):Un fs ex H H2 h h2 where
 keep:=λc ob q n hc hx=>b.keep c ob (a.keep c ob q n hc hx) (a.free c ob q n hx) hc hx
 slot:=λc ob q n hc hx=>by
  obtain⟨sl,e1⟩:=a.slot c ob q n hc hx;obtain⟨sl',e2⟩:=b.slot c _ e1 (a.free c ob q n hx) hc hx;exact⟨sl',e2⟩
 free:=λc ob q n hx=>by
  obtain⟨o',e1⟩:=a.there c ob q hx;exact b.free c o' e1 (a.free c ob q n hx) hx
 there:=λc ob q hx=>by
  obtain⟨o',e1⟩:=a.there c ob q hx;exact b.there c o' e1 hx
 tups:=λc xs q=>b.tups c xs (a.tups c xs q)
 frzs:=λc ob xs q=>b.frzs c ob xs (a.frzs c ob xs q)
 tbls:=λc ps q=>by
  obtain⟨m1,e1⟩:=a.tbls c ps q;obtain⟨m2,e2⟩:=b.tbls c _ e1;exact⟨m1++m2,by rw[e2,Array.append_assoc]⟩
theorem Un.kept (k: ∀b u,h.get? b=some u->h'.get? b=some u):Un fs ex H H h h':=
 ⟨λb ob q _ _ _=>k b ob q,λb ob q _ _ _=>⟨ob.slots,k b ob q⟩,λ_ _ _ n _=>n,λb ob q _=>⟨ob,k b ob q⟩,λ_ _ q=>q,λ_ _ _ q=>q,λ_ ps q=>⟨#[],by rw[q];simp⟩⟩
theorem Un.refl:Un fs ex H H h h:=Un.kept λ_ _ q=>q
theorem Un.laid (k: ∀b u,h.get? b=some u->h'.get? b=some u)(hp:h.objs.size<=a)(hn:H a=none):Un fs ex H (upd H a o) h h' where
 keep:=λb u q _ _ _=>k b u q
 slot:=λb u q _ _ _=>⟨u.slots,k b u q⟩
 free:=λb u q n _=>by rw[cG<|aO<|b7 (aH q) hp];exact n
 there:=λb u q _=>⟨u,k b u q⟩
 tups:=λb xs q=>by rw[cG<|eT q hn];exact q
 frzs:=λb u xs q=>by rw[cG<|eT q hn];exact q
 tbls:=λb ps q=>⟨#[],by rw[cG<|eT q hn,q];simp⟩
theorem Un.write (mu:Mut (H x))(he:e=x\/H e=some (.own x))(k: ∀b u,b≠e->h.get? b=some u->h'.get? b=some u)(heo: ∃u,h'.get? e=some u):Un fs ex H (upd H x o) h h':=by
 have hx: ∀b,H b=none->b≠x:=λb n z=>by subst z;rw[n]at mu;exact mu
 have hb: ∀b,H b=none->b≠e:=λb n z=>by
  subst z;rcases he with r|r
  .exact hx b n r
  .rw[n]at r;cases r
 have hm: ∀b u,H b=some u-> ¬Mut (some u)->b≠x:=λb u q nm z=>by subst z;rw[q]at mu;exact nm mu
 refine⟨λb u q n _ _=>k b u (hb b n) q,λb u q n _ _=>⟨u.slots,k b u (hb b n) q⟩,λb u q n _=>by rw[cG<|hx b n];exact n,λb u q _=> ?_,
  λb xs q=>by rw[cG<|hm b _ q λz=>z];exact q,λb u xs q=>by rw[cG<|hm b _ q λz=>z];exact q,λb ps q=>⟨#[],by rw[cG<|hm b _ q λz=>z,q];simp⟩⟩
 by_cases hbe:b=e
 .subst hbe;exact heo
 .exact⟨u,k b u hbe q⟩
theorem Un.mono (u:Un fs ex H H1 h h1)(hs: ∀b∈fs,b∈fs')(hx: ∀b∈ex,b∈ex'):Un fs' ex' H H1 h h1:=
 ⟨λb ob q n hb he=>u.keep b ob q n (λz=>hb (hs b z)) λz=>he (hx b z),λ_ _ q n _ he=>u.any q n λz=>he (hx _ z),λb ob q n he=>u.free b ob q n λz=>he (hx b z),λb ob q he=>u.there b ob q λz=>he (hx b z),u.tups,u.frzs,u.tbls⟩
end
nonrec def trk (h:Heap)(H:Hp):List Addr:=(List.range h.objs.size).filter λa=>(H a).isSome
nonrec def aK1 (h:Heap)(H:Hp):Heap:=PySem.W.hideAll h (trk h H)
theorem bA4 (h:Heap)(H:Hp):(aK1 h H).objs.size=h.objs.size:=PySem.W.hideAll_size _ _
theorem bF3 {H:Hp}{b:Addr}(e:h.get? b=some o)(n:H b=none):(aK1 h H).get? b=some o:=
 PySem.W.hideAll_get _ e λhm=>by
  have q:(H b).isSome=true:=(rR.mp hm).2;rw[n]at q;simp at q
theorem bU8 {H:Hp}{b:Addr}(e:(aK1 h H).get? b=some o):h.get? b=some o/\H b=none:=by
 have e':h.get? b=some o:=o9 (trk h H) e;refine⟨e',?_⟩;cases q:H b with
 | none=>rfl
 | some x=>
  have hm:b∈trk h H:=rR.mpr ⟨bW.mpr<|aH e',by simp[q]⟩
  have z:(aK1 h H).get? b=none:=PySem.W.hideAll_none (trk h H) hm;rw[z]at e;cases e
nonrec def bU9 (g h:Heap)(L:Addr):List (Addr×Obj):=(List.range h.objs.size).filterMap λa=>if a=L\/(g.get? a).isSome=true then none else(h.get? a).map λo=>(a,o)
nonrec def dJ (g h:Heap)(L d:Addr):List (Addr×Obj):=(bU9 g h L).filter λp=>decide (p.1≠d)
structure Mod (K:PySem.W.Frag)(mg:Str->Option Value)(base:Heap):Prop where
 kin:K.In base
 glob:base.Ns mainGlobals mg
 blt: ∃mb,base.Ns builtinsNs mb/\ ∀x:Str,x≠"__name__"->mb x=bootBuiltins x
 nolimit:base.NoLimit
structure Cx where
 prog:Program
 w:World
 K:PySem.W.Frag
 mg:Str->Option Value
 base:Heap
 A:Around
 N:List Str
 s₀:Shared
 H₀:Hp
 env:Env
 outer:List Env
 stack:List Env
 ex:List Addr
 fn:Str->Bool
 calm:Bool
 pn:List (Addr×Obj)
 xe:Value->Shared->Prop
nonrec def frs (l:List Env):List Addr:=l.filterMap (·.frame)
noncomputable abbrev Cx.fs (X:Cx):List Addr:=frs X.outer
def Vis (sc:Scope)(x:Str):Prop:=sc.names.lookup x=some .local\/sc.names.lookup x=some .cell\/sc.names.lookup x=some .free
def Loc (sc:Scope)(x:Str):Prop:=sc.names.lookup x=some .local\/sc.names.lookup x=some .cell
def Look (env:Env)(h:Heap)(m:Str->Option Value)(x:Str)(u:Value):Prop:=
 (env.kindOf x=some .local/\m x=some u)\/((env.kindOf x=some .cell\/env.kindOf x=some .free)/\ ∃c,env.cells.lookup x=some c/\h.IsCell c (some u))
structure Cx.Ok (X:Cx):Prop where
 mod:Mod X.K X.mg X.base
 kind:X.env.scope.kind= .function
 glob:X.env.globals=mainGlobals
 blt:X.env.builtins=builtinsNs
 above:X.s₀.heap.objs.size<=X.env.locals
 inj: ∀x y c,X.env.cells.lookup x=some c->X.env.cells.lookup y=some c->x=y
 has: ∀x,(X.env.kindOf x=some .cell\/X.env.kindOf x=some .free)-> ∃c,X.env.cells.lookup x=some c
 cab: ∀x c,X.fn x=true->X.env.cells.lookup x=some c->X.s₀.heap.objs.size<=c
 hd:X.calm=true->X.A.handled=none
 frames:X.A.frames=some X.stack
 stk:X.stack=X.outer\/(X.stack=X.env::X.outer/\X.env.frame=some X.env.locals)
 exf: ∀b∈X.ex,b≠X.env.locals/\ ∀x c,X.env.cells.lookup x=some c->c≠b
 bs: ∀b o,X.base.get? b=some o->X.s₀.heap.get? b=some o/\X.H₀ b=none
 bsz:X.base.objs.size<=X.s₀.heap.objs.size
 noex: ∀b o,X.base.get? b=some o->b ∉ X.ex
 exfs: ∀b∈X.ex,b ∉ X.fs
 funs:X.s₀.heap.FunFrames X.base X.outer
 frf: ∀b∈X.fs,X.H₀ b=none
structure Inv (X:Cx)(pins:List (Addr×Obj))(σ:List (Option V))(H:Hp)(s:Shared):Prop where
 ok:X.Ok
 os:s.os=X.s₀.os
 bare:AllBare s.gens
 base:Un X.fs X.ex X.H₀ H X.s₀.heap s.heap
 loc: ∃m,s.heap.Ns X.env.locals m/\ ∀(i:Nat) (x:Str) (v:V),X.N[i]? =some x->σ[i]? =some (some v)->Vis X.env.scope x-> ∃u,RelV v u/\Look X.env s.heap m x u
 cell: ∀x c,X.env.cells.lookup x=some c-> ∃v,s.heap.IsCell c v
 free:H X.env.locals=none
 freeC: ∀x c,X.env.cells.lookup x=some c->H c=none
 pin: ∀p∈X.pn++pins,s.heap.get? p.1=some p.2/\H p.1=none/\p.1≠X.env.locals/\p.1 ∉ X.fs/\ ∀v,p.2.data≠ .cell v
 hok:HOk X.prog X.w H s.heap
 len:σ.length=X.N.length
section
variable {X:Cx}{pins:List (Addr×Obj)}{σ:List (Option V)}{H H':Hp}{s:Shared}{h':Heap}
theorem Cx.Ok.nofr (ok:X.Ok){b:Addr}(e:X.base.get? b=some o):b ∉ X.fs:=λhb=>by
 have:=(ok.funs.mem hb).1;rw[e]at this;cases this
theorem Inv.bs (I:Inv X pins σ H s): ∀b o,X.base.get? b=some o->s.heap.get? b=some o/\H b=none:=λb o e=>
 ⟨I.base.keep b o (I.ok.bs b o e).1 (I.ok.bs b o e).2 (I.ok.nofr e)<|I.ok.noex b o e,I.base.free b o (I.ok.bs b o e).1 (I.ok.bs b o e).2<|I.ok.noex b o e⟩
theorem Inv.bk (I:Inv X pins σ H s): ∀b o,X.base.get? b=some o->s.heap.get? b=some o:=λb o e=>(I.bs b o e).1
theorem Inv.mod (I:Inv X pins σ H s):Mod X.K X.mg X.base:=I.ok.mod
theorem Inv.kIn (I:Inv X pins σ H s):X.K.In s.heap:=I.ok.mod.kin.keeps I.bk
theorem Inv.nolimit (I:Inv X pins σ H s):s.heap.NoLimit:=I.ok.mod.nolimit.keeps I.bk
theorem Inv.fr (I:Inv X pins σ H s): ∃m,Fr X.base X.env.locals s.heap m:=
 let ⟨m,hn,_⟩:=I.loc
 ⟨m,hn,I.bk,aN I.ok.bsz I.ok.above⟩
theorem Inv.lt (I:Inv X pins σ H s):X.env.locals<s.heap.objs.size:=let ⟨_,hn,_⟩:=I.loc;hn.lt
theorem Inv.sz (I:Inv X pins σ H s):X.s₀.heap.objs.size<=s.heap.objs.size:=aN I.ok.above (jI I.lt)
theorem Inv.nofs (I:Inv X pins σ H s)(h:s.heap.objs.size<=a):a ∉ X.fs:=λhb=>by
 obtain⟨_,o,ho,_⟩:=I.ok.funs.mem hb;exact absurd (b7 (aH ho)<|aN I.sz h) (cZ _)
theorem Inv.cne (I:Inv X pins σ H s): ∀x c,X.env.cells.lookup x=some c->c≠X.env.locals:=λx c e z=>by
 obtain⟨v,o,ho,hd⟩:=I.cell x c e;obtain⟨m,⟨o',es,ep,ho',hd',_⟩,_⟩:=I.loc;rw[z,ho']at ho;cases ho;rw[hd']at hd;cases hd
theorem Inv.funs (I:Inv X pins σ H s):s.heap.FunFrames X.base X.outer:=by
 have all: ∀(l:List Env),(∀b∈frs l,b∈X.fs)->X.s₀.heap.FunFrames X.base l->s.heap.FunFrames X.base l:=by
  intro l
  induction l with
  | nil=>intro _ _;trivial
  | cons env r ih=>
   intro hs hl;obtain⟨hk,⟨L,o,hf,hn,ho,hd⟩,hr⟩:=hl;have hL:L∈X.fs:=hs L (by unfold frs;rw[i7,hf];exact aL)
   obtain⟨sl,e⟩:=I.base.slot L o ho (I.ok.frf L hL) hL λz=>I.ok.exfs L z hL
   exact⟨hk,⟨L,_,hf,hn,e,hd⟩,ih (λb hb=>hs b (by unfold frs;rw[i7,hf];exact aU _ hb)) hr⟩
 exact all X.outer (λ_ hb=>hb) I.ok.funs
theorem Inv.stack (I:Inv X pins σ H s):s.heap.FunFrames X.base X.stack:=by
 rcases I.ok.stk with e| ⟨e,hf⟩
 .rw[e];exact I.funs
 .rw[e];obtain⟨m,hn,_⟩:=I.loc;refine .cons (by rw[I.ok.kind];decide) hf hn ?_ I.funs
  exact kG (aN I.ok.bsz I.ok.above)
theorem Inv.stkSub (I:Inv X pins σ H s): ∀b∈frs X.stack,b∈X.env.locals::X.fs:=λb hb=>by
 rcases I.ok.stk with e| ⟨e,hf⟩
 .rw[e]at hb;exact aU _ hb
 .rw[e]at hb;unfold frs at hb;rw[i7,hf]at hb;exact hb
theorem Inv.stkFree (I:Inv X pins σ H s): ∀b∈frs X.stack,H b=none:=λb hb=>by
 rcases aG.mp (I.stkSub b hb)with e|hb
 .rw[e];exact I.free
 .obtain⟨_,o,ho,_⟩:=I.ok.funs.mem hb;exact I.base.free b o ho (I.ok.frf b hb) λz=>I.ok.exfs b z hb
theorem Inv.step {g':Array GenState}{d':Drawn}(I:Inv X pins σ H s)
  (hch: ∀b∈ch,(b∈X.ex\/X.s₀.heap.objs.size<=b)/\b≠X.env.locals/\(∀x c,X.env.cells.lookup x=some c->c≠b)/\ ∀p∈X.pn++pins,p.1≠b)
  (keep: ∀b o,b≠X.env.locals->b ∉ X.fs->b ∉ ch->s.heap.get? b=some o->H b=none->h'.get? b=some o)
  (slot: ∀b o,b≠X.env.locals->b∈X.fs->b ∉ ch->s.heap.get? b=some o->H b=none-> ∃sl,h'.get? b=some {o with slots:=sl}) (free: ∀b o,b ∉ ch->s.heap.get? b=some o->H b=none->H' b=none)
  (there: ∀b o,b ∉ ch->s.heap.get? b=some o-> ∃o',h'.get? b=some o')
  (tups: ∀b xs,H b=some (.tup xs)->H' b=some (.tup xs)) (frzs: ∀b o u,H b=some (.frz o u)->H' b=some (.frz o u)) (tbls: ∀b ps,H b=some (.tbl ps)-> ∃more,H' b=some (.tbl<|ps++more))
  (ns: ∀m,s.heap.Ns X.env.locals m->h'.Ns X.env.locals m) (hok:HOk X.prog X.w H' h') (hg:AllBare g') :
  Inv X pins σ H' {s with heap:=h',gens:=g',drawn:=d',toks:=t'}:=by
 have neL: ∀b o,X.s₀.heap.get? b=some o->b≠X.env.locals:=λb o e=>aO (b7 (aH e) I.ok.above)
 have neC: ∀b o,X.s₀.heap.get? b=some o->b ∉ X.ex->b ∉ ch:=λb o e hx hb=>by
  rcases(hch b hb).1 with z|z
  .exact hx z
  .exact absurd (b7 (aH e) z) (cZ _)
 have cellK: ∀x c,X.env.cells.lookup x=some c-> ∀v,s.heap.IsCell c v->h'.IsCell c v:=λx c e v ⟨o,ho,hd⟩=>by
  have nch:c ∉ ch:=λz=>(hch c z).2.2.1 x c e rfl
  by_cases hc:c∈X.fs
  .obtain⟨sl,q⟩:=slot c o (I.cne x c e) hc nch ho (I.freeC x c e);exact⟨_,q,hd⟩
  .exact⟨o,keep c o (I.cne x c e) hc nch ho<|I.freeC x c e,hd⟩
 refine⟨I.ok,I.os,hg,⟨λb o e n hb hx=> ?_,λb o e n hb hx=> ?_,λb o e n hx=> ?_,λb o e hx=> ?_,λb xs e=>tups b xs (I.base.tups b xs e),λb o xs e=>frzs b o xs (I.base.frzs b o xs e),λb ps e=> ?_⟩,?_,λx c e=> ?_,?_,λx c e=> ?_,λp hp=> ?_,hok,I.len⟩
 .exact keep b o (neL b o e) hb (neC b o e hx) (I.base.keep b o e n hb hx) (I.base.free b o e n hx)
 .obtain⟨sl,e1⟩:=I.base.slot b o e n hb hx;obtain⟨sl',e2⟩:=slot b _ (neL b o e) hb (neC b o e hx) e1 (I.base.free b o e n hx);exact⟨sl',e2⟩
 .obtain⟨o',e1⟩:=I.base.there b o e hx;exact free b o' (neC b o e hx) e1 (I.base.free b o e n hx)
 .obtain⟨o',e1⟩:=I.base.there b o e hx;exact there b o' (neC b o e hx) e1
 .obtain⟨m1,e1⟩:=I.base.tbls b ps e;obtain⟨m2,e2⟩:=tbls b _ e1;exact⟨m1++m2,by rw[e2,Array.append_assoc]⟩
 .obtain⟨m,hn,hl⟩:=I.loc;refine⟨m,ns m hn,λi x v e1 e2 e3=> ?_⟩
  obtain⟨u,r,l⟩:=hl i x v e1 e2 e3;refine⟨u,r,?_⟩;rcases l with l| ⟨k,c,e,z⟩
  .exact .inl l
  .exact .inr ⟨k,c,e,cellK x c e _ z⟩
 .obtain⟨v,z⟩:=I.cell x c e;exact⟨v,cellK x c e v z⟩
 .obtain⟨m,⟨o,_,_,ho,_⟩,_⟩:=I.loc;exact free _ o (λz=>(hch _ z).2.1 rfl) ho I.free
 .obtain⟨v,o,ho,hd⟩:=I.cell x c e;exact free c o (λz=>(hch c z).2.2.1 x c e rfl) ho (I.freeC x c e)
 .obtain⟨e,n,ne,nf,d⟩:=I.pin p hp;have nch:p.1 ∉ ch:=λz=>(hch p.1 z).2.2.2 p hp rfl
  exact⟨keep p.1 p.2 ne nf nch e n,free p.1 p.2 nch e n,ne,nf,d⟩
theorem Inv.un (I:Inv X pins σ H s)(u:Un X.fs [] H H' s.heap h')(hok:HOk X.prog X.w H' h'):Inv X pins σ H' {s with heap:=h',toks:=t'}:=by
 obtain⟨m,⟨o,es,ep,ho,r⟩,_⟩:=id I.loc;obtain⟨sl,hL⟩:=u.any ho I.free ae
 exact I.step (g':=s.gens) (d':=s.drawn) (ch:=[]) (λ_ z=>nomatch z) (λb o _ hb _ e n=>u.keep b o e n hb ae) (λb o _ hb _ e n=>u.slot b o e n hb ae) (λb o _ e n=>u.free b o e n ae) (λb o _ e=>u.there b o e ae) u.tups u.frzs u.tbls (λm' hm=>by
  obtain⟨o',es',ep',ho',r'⟩:=hm;rw[ho]at ho';cases ho';exact⟨_,es',ep',hL,r'⟩) hok I.bare
theorem Inv.call {g':Array GenState}{d':Drawn}(I:Inv X pins σ H s)(u:Un (frs X.stack) ch H H' s.heap h')(hok:HOk X.prog X.w H' h')(hg:AllBare g')
  (hch: ∀b∈ch,(b∈X.ex\/X.s₀.heap.objs.size<=b)/\b≠X.env.locals/\(∀x c,X.env.cells.lookup x=some c->c≠b)/\ ∀p∈X.pn++pins,p.1≠b) :
  Inv X pins σ H' {s with heap:=h',gens:=g',drawn:=d',toks:=t'}:=by
 obtain⟨m,⟨o,es,ep,ho,r⟩,_⟩:=id I.loc;obtain⟨sl,hL⟩:=u.any ho I.free λz=>(hch _ z).2.1 rfl
 exact I.step (ch:=ch) hch (λb o hL hb hc e n=>u.keep b o e n (λz=>(aG.mp<|I.stkSub b z).elim hL hb) hc) (λb o _ _ hc e n=>u.any e n hc) (λb o hc e n=>u.free b o e n hc) (λb o hc e=>u.there b o e hc) u.tups u.frzs u.tbls (λm' hm=>by
  obtain⟨o',es',ep',ho',r'⟩:=hm;rw[ho]at ho';cases ho';exact⟨_,es',ep',hL,r'⟩) hok hg
theorem Inv.turned (I:Inv X pins σ H s)(k: ∀b o,b≠it->s.heap.get? b=some o->h'.get? b=some o)(hn:H it=none)(hL:it≠X.env.locals)
  (h1:it∈X.ex\/X.s₀.heap.objs.size<=it) (h2: ∀x c,X.env.cells.lookup x=some c->c≠it) (h3: ∀p∈X.pn++pins,p.1≠it):Inv X pins σ H {s with heap:=h',toks:=t'}:=by
 have nit: ∀b u,H b=some u->b≠it:=λb u e z=>by rw[z,hn]at e;cases e
 refine I.step (g':=s.gens) (d':=s.drawn) (ch:=[it]) (λb hb=> ?_) (λb o _ _ hc e _=>k b o (λz=>hc (by simp[z])) e) (λb o _ _ hc e _=>⟨o.slots,k b o (λz=>hc (by simp[z])) e⟩) (λ_ _ _ _ n=>n)
  (λb o hc e=>⟨o,k b o (λz=>hc (by simp[z])) e⟩) (λ_ _ e=>e) (λ_ _ _ e=>e) (λb ps e=>⟨#[],by rw[e];simp⟩) (λm hm=> ?_) (λb u e=> ?_) I.bare
 .have e:b=it:=by exists hb
  subst e;exact⟨h1,hL,h2,h3⟩
 .obtain⟨o,es,ep,ho,r⟩:=hm;exact⟨o,es,ep,k _ o (Ne.symm hL) ho,r⟩
 .refine(I.hok b u e).stay (λc v hc q=>k c v ?_ q) (λ_ q=>q) λ_ _ q=>q
  rcases hc with z|z
  .rw[z];exact nit b u e
  .exact nit c _ z
theorem Inv.tok (I:Inv X pins σ H s)(t:Nat):Inv X pins σ H {s with toks:=t}:=I.un Un.refl I.hok
theorem Inv.kept (I:Inv X pins σ H s)(k: ∀b u,s.heap.get? b=some u->h'.get? b=some u):Inv X pins σ H {s with heap:=h',toks:=t'}:=I.un (Un.kept k) (I.hok.kept k)
theorem Inv.laid {o:HO}(I:Inv X pins σ H s)(k: ∀b u,s.heap.get? b=some u->h'.get? b=some u)(hp:s.heap.objs.size<=a)(new:nA X.prog X.w (upd H a o) h' a o) :
  Inv X pins σ (upd H a o) {s with heap:=h',toks:=t'}:=I.un (Un.laid k hp<|I.hok.fresh hp) (I.hok.laid k hp new)
theorem Inv.write {x e:Addr}{o:HO}(I:Inv X pins σ H s)(mu:Mut (H x))(he:e=x\/H e=some (.own x))(k: ∀b u,b≠e->s.heap.get? b=some u->h'.get? b=some u)(heo: ∃u,h'.get? e=some u)
  (new:nA X.prog X.w (upd H x o) h' x o):Inv X pins σ (upd H x o) {s with heap:=h',toks:=t'}:=I.un (Un.write mu he k heo) (I.hok.write mu he k heo new)
theorem Inv.pins_of {pins':List (Addr×Obj)}(I:Inv X pins σ H s)(h: ∀p∈pins',s.heap.get? p.1=some p.2/\H p.1=none/\p.1≠X.env.locals/\p.1 ∉ X.fs/\ ∀v,p.2.data≠ .cell v):Inv X pins' σ H s:=
 ⟨I.ok,I.os,I.bare,I.base,I.loc,I.cell,I.free,I.freeC,λp hp=>(bH.mp hp).elim (λz=>I.pin p (kH _ z)) (h p),I.hok,I.len⟩
theorem a67 (hN:N.Nodup)(a:N[i]? =some x)(b:N[j]? =some x):i=j:=by
 obtain⟨h1,e1⟩:=dN.mp a;obtain⟨h2,e2⟩:=dN.mp b;exact(List.getElem_inj hN).mp (e1.trans e2.symm)
theorem bA5 {M:Model}{v:V}{Q:Unit->Shared->Prop}(I:Inv X pins σ H s)(hN:X.N.Nodup)(hi:X.N[i]? =some x)(hx:Loc X.env.scope x)(r:RelV v u)
  (h: ∀s',Inv X pins (σ.set i<|some v) H s'->(∃a,SameBut a s.heap s'.heap/\(a=X.env.locals\/X.env.cells.lookup x=some a))->Q () s') (hf:X.fn x=true\/X.env.scope.names.lookup x=some .local:=by walk_at "z"):wpAny M A (storeName X.env x u) Q E s:=by
 obtain⟨m,hn,hl⟩:=id I.loc;have hcls:(X.env.scope.kind== .class||(X.env.scope.kind== .module&&X.env.locals != X.env.globals))=false:=by rw[I.ok.kind];rfl
 have hiσ:i<σ.length:=by rw[I.len];exact(dN.mp hi).1
 have cne:=I.cne;have tracked: ∀{a:Addr} {h':Heap},(∃o,s.heap.get? a=some o/\H a=none)->SameBut a s.heap h'->HOk X.prog X.w H h':=λ{a h'} ha hs b ob e=>by
  obtain⟨_,_,hfree⟩:=ha;refine(I.hok b ob e).stay (λc w' hc q=>(hs.2 c ?_).trans q) (λ_ q=>q) λ_ _ q=>q
  rintro rfl;rcases hc with rfl|hc
  .rw[hfree]at e;cases e
  .rw[hfree]at hc;cases hc
 rcases hx with hk|hk
 .refine wpAny_storeName_local hk hn (λh' hn' hs=> ?_) hcls
  obtain⟨oL,_,_,hoL,_⟩:=id hn;refine h _ ⟨I.ok,I.os,I.bare,⟨λb o e n hb hx=> ?_,λb o e n hb hx=> ?_,I.base.free,λb o e hx=> ?_,I.base.tups,I.base.frzs,I.base.tbls⟩,⟨_,hn',λj y v' e1 e2 e3=> ?_⟩,λy c e=> ?_,I.free,I.freeC,λp hp=> ?_,tracked ⟨oL,hoL,I.free⟩ hs,by exists I.len⟩ ⟨_,hs,.inl rfl⟩
  .exact(hs.2 b<|aO<|b7 (aH e) I.ok.above).trans (I.base.keep b o e n hb hx)
  .obtain⟨sl,e1⟩:=I.base.slot b o e n hb hx;exact⟨sl,(hs.2 b<|aO<|b7 (aH e) I.ok.above).trans e1⟩
  .obtain⟨o',e1⟩:=I.base.there b o e hx;exact⟨o',(hs.2 b<|aO<|b7 (aH e) I.ok.above).trans e1⟩
  .by_cases hj:j=i
   .subst hj;rw[hi]at e1;cases e1;rw[rH hiσ]at e2;cases e2;exact⟨u,r,.inl ⟨hk,ae⟩⟩
   .rw[kI<|Ne.symm hj]at e2;obtain⟨u',r',q⟩:=hl j y v' e1 e2 e3;refine⟨u',r',?_⟩;rcases q with⟨k,e⟩| ⟨k,c,e,z⟩
    .refine .inl ⟨k,?_⟩
     have:y≠x:=λe=>hj (a67 hN e1<|e▸hi)
     simp[this,e]
    .exact .inr ⟨k,c,e,z.sameBut hs<|cne y c e⟩
  .obtain⟨w',z⟩:=I.cell y c e;exact⟨w',z.sameBut hs<|cne y c e⟩
  .obtain⟨e,n,ne,nf,d⟩:=I.pin p hp;exact⟨(hs.2 p.1 ne).trans e,n,ne,nf,d⟩
 .have hfn:X.fn x=true:=by
   rcases hf with z|z
   .exact z
   .rw[z]at hk;cases hk
  obtain⟨c,hc⟩:=I.ok.has x (.inl hk);obtain⟨w',z⟩:=I.cell x c hc;refine wpAny_storeName_cell I.ok.kind hk hc z (λh' hc' hs=> ?_)
  obtain⟨oc,hoc,hocd⟩:=id z;refine h {s with heap:=h'} ⟨I.ok,I.os,I.bare,⟨λb o e n hb hx=> ?_,λb o e n hb hx=> ?_,I.base.free,λb o e hx=> ?_,I.base.tups,I.base.frzs,I.base.tbls⟩,⟨m,hn.sameBut hs<|Ne.symm<|cne x c hc,λj y v' e1 e2 e3=> ?_⟩,λy c' e=> ?_,I.free,I.freeC,λp hp=> ?_,tracked ⟨oc,hoc,I.freeC x c hc⟩ hs,by exists I.len⟩ ⟨c,hs,.inr hc⟩
  .exact(hs.2 b<|aO<|b7 (aH e)<|I.ok.cab x c hfn hc).trans (I.base.keep b o e n hb hx)
  .obtain⟨sl,e1⟩:=I.base.slot b o e n hb hx;exact⟨sl,(hs.2 b<|aO<|b7 (aH e)<|I.ok.cab x c hfn hc).trans e1⟩
  .obtain⟨o',e1⟩:=I.base.there b o e hx;exact⟨o',(hs.2 b<|aO<|b7 (aH e)<|I.ok.cab x c hfn hc).trans e1⟩
  .by_cases hj:j=i
   .subst hj;rw[hi]at e1;cases e1;rw[rH hiσ]at e2;cases e2;exact⟨u,r,.inr ⟨.inl hk,c,hc,hc'⟩⟩
   .rw[kI<|Ne.symm hj]at e2;obtain⟨u',r',q⟩:=hl j y v' e1 e2 e3;refine⟨u',r',?_⟩;rcases q with q| ⟨k,c',e,z'⟩
    .exact .inl q
    .refine .inr ⟨k,c',e,z'.sameBut hs ?_⟩
     rintro rfl;exact hj (a67 hN e1<|I.ok.inj _ _ _ e hc▸hi)
  .by_cases hcc:c'=c
   .subst hcc;exact⟨_,hc'⟩
   .obtain⟨w2,z2⟩:=I.cell y c' e;exact⟨w2,z2.sameBut hs hcc⟩
  .obtain⟨e,n,ne,nf,d⟩:=I.pin p hp;refine⟨(hs.2 p.1 ?_).trans e,n,ne,nf,d⟩;intro q;rw[q,hoc]at e;have q':oc=p.2:=eQ e;exact d w' (by rw[<-q'];exact hocd)
theorem y3 {M:Model}{v:V}{Q:Unit->Shared->Prop}(I:Inv X pins σ H s)(hN:X.N.Nodup)(hi:X.N[i]? =some x)(hx:Loc X.env.scope x)(r:RelV v u)
  (h: ∀s',Inv X pins (σ.set i<|some v) H s'->Q () s') (hf:X.fn x=true\/X.env.scope.names.lookup x=some .local:=by walk_at "z"):wpAny M A (storeName X.env x u) Q E s:=
 bA5 I hN hi hx r (λs' I' _=>h s' I') hf
theorem Inv.call' (I:Inv X pins σ H s)(ho:s'.os=s.os)(u:Un (frs X.stack) ch H H' s.heap s'.heap)(hok:HOk X.prog X.w H' s'.heap)(hg:AllBare s'.gens)
  (hch: ∀b∈ch,(b∈X.ex\/X.s₀.heap.objs.size<=b)/\b≠X.env.locals/\(∀x c,X.env.cells.lookup x=some c->c≠b)/\ ∀p∈X.pn++pins,p.1≠b):Inv X pins σ H' s':=by
 obtain⟨h',g',d',t',o'⟩:=s';have e:o'=s.os:=ho;subst e;exact I.call (g':=g') (t':=t') (d':=d') u hok hg hch
end
abbrev XK:=Value->Option Addr->Hp->Prop
abbrev St:=List (Option V)
abbrev VK:=V->Hp->Prop
abbrev TE:=St->Hp->VK->Prop
abbrev TT:=St->Hp->(Bool->Hp->Prop)->Prop
abbrev TA:=St->Hp->(List V->Hp->Prop)->Prop
structure zE where
 nx:St->Hp->Prop
 rt:VK
 bk:St->Hp->Prop:=λ_ _=>False
 ct:St->Hp->Prop:=λ_ _=>False
abbrev TS:=zE->St->Hp->Prop
def EP (X:Cx)(pins:List (Addr×Obj))(σ:St)(Q:VK)(u:Value)(s':Shared):Prop:= ∃v H',Inv X pins σ H' s'/\RelV v u/\Q v H'
def TP (X:Cx)(pins:List (Addr×Obj))(σ:St)(Q:Bool->Hp->Prop)(b:Bool)(s':Shared):Prop:= ∃H',Inv X pins σ H' s'/\Q b H'
def AP (X:Cx)(pins:List (Addr×Obj))(σ:St)(Q:List V->Hp->Prop)(us:List Value)(s':Shared):Prop:= ∃vs H',Inv X pins σ H' s'/\Vals vs us/\Q vs H'
def SP (X:Cx)(pins:List (Addr×Obj))(D:zE)(f:Flow)(s':Shared):Prop:=
 match f with
 | .next=> ∃σ' H',Inv X pins σ' H' s'/\D.nx σ' H'
 | .brk=> ∃σ' H',Inv X pins σ' H' s'/\D.bk σ' H'
 | .cont=> ∃σ' H',Inv X pins σ' H' s'/\D.ct σ' H'
 | .ret u=> ∃v σ' H',Inv X pins σ' H' s'/\RelV v u/\D.rt v H'
def PE (X:Cx)(e:Expr)(t:TE):Prop:=
 ∀(pins:List (Addr×Obj)) (s:Shared) (σ:St) (H:Hp) (Q:VK),Inv X pins σ H s->t σ H Q->X∩(eval e X.env) (EP X pins σ Q) X.xe s
def PT (X:Cx)(e:Expr)(t:TT):Prop:=
 ∀(pins:List (Addr×Obj)) (s:Shared) (σ:St) (H:Hp) (Q:Bool->Hp->Prop),Inv X pins σ H s->t σ H Q->X∩(isTrue e X.env<|eval e X.env) (TP X pins σ Q) X.xe s
def PW (X:Cx)(e:Expr)(t:TT):Prop:=
 ∀(whole:Sem Value) (pins:List (Addr×Obj)) (s:Shared) (σ:St) (H:Hp) (Q:Bool->Hp->Prop),Inv X pins σ H s->t σ H Q->X∩(isTrue e X.env whole) (TP X pins σ Q) X.xe s
theorem PW.pt {X:Cx}{t:TT}(h:PW X e t):PT X e t:=h _
def PA (X:Cx)(es:List Expr)(t:TA):Prop:=
 ∀(pos:Pos) (pins:List (Addr×Obj)) (s:Shared) (σ:St) (H:Hp) (Q:List V->Hp->Prop),Inv X pins σ H s->t σ H Q->X∩(spliced<|backTo pos<|starEach es X.env) (AP X pins σ Q) X.xe s
def PS (X:Cx)(st:Stmt)(t:TS):Prop:=
 ∀(pins:List (Addr×Obj)) (s:Shared) (σ:St) (H:Hp) (D:zE),Inv X pins σ H s->t D σ H->X∩(exec st X.env) (SP X pins D) X.xe s
def PSs (X:Cx)(st:List Stmt)(t:TS):Prop:=
 ∀(pins:List (Addr×Obj)) (s:Shared) (σ:St) (H:Hp) (D:zE),Inv X pins σ H s->t D σ H->X∩(execs st X.env) (SP X pins D) X.xe s
theorem thn {α:Type}{t:Sem α}{Q Q':α->Shared->Prop}{M:Model}(h:wpAny M A t Q E s)(hQ: ∀a s,Q a s->Q' a s):wpAny M A t Q' E s:=aS h hQ λ_ _ x=>x
section
variable {X:Cx}
def a34 (i:Nat):TE:=λσ H Q=> ∃v,σ[i]? =some (some v)/\Q v H
def tC (v:V):TE:=λ_ H Q=>Q v H
theorem pe_var (hN:X.N[i]? =some x)(hv:Vis X.env.scope x)(hd:⇑(x∪0))(hcd:⇑((x==("__classdict__":Str))=false)):PE X (.Name x pos) (a34 i):=by
 intro pins s σ H Q I h;obtain⟨v,e,h⟩:=h;obtain⟨m,hn,hl⟩:=I.loc;obtain⟨u,r,l⟩:=hl i x v hN e hv;have fin:EP X pins σ Q u s:=⟨v,H,I,r,h⟩;rcases l with⟨hk,hm⟩| ⟨hk,c,hc,hcell⟩
 .exact wpAny_Name (wpAny_loadName_local I.ok.kind hk hn hm fin) hd
 .rcases hk with hk|hk
  .exact wpAny_Name (wpAny_loadName_cell I.ok.kind hk hc hcell fin) hd
  .exact wpAny_Name (wpAny_loadName_free I.ok.kind hk hc hcell fin hcd) hd
theorem pe_int {i j pos}:PE X (.Constant (.int i) j pos) (tC<|.int i):=λ_ _ _ H _ I h=>wpAny_Constant_int ⟨.int i,H,I.tok _,⟨_,rfl⟩,h⟩
theorem pe_bl {b j pos}:PE X (.Constant (.bool b) j pos) (tC<|.bl b):=λ_ _ _ H _ I h=>Constant_bool ⟨.bl b,H,I,rfl,h⟩
theorem pe_str {x j pos}:PE X (.Constant (.str x) j pos) (tC<|.str x):=λ_ _ _ H _ I h=>Calls.Constant_str ⟨.str x,H,I.tok _,⟨_,rfl⟩,h⟩
def Gl (X:Cx)(x:Str):Prop:=X.env.kindOf x=some .globalImplicit
theorem sK {σ:St}{H:Hp}(I:Inv X pins σ H s)(hg:Gl X x)(hm:X.mg x=some u)(h:Q u s)
  (hd:⇑(x∪0)):X∩(eval (.Name x pos) X.env) Q E s:=
 Calls.Name_function_global I.ok.kind hg (Calls.loadGlobal_global (by rw[I.ok.glob];exact I.mod.glob.keeps I.bk) hm h) hd
theorem mM {σ:St}{H:Hp}(I:Inv X pins σ H s)(hg:Gl X x)(hm:X.mg x=none)(hv:bootBuiltins x=some u)(h:Q u s)
  (hn:⇑(x≠"__name__")) (hd:⇑(x∪0)):X∩(eval (.Name x pos) X.env) Q E s:=by
 obtain⟨mb,h1,h2⟩:=I.mod.blt;exact Calls.Name_function_global I.ok.kind hg (Calls.loadGlobal_builtin (by rw[I.ok.glob];exact I.mod.glob.keeps I.bk) hm (by rw[I.ok.blt];exact h1.keeps I.bk) ((h2 x hn).trans hv) h) hd
theorem b48 {v:V}(hg:Gl X x)(hm:X.mg x=some u)(r:RelV v u)(hd:⇑(x∪0)):PE X (.Name x pos) (tC v):=
 λ_ _ _ H _ I h=>sK I hg hm ⟨v,H,I,r,h⟩ hd
theorem bV0 {v:V}(hg:Gl X x)(hm:X.mg x=none)(hv:bootBuiltins x=some u)(r:RelV v u)(hn:⇑(x≠"__name__"))(hd:⇑(x∪0)):PE X (.Name x pos) (tC v):=
 λ_ _ _ H _ I h=>mM I hg hm hv ⟨v,H,I,r,h⟩ hn hd
variable {a b:Expr}{ta tb:TE}{pos:Pos}
def tB (t:TE):TT:=λσ H Q=>t σ H λx H1=> ∃c,x= .bl c/\Q c H1
theorem pt_val {t:TE}(h:PE X e t)(he: ∀whole,isTrue e X.env whole=(do let v<-whole;standAt e.pos;holding [v] (truthy v)):=by intro _;rfl):PT X e (tB t):=by
 intro pins s σ H Q I hw;refine isTrue_plain (thn (h pins s σ H _ I hw) λv s1 ⟨x,H1,I1,r1,q1⟩=> ?_) (he _)
 obtain⟨d,rfl,q⟩:=q1;cases r1;exact jB ⟨H1,I1,q⟩
variable {tA tB':TT}{dJ:List Expr}
def tAnd (t u:TT):TT:=λσ H Q=>t σ H λc H1=>if c=true then u σ H1 Q else Q false H1
def tOr (t u:TT):TT:=λσ H Q=>t σ H λc H1=>if c=true then Q true H1 else u σ H1 Q
def tNot (t:TT):TT:=λσ H Q=>t σ H λc H1=>Q (!c) H1
theorem bV1 (ha:PT X a tA):PW X (.BoolOp .And [a] pos) tA:=by
 intro wh pins s σ H Q I h;refine isTrue_and (thn (ha pins s σ H Q I h) λc s1 e=> ?_)
 cases c with
 | true=>exact isTrue_and_nil e
 | false=>exact e
theorem pw_or1 (ha:PT X a tA):PW X (.BoolOp .Or [a] pos) tA:=by
 intro wh pins s σ H Q I h;refine isTrue_or (thn (ha pins s σ H Q I h) λc s1 e=> ?_)
 cases c with
 | false=>exact isTrue_or_nil e
 | true=>exact e
theorem pw_and (ha:PT X a tA)(hb:PW X (.BoolOp .And (b::dJ) pos) tB'):PW X (.BoolOp .And (a::b::dJ) pos) (tAnd tA tB'):=by
 intro wh pins s σ H Q I h;refine isTrue_and (thn (ha pins s σ H _ I h) λc s1 ⟨H1,I1,q1⟩=> ?_)
 cases c with
 | true=>exact hb wh pins s1 σ H1 Q I1 q1
 | false=>exact⟨H1,I1,q1⟩
theorem pw_or (ha:PT X a tA)(hb:PW X (.BoolOp .Or (b::dJ) pos) tB'):PW X (.BoolOp .Or (a::b::dJ) pos) (tOr tA tB'):=by
 intro wh pins s σ H Q I h;refine isTrue_or (thn (ha pins s σ H _ I h) λc s1 ⟨H1,I1,q1⟩=> ?_)
 cases c with
 | true=>exact⟨H1,I1,q1⟩
 | false=>exact hb wh pins s1 σ H1 Q I1 q1
theorem pt_not (ha:PT X a tA):PT X (.UnaryOp .Not a pos) (tNot tA):=by
 intro pins s σ H Q I h;exact isTrue_not (ha pins s σ H (λc H1=>Q (!c) H1) I h)
def tAndV (ta tb:TE):TE:=λσ H Q=>ta σ H λx H1=> ∃c,x= .bl c/\if c=true then tb σ H1 Q else Q (.bl false) H1
def tOrV (ta tb:TE):TE:=λσ H Q=>ta σ H λx H1=> ∃c,x= .bl c/\if c=true then Q (.bl true) H1 else tb σ H1 Q
def tNotV (ta:TE):TE:=λσ H Q=>ta σ H λx H1=> ∃c,x= .bl c/\Q (.bl<|!c) H1
theorem pe_one {op}{t:TE}(h:PE X a t):PE X (.BoolOp op [a] pos) t:=λpins s σ H Q I hw=>BoolOp_one (h pins s σ H Q I hw)
theorem pe_and (ha:PE X a ta)(hb:PE X (.BoolOp .And (b::dJ) pos) tb):PE X (.BoolOp .And (a::b::dJ) pos) (tAndV ta tb):=by
 intro pins s σ H Q I h;refine BoolOp_and (thn (ha pins s σ H _ I h) λv s1 ⟨x,H1,I1,r1,q1⟩=> ?_)
 obtain⟨c,rfl,q1⟩:=q1;cases r1;refine jB ?_;cases c with
 | true=>exact hb pins s1 σ H1 Q I1 q1
 | false=>exact⟨.bl false,H1,I1,rfl,q1⟩
theorem pe_or (ha:PE X a ta)(hb:PE X (.BoolOp .Or (b::dJ) pos) tb):PE X (.BoolOp .Or (a::b::dJ) pos) (tOrV ta tb):=by
 intro pins s σ H Q I h;refine BoolOp_or (thn (ha pins s σ H _ I h) λv s1 ⟨x,H1,I1,r1,q1⟩=> ?_)
 obtain⟨c,rfl,q1⟩:=q1;cases r1;refine jB ?_;cases c with
 | false=>exact hb pins s1 σ H1 Q I1 q1
 | true=>exact⟨.bl true,H1,I1,rfl,q1⟩
theorem pe_not (ha:PE X a ta):PE X (.UnaryOp .Not a pos) (tNotV ta):=by
 intro pins s σ H Q I h;refine UnaryOp_ (thn (ha pins s σ H _ I h) λv s1 ⟨x,H1,I1,r1,q1⟩=> ?_)
 obtain⟨c,rfl,q1⟩:=q1;cases r1;exact not_of (jB ⟨.bl<|!c,H1,I1,rfl,q1⟩)
def tIf (t:TT)(ta tb:TE):TE:=λσ H Q=>t σ H λc H1=>if c=true then ta σ H1 Q else tb σ H1 Q
theorem bF4 (hc:PT X c tA)(ha:PE X a ta)(hb:PE X b tb):PE X (.IfExp c a b pos) (tIf tA ta tb):=by
 intro pins s σ H Q I h;refine wpAny_IfExp (thn (hc pins s σ H _ I h) λd s1 ⟨H1,I1,q1⟩=> ?_)
 cases d with
 | true=>exact ha pins s1 σ H1 Q I1 q1
 | false=>exact hb pins s1 σ H1 Q I1 q1
end
def SqL (K:PySem.W.Frag)(H:Hp)(a:Addr)(xs:List V):Prop:=
 Rd H a (.lst xs)\/
  ∃(o:Obj) (its:Array Value) (n:Nat),K.lookup a=some o/\o.cls= .type "list"/\o.dict=none/\o.data= .seq its n/\its.size<=sizeLine/\Vals xs its.toList
def SqT (K:PySem.W.Frag)(H:Hp)(a:Addr)(xs:List V):Prop:=
 Rd H a (.tup xs)\/
  ∃(o:Obj) (its:Array Value) (n:Nat),K.lookup a=some o/\o.cls= .type "tuple"/\o.data= .seq its n/\its.size<=sizeLine/\Vals xs its.toList
nonrec def absV:Value->Option V
 | .none=>some .non
 | .bool b=>some (.bl b)
 | .int i _=>some (.int i)
 | .str x _=>some (.str x)
 | .bytes b _=>some (.byt b)
 | .float b _=>some (.flt b)
 | .ref a=>some (.ref a)
 | .type n=>some (.ty n)
 | _=>none
theorem RelV.abs {x:V}(r:RelV x u):absV u=some x:=by
 cases x with
 | non=>cases r;rfl
 | bl _=>cases r;rfl
 | int _=>obtain⟨t,rfl⟩:=r;rfl
 | str _=>obtain⟨t,rfl⟩:=r;rfl
 | byt _=>obtain⟨t,rfl⟩:=r;rfl
 | flt _=>obtain⟨t,rfl⟩:=r;rfl
 | ref _=>cases r;rfl
 | ty _=>cases r;rfl
theorem RelV.inj {x y:V}(r:RelV x u)(q:RelV y u):x=y:=eQ (r.abs.symm.trans q.abs)
theorem Vals.inj: ∀{xs ys:List V} {us:List Value},Vals xs us->Vals ys us->xs=ys
 | _,_,_,.nil,.nil=>rfl
 | _,_,_,.cons r t,.cons r' t'=>by rw[r.inj r',Vals.inj t t']
section
variable {X:Cx}{pins:List (Addr×Obj)}{σ:St}{H:Hp}{s:Shared}{a:Addr}{xs ys:List V}
theorem SqL.of (h:H a=some (.lst xs)):SqL K H a xs:= .inl (.inl h)
theorem SqT.of (h:H a=some (.tup xs)):SqT K H a xs:= .inl (.inl h)
theorem Inv.list (I:Inv X pins σ H s)(h:SqL X.K H a xs): ∃its:List Value,Vals xs its/\PlainL s.heap a its.toArray/\xs.length<=sizeLine:=by
 rcases h with h| ⟨o,its,n,hk,hc,hd,hs,hz,r⟩
 .obtain⟨z,its,n,r,e⟩:=h.ok I.hok;exact⟨its,r,⟨_,n,e,rfl,rfl,rfl⟩,z⟩
 .refine⟨its.toList,r,⟨o,n,I.kIn a o hk,hc,hd,by exists hs⟩,?_⟩
  have e:=r.length;simp only[jA]at e
  lia
theorem Inv.tuple (I:Inv X pins σ H s)(h:SqT X.K H a xs): ∃its:List Value,Vals xs its/\IsTup s.heap a its.toArray/\xs.length<=sizeLine:=by
 rcases h with h| ⟨o,its,n,hk,hc,hs,hz,r⟩
 .obtain⟨z,its,r,p⟩:=h.ok I.hok;exact⟨its,r,p,z⟩
 .refine⟨its.toList,r,⟨o,I.kIn a o hk,hc,n,by exists hs⟩,?_⟩
  have e:=r.length;simp only[jA]at e
  lia
theorem Inv.list_inj (I:Inv X pins σ H s)(h:SqL X.K H a xs)(h':SqL X.K H a ys):xs=ys:=by
 obtain⟨its,r,⟨o,n,e,_,_,d⟩,_⟩:=I.list h;obtain⟨its',r',⟨o',n',e',_,_,d'⟩,_⟩:=I.list h';rw[e]at e';cases e';rw[d]at d'
 injection d' with d1 _
 have:its=its':=by simpa using bQ toList d1
 subst this;exact r.inj r'
theorem Inv.tuple_inj (I:Inv X pins σ H s)(h:SqT X.K H a xs)(h':SqT X.K H a ys):xs=ys:=by
 obtain⟨its,r,⟨o,e,_,n,d⟩,_⟩:=I.tuple h;obtain⟨its',r',⟨o',e',_,n',d'⟩,_⟩:=I.tuple h';rw[e]at e';cases e';rw[d]at d'
 injection d' with d1 _
 have:its=its':=by simpa using bQ toList d1
 subst this;exact r.inj r'
end
noncomputable abbrev Cx.wish (X:Cx)(E:Value->Shared->Prop):Cx:={X with xe:=E}
noncomputable abbrev Cx.nox (X:Cx):Cx:=X.wish λ_ _=>False
theorem Cx.Ok.wish {X:Cx}(ok:X.Ok)(E:Value->Shared->Prop):(X.wish E).Ok:=
 ⟨ok.mod,ok.kind,ok.glob,ok.blt,ok.above,ok.inj,ok.has,ok.cab,ok.hd,ok.frames,ok.stk,ok.exf,ok.bs,ok.bsz,ok.noex,ok.exfs,ok.funs,ok.frf⟩
theorem Cx.Ok.unwish {X:Cx}(ok:(X.wish E).Ok):X.Ok:=
 ⟨ok.mod,ok.kind,ok.glob,ok.blt,ok.above,ok.inj,ok.has,ok.cab,ok.hd,ok.frames,ok.stk,ok.exf,ok.bs,ok.bsz,ok.noex,ok.exfs,ok.funs,ok.frf⟩
section
variable {X:Cx}{pins:List (Addr×Obj)}{σ:St}{H:Hp}{s:Shared}{E:Value->Shared->Prop}
theorem Inv.wish (I:Inv X pins σ H s)(E:Value->Shared->Prop):Inv (X.wish E) pins σ H s:=⟨I.ok.wish E,I.os,I.bare,I.base,I.loc,I.cell,I.free,I.freeC,I.pin,I.hok,I.len⟩
theorem Inv.unwish (I:Inv (X.wish E) pins σ H s):Inv X pins σ H s:=⟨I.ok.unwish,I.os,I.bare,I.base,I.loc,I.cell,I.free,I.freeC,I.pin,I.hok,I.len⟩
theorem SP.unwish {D:zE}{f:Flow}(h:SP (X.wish E) pins D f s'):SP X pins D f s':=by
 cases f with
 | next=>obtain⟨σ',H',I,q⟩:=h;exact⟨σ',H',I.unwish,q⟩
 | brk=>obtain⟨σ',H',I,q⟩:=h;exact⟨σ',H',I.unwish,q⟩
 | cont=>obtain⟨σ',H',I,q⟩:=h;exact⟨σ',H',I.unwish,q⟩
 | ret u=>obtain⟨v,σ',H',I,r,q⟩:=h;exact⟨v,σ',H',I.unwish,r,q⟩
theorem PE.nox {t:TE}(h:PE X.nox e t):PE X e t:=λpins s σ H Q I hw=>
 aS (h pins s σ H Q (I.wish _) hw) (λ_ _ ⟨v,H',I',r,q⟩=>⟨v,H',I'.unwish,r,q⟩) λ_ _ z=>False.elim z
theorem PT.nox {t:TT}(h:PT X.nox e t):PT X e t:=λpins s σ H Q I hw=>
 aS (h pins s σ H Q (I.wish _) hw) (λ_ _ ⟨H',I',q⟩=>⟨H',I'.unwish,q⟩) λ_ _ z=>False.elim z
theorem PSs.nox {st:List Stmt}{t:TS}(h:PSs X.nox st t):PSs X st t:=λpins s σ H D I hw=>
 aS (h pins s σ H D (I.wish _) hw) (λ_ _ q=>q.unwish) λ_ _ z=>False.elim z
end
section
variable {X:Cx}{st:Stmt}{dJ:List Stmt}{t u:TS}{e:Expr}{te:TE}{pos:Pos}
def tNext:TS:=λD σ H=>D.nx σ H
def tSeq (t u:TS):TS:=λD σ H=>t {D with nx:=u D} σ H
theorem bV2:PSs X [] tNext:=λ_ _ σ H _ I h=>jE ⟨σ,H,I,h⟩
theorem aQ6 (h1:PS X st t)(h2:PSs X dJ u):PSs X (st::dJ) (tSeq t u):=by
 intro pins s σ H D I h;refine x8 (thn (h1 pins s σ H {D with nx:=u D} I h) λf s1 q=> ?_)
 cases f with
 | next=>
  obtain⟨σ',H',I',q⟩:=q;exact h2 pins s1 σ' H' D I' q
 | ret v=>exact q
 | brk=>exact q
 | cont=>exact q
theorem b49 (h1:PS X st t):PSs X [st] t:=by
 intro pins s σ H D I h;refine x8 (thn (h1 pins s σ H D I h) λf s1 q=> ?_)
 cases f with
 | next=>exact jE q
 | ret v=>exact q
 | brk=>exact q
 | cont=>exact q
theorem Inv.quiet {σ:St}{H:Hp}(I:Inv X pins σ H s):interactive X.env=false:=by simp[interactive,I.ok.kind]
def tDrop (te:TE):TS:=λD σ H=>te σ H λ_ H1=>D.nx σ H1
theorem bV3 (he:PE X e te)(hs:↥(swapsWith e none pos.line X.env=pure false)):PS X (.Expr e pos) (tDrop te):=by
 intro pins s σ H D I h;exact wpAny_Expr_any (thn (he pins s σ H _ I h) λv s1 ⟨x,H1,I1,r1,q1⟩=>⟨σ,H1,I1,q1⟩) I.quiet hs
def tRet (te:TE):TS:=λD σ H=>te σ H D.rt
theorem bF5 (he:PE X e te):PS X (.Return (some e) pos) (tRet te):=by
 intro pins s σ H D I h;exact wpAny_Return_some (thn (he pins s σ H _ I h) λv s1 ⟨x,H1,I1,r1,q1⟩=>⟨x,σ,H1,I1,r1,q1⟩)
def tIfS (c:TT)(t u:TS):TS:=λD σ H=>c σ H λb H1=>if b=true then t D σ H1 else u D σ H1
theorem c43 {a b:List Stmt}{tc:TT}(hc:PT X c tc)(ha:PSs X a t)(hb:PSs X b u):PS X (.If c a b pos) (tIfS tc t u):=by
 intro pins s σ H D I h;refine wpAny_If (thn (hc pins s σ H _ I h) λd s1 ⟨H1,I1,q1⟩=> ?_)
 cases d with
 | true=>exact ha pins s1 σ H1 D I1 q1
 | false=>exact hb pins s1 σ H1 D I1 q1
def tNever:TS:=λ_ _ _=>False
theorem bF6:PS X st tNever:=λ_ _ _ _ _ _ h=>h.elim
end
abbrev TG:=V->St->Hp->(St->Hp->Prop)->Prop
abbrev TGs:=List V->St->Hp->(St->Hp->Prop)->Prop
def PG (X:Cx)(target:Expr)(t:TG):Prop:=
 ∀(pins:List (Addr×Obj)) (s:Shared) (σ:St) (H:Hp) (v:V) (u:Value) (Q:St->Hp->Prop),Inv X pins σ H s->RelV v u->t v σ H Q->
  X∩(assign target X.env u) (λ_ s'=> ∃σ' H',Inv X pins σ' H' s'/\Q σ' H') X.xe s
def PGs (X:Cx)(ts:List Expr)(t:TGs):Prop:=
 ∀(pins:List (Addr×Obj)) (s:Shared) (σ:St) (H:Hp) (vs:List V) (us:List Value) (Q:St->Hp->Prop),Inv X pins σ H s->Vals vs us->t vs σ H Q->
  X∩(assignInOrder ((assignEach ts X.env).map (·.2)) us) (λ_ s'=> ∃σ' H',Inv X pins σ' H' s'/\Q σ' H') X.xe s
abbrev bF7:=V->V->V->Hp->(Hp->Prop)->Prop
def PSet (X:Cx)(t:bF7):Prop:=
 ∀(pins:List (Addr×Obj)) (s:Shared) (σ:St) (H:Hp) (o i v:V) (ov iv u:Value) (Q:Hp->Prop),Inv X pins σ H s->RelV o ov->RelV i iv->RelV v u->t o i v H Q->
  X∩(setItem ov iv u) (λ_ s'=> ∃H',Inv X pins σ H' s'/\Q H') X.xe s
abbrev TIp:=V->V->Hp->VK->Prop
def PIp (X:Cx)(op:Operator)(t:TIp):Prop:=
 ∀(pins:List (Addr×Obj)) (s:Shared) (σ:St) (H:Hp) (x y:V) (v u:Value) (Q:VK),Inv X pins σ H s->RelV x v->RelV y u->t x y H Q->
  X∩(inplaceOp op v u) (EP X pins σ Q) X.xe s
section
variable {X:Cx}{pos:Pos}
def vG (i:Nat):TG:=λv σ H Q=>Q (σ.set i<|some v) H
theorem eX (hN:X.N.Nodup)(hi:X.N[i]? =some x)(hx:Loc X.env.scope x)(hf:X.fn x=true\/X.env.scope.names.lookup x=some .local:=by walk_at "z"):PG X (.Name x pos) (vG i):=by
 intro pins s σ H v u Q I r h;exact wpAny_assign_Name (y3 I hN hi hx r (λs' I'=>⟨_,H,I',h⟩) hf)
def gNil:TGs:=λvs σ H Q=>vs=[]/\Q σ H
def gCons (t:TG)(u:TGs):TGs:=λvs σ H Q=> ∃v r,vs=v::r/\t v σ H λσ' H'=>u r σ' H' Q
theorem bV4:PGs X [] gNil:=by
 intro pins s σ H vs us Q I r h;obtain⟨e,h⟩:=h;exact assignInOrder_nil ⟨σ,H,I,h⟩
theorem bF8 {e:Expr}{es:List Expr}{t:TG}{u:TGs}(h1:PG X e t)(h2:PGs X es u)
  (hs:↥((assignEach (e::es) X.env).map (·.2)=assign e X.env::(assignEach es X.env).map (·.2))):PGs X (e::es) (gCons t u):=by
 intro pins s σ H vs us Q I r h;obtain⟨v,vr,e1,h⟩:=h;subst e1;cases r with
 | cons r rr=>
  rw[hs];refine assignInOrder_cons (thn (h1 pins s σ H _ _ _ I r h) λ_ s1 ⟨σ1,H1,I1,q1⟩=> ?_)
  exact h2 pins s1 σ1 H1 _ _ Q I1 rr q1
def gTup (K:PySem.W.Frag)(n:Nat)(t:TGs):TG:=λv σ H Q=> ∃a xs,v= .ref a/\SqT K H a xs/\xs.length=n/\t xs σ H Q
theorem pg_tup {t:TGs}(hc:X.calm=true)(h:PGs X es t)
  (hn:↥((assignEach es X.env).length=n)) (hst:↥((assignEach es X.env).findIdx? (·.1)=none)):PG X (.Tuple es k pos) (gTup X.K n t):=by
 intro pins s σ H v u Q I r hw;obtain⟨a,xs,e1,hq,hl,hw⟩:=hw;subst e1;cases r;obtain⟨its,rv,ht,hz⟩:=I.tuple hq;refine assign_Tuple_tuple (I.ok.hd hc) ht (by simp[hn,<-hl,rv.length]) hst λh' hx=> ?_
 have I1:Inv X pins σ H {s with heap:=h'}:=I.kept λb o e=>hx b o (aO<|aH e) e
 exact h pins _ σ H xs _ Q I1 (by exists rv) hw
def gSub (to ti:TE)(t:bF7):TG:=λv σ H Q=>to σ H λo H1=>ti σ H1 λi H2=>t o i v H2 λH3=>Q σ H3
theorem pg_sub {o i:Expr}{to ti:TE}{t:bF7}(ho:PE X o to)(hi:PE X i ti)(hs:PSet X t)
  (ha: ∀v,assign (.Subscript o i pos) X.env v=(do
   let ov<-holding [v] (eval o X.env)
   let iv<-holding [v,ov] (eval i X.env)
   standAt pos
   holding [v,ov,iv] (setItem ov iv v)
   release [v,ov,iv] []):=by intro _;rfl):PG X (.Subscript o i pos) (gSub to ti t):=by
 intro pins s σ H v u Q I r h;refine a6 (cC<|thn (ho pins s σ H _ I h) λov s1 ⟨x,H1,I1,r1,q1⟩=> ?_)
 refine a6 (cC<|thn (hi pins s1 σ H1 _ I1 q1) λiv s2 ⟨y,H2,I2,r2,q2⟩=> ?_)
 refine a6 (rY<|a6<|cC<|thn (hs pins s2 σ H2 x y v ov iv u _ I2 r1 r2 r q2) λ_ s3 ⟨H3,I3,q3⟩=> ?_)
 exact wpAny_release ⟨σ,H3,I3,q3⟩
def tAsg (te:TE)(g:TG):TS:=λD σ H=>te σ H λx H1=>g x σ H1 D.nx
theorem bF9 {te:TE}{g:TG}(he:PE X e te)(hg:PG X tg g)(hs:↥(swapsWithSole [tg] e pos.line X.env=pure false))(hw:↥(swappedStores [tg] e X.env=pure none))
  (h1:↥((assignEach [tg] X.env).map (·.2)=[assign tg X.env])):PS X (.Assign [tg] e pos) (tAsg te g):=by
 intro pins s σ H D I h;refine wpAny_Assign_stores (thn (he pins s σ H _ I h) λv s1 ⟨x,H1,I1,r1,q1⟩=> ?_) hs hw
 rw[h1];exact thn (hg pins s1 σ H1 x v _ I1 r1 q1) λ_ s2 q=>q
theorem bG0 {te:TE}(hN:X.N.Nodup)(hi:X.N[i]? =some x)(hx:Loc X.env.scope x)(he:PE X e te)(hs:↥(swapsWith e (some<|.Name x pos') pos.line X.env=pure false))(hf:X.fn x=true\/X.env.scope.names.lookup x=some .local:=by walk_at "z") :
  PS X (.Assign [.Name x pos'] e pos) (tAsg te<|vG i):=by
 intro pins s σ H D I h;refine wpAny_Assign_Name (thn (he pins s σ H _ I h) λv s1 ⟨y,H1,I1,r1,q1⟩=> ?_) hs
 exact y3 I1 hN hi hx r1 (λs2 I2=>⟨_,H1,I2,q1⟩) hf
def tAug (i:Nat)(te:TE)(ti:TIp):TS:=λD σ H=> ∃x,σ[i]? =some (some x)/\te σ H λy H1=>ti x y H1 λz H2=>D.nx (σ.set i<|some z) H2
theorem ps_aug {te:TE}{op:Operator}{ti:TIp}(hN:X.N.Nodup)(hi:X.N[i]? =some x)(hx:Loc X.env.scope x)(he:PE X e te)(ho:PIp X op ti)(hf:X.fn x=true\/X.env.scope.names.lookup x=some .local:=by walk_at "z") :
  PS X (.AugAssign (.Name x pos') op e pos) (tAug i te ti):=by
 intro pins s σ H D I h;obtain⟨v,e1,h⟩:=h;obtain⟨m,hn,hl⟩:=I.loc;have vis:Vis X.env.scope x:=by rcases hx with k|k;exact .inl k;exact .inr (.inl k)
 obtain⟨u,r,l⟩:=hl i x v hi e1 vis;refine wpAny_AugAssign_Name ?_;have go:X∩(eval e X.env) (λw s₂=>X∩(inplaceOp op u w) (λr s₃=>X∩(storeName X.env x r) (λ_=>SP X pins D .next) X.xe s₃) X.xe s₂) X.xe s:=by
  refine thn (he pins s σ H _ I h) λw s1 ⟨y,H1,I1,r1,q1⟩=> ?_
  refine thn (ho pins s1 σ H1 v y u w _ I1 r r1 q1) λz s2 ⟨zv,H2,I2,r2,q2⟩=> ?_
  exact y3 I2 hN hi hx r2 (λs3 I3=>⟨_,H2,I3,q2⟩) hf
 rcases l with⟨hk,hm⟩| ⟨hk,c,hc,hcell⟩
 .exact wpAny_loadName_local I.ok.kind hk hn hm go
 .rcases hk with hk|hk
  .exact wpAny_loadName_cell I.ok.kind hk hc hcell go
  .rcases hx with k|k
   .have:X.env.scope.names.lookup x=some .free:=hk;rw[k]at this;cases this
   .have:X.env.scope.names.lookup x=some .free:=hk;rw[k]at this;cases this
def tAugS (to ti te:TE)(tget:V->V->Hp->VK->Prop)(tip:TIp)(tset:bF7):TS:=λD σ H=>to σ H λo H1=>ti σ H1 λi H2=>tget o i H2 λx H3=>te σ H3 λy H4=>tip x y H4 λz H5=>tset o i z H5 λH6=>D.nx σ H6
def PGet (X:Cx)(t:V->V->Hp->VK->Prop):Prop:=
 ∀(pins:List (Addr×Obj)) (s:Shared) (σ:St) (H:Hp) (o i:V) (ov iv:Value) (Q:VK),Inv X pins σ H s->RelV o ov->RelV i iv->t o i H Q->
  X∩(getItem ov iv) (EP X pins σ Q) X.xe s
theorem bV5 {o i:Expr}{to ti te:TE}{tget:V->V->Hp->VK->Prop}{tip:TIp}{tset:bF7}{op:Operator}(ho:PE X o to)(hi:PE X i ti)(hg:PGet X tget)(he:PE X e te)(hp:PIp X op tip)(hs:PSet X tset)
  (ha: ∀ov iv new,augStore i ov iv new=(do holding [new,ov,iv] (setItem ov iv new);release [new,ov,iv] [];pure .next):=by intros;rfl):PS X (.AugAssign (.Subscript o i tpos) op e pos) (tAugS to ti te tget tip tset):=by
 intro pins s σ H D I h;refine wpAny_AugAssign_SubscriptAny (thn (ho pins s σ H _ I h) λov s1 ⟨x1,H1,I1,r1,q1⟩=> ?_) ha
 refine thn (hi pins s1 σ H1 _ I1 q1) λiv s2 ⟨x2,H2,I2,r2,q2⟩=> ?_
 refine thn (hg pins s2 σ H2 x1 x2 ov iv _ I2 r1 r2 q2) λold s3 ⟨x3,H3,I3,r3,q3⟩=> ?_
 refine thn (he pins s3 σ H3 _ I3 q3) λv s4 ⟨x4,H4,I4,r4,q4⟩=> ?_
 refine thn (hp pins s4 σ H4 x3 x4 old v _ I4 r3 r4 q4) λnew s5 ⟨x5,H5,I5,r5,q5⟩=> ?_
 exact thn (hs pins s5 σ H5 x1 x2 x5 ov iv new _ I5 r1 r2 r5 q5) λ_ s6 ⟨H6,I6,q6⟩=>⟨σ,H6,I6,q6⟩
def ipI (f:Int->Int->Int):TIp:=λx y H Q=> ∃i j,x= .int i/\y= .int j/\Q (.int<|f i j) H
theorem ip_add:PIp X .Add (ipI λi j=>i+j):=by
 intro pins s σ H x y v u Q I r1 r2 h;obtain⟨i,j,e1,e2,q⟩:=h;subst e1;subst e2;obtain⟨t,rfl⟩:=r1;obtain⟨t',rfl⟩:=r2;exact iadd_int ⟨.int _,H,I.tok _,⟨_,rfl⟩,q⟩
theorem bG1:PIp X .Sub (ipI λi j=>i-j):=by
 intro pins s σ H x y v u Q I r1 r2 h;obtain⟨i,j,e1,e2,q⟩:=h;subst e1;subst e2;obtain⟨t,rfl⟩:=r1;obtain⟨t',rfl⟩:=r2;exact isub_int ⟨.int _,H,I.tok _,⟨_,rfl⟩,q⟩
end
section
variable {X:Cx}{pos:Pos}
def tWhile (c:TT)(tb:TS):TS:=λD σ H=> ∃W:Nat->St->Hp->Prop,(∃m,W m σ H)/\ ∀m σ H,W m σ H->
 c σ H λb H1=>if b=true then ∃N:St->Hp->Prop,(∀σ' H',N σ' H'-> ∃m',m'<m/\W m' σ' H')/\tb {D with nx:=N,ct:=N,bk:=D.nx} σ H1 else D.nx σ H1
theorem bG2 {tc:TT}{tb:TS}(hp:PassesOwn (model X.prog X.w) X.A X.env X.xe)(hc:PT X c tc)(hb:PSs X body tb):PS X (.While c body [] pos) (tWhile tc tb):=by
 intro pins s σ H D I h;obtain⟨W,⟨m0,w0⟩,turn⟩:=h;refine wpAny_While (codeAny_whileLoop (λn s'=> ∃σ' H',Inv X pins σ' H' s'/\W n σ' H') ?_ m0 ⟨σ,H,I,w0⟩)
 rintro n s1 ⟨σ1,H1,I1,w1⟩;refine jF hp (thn (hc pins s1 σ1 H1 _ I1<|turn n σ1 H1 w1) λb s2 ⟨H2,I2,q2⟩=> ?_)
 cases b with
 | true=>
  obtain⟨N,hN,q2⟩:=q2;refine jF hp (thn (hb pins s2 σ1 H2 _ I2 q2) λf s3 q3=> ?_)
  cases f with
  | next=>
   obtain⟨σ3,H3,I3,n3⟩:=q3;obtain⟨m',hm,w3⟩:=hN σ3 H3 n3;exact⟨m',hm,σ3,H3,I3,w3⟩
  | cont=>
   obtain⟨σ3,H3,I3,n3⟩:=q3;obtain⟨m',hm,w3⟩:=hN σ3 H3 n3;exact⟨m',hm,σ3,H3,I3,w3⟩
  | brk=>exact q3
  | ret v=>exact q3
 | false=>
  exact jE ⟨σ1,H2,I2,q2⟩
end
structure It where
 go:Nat->Hp->Prop
 yld:Nat->Hp->V->Hp->Prop
 stop:Nat->Hp->Prop
def zF (X:Cx)(pins:List (Addr×Obj))(H:Hp)(b:Addr):Prop:=
 H b=none/\b≠X.env.locals/\b ∉ X.fs/\(b∈X.ex\/X.s₀.heap.objs.size<=b)/\(∀x c,X.env.cells.lookup x=some c->c≠b)/\ ∀p∈X.pn++pins,p.1≠b
theorem Inv.fpOk {X:Cx}{σ:St}{H H':Hp}{b:Addr}(I:Inv X pins σ H s)(hb:s.heap.objs.size<=b)(hn:H' b=none):zF X pins H' b:=by
 refine⟨hn,gP<|b7 I.lt hb,I.nofs hb,.inr<|aN I.sz hb,λx c e z=> ?_,λp hp z=> ?_⟩
 .obtain⟨v,q⟩:=I.cell x c e;exact absurd (b7 q.lt (by rw[z];exact hb)) (cZ _)
 .exact absurd (b7 (aH (I.pin p hp).1) (by rw[z];exact hb)) (cZ _)
structure aQ7 (P:Program)(w:World)(K:PySem.W.Frag)(tg:Expr)(J:It)(fp:List Addr)(it:Addr)(tn:Nat->Heap->Prop):Prop where
 mem:it∈fp
 obj: ∀i h,tn i h-> ∀b∈fp,∃o,h.get? b=some o/\ ∀v,o.data≠ .cell v
 keep: ∀i h h',tn i h->(∀b∈fp,∀o,h.get? b=some o->h'.get? b=some o)->tn i h'
 item: ∀(X:Cx),X.prog=P->X.w=w->X.K=K->X.calm=true-> ∀(i:Nat) (pins:List (Addr×Obj)) (s:Shared) (σ:St) (H:Hp) (E:Value->Shared->Prop),Inv X pins σ H s->(∀b∈fp,zF X pins H b)->tn i s.heap->J.go i H->
  wpAny (model P w) X.A (pyNext<|.ref it) (λr s1=> ∃u,r=some u/\
   wpAny (model P w) X.A (letOwnedTupleGo tg (.ref it) u) (λ_ s2=> ∃x H',Inv X pins σ H' s2/\RelV x u/\J.yld i H x H'/\tn (i+1) s2.heap/\ ∀b∈fp,H' b=none) E s1) E s
 done: ∀(X:Cx),X.prog=P->X.w=w->X.K=K->X.calm=true-> ∀(i:Nat) (pins:List (Addr×Obj)) (s:Shared) (σ:St) (H:Hp) (E:Value->Shared->Prop),Inv X pins σ H s->(∀b∈fp,zF X pins H b)->tn i s.heap->J.stop i H->
  wpAny (model P w) X.A (pyNext<|.ref it) (λr s1=>r=none/\Inv X pins σ H s1) E s
 self: ∀(A:Around) (i:Nat) (s:Shared) (Q:Value->Shared->Prop) (E:Value->Shared->Prop),tn i s.heap->Q (.ref it) s->wpAny (model P w) A (pyIter<|.ref it) Q E s
abbrev TI:=St->Hp->(It->Hp->Prop)->Prop
def PIE (X:Cx)(pins:List (Addr×Obj))(σ:St)(tg:Expr)(R:It->Hp->Prop)(itv:Value)(s2:Shared):Prop:=
 ∃(it:Addr) (fp:List Addr) (tn:Nat->Heap->Prop) (J:It) (H':Hp),itv= .ref it/\Inv X pins σ H' s2/\aQ7 X.prog X.w X.K tg J fp it tn/\tn 0 s2.heap/\(∀b∈fp,zF X pins H' b)/\R J H'
def PI (X:Cx)(tg iter:Expr)(wi:TI):Prop:=
 ∀(pins:List (Addr×Obj)) (s:Shared) (σ:St) (H:Hp) (R:It->Hp->Prop),Inv X pins σ H s->wi σ H R->
  X∩(eval iter X.env) (λv s1=>X∩(pyIter v) (PIE X pins σ tg R) X.xe s1) X.xe s
theorem aQ8 {M:Model}{n:String}{Q:Unit->Shared->Prop}(ho:s.heap.get? it=some o)(hc:o.cls= .type n)(hd:o.data= .fields vs)
  (hn:["enumerate","zip","dict_itemiterator","dict_reverseitemiterator","odict_iterator","itertools.zip_longest","itertools.pairwise"].contains n=false) (hQ:Q () s):wpAny M A (letOwnedTupleGo tg (.ref it) u) Q E s:=by
 unfold letOwnedTupleGo;cases tg<;>first
  | exact aA hQ
  | (cases u<;>first
    | exact aA hQ
    | (refine a6 (wpAny_load ho ?_)
       rw[hc,hd];show wpAny M A (if(["enumerate","zip","dict_itemiterator","dict_reverseitemiterator","odict_iterator","itertools.zip_longest","itertools.pairwise"].contains n&&vs[0]? ==some (rawInt _))=true then _ else _) Q E s;rw[a7 (by intro h;rw[hn,Bool.false_and]at h;cases h)]
       exact aA hQ))
nonrec def Itl (K:PySem.W.Frag)(a:Addr):It:=
 ⟨λi H=> ∃xs x,SqL K H a xs/\xs[i]? =some x,λi H x H'=>H'=H/\ ∀xs,SqL K H a xs->xs[i]? =some x,λi H=> ∃xs,SqL K H a xs/\xs.length<=i⟩
nonrec def Itt (K:PySem.W.Frag)(a:Addr):It:=
 ⟨λi H=> ∃xs x,SqT K H a xs/\xs[i]? =some x,λi H x H'=>H'=H/\ ∀xs,SqT K H a xs->xs[i]? =some x,λi H=> ∃xs,SqT K H a xs/\xs.length<=i⟩
nonrec def Itr (lo:Int)(n:Nat):It:=⟨λi _=>i<n,λi H x H'=>H'=H/\x= .int (lo+i),λi _=>n<=i⟩
theorem bA6 (a it:Addr):aQ7 P w K tg (Itl K a) [it] it (λi h=>h.IsListIter it a i) where
 mem:=ae
 obj:=λi h st b hb=>by
  have e:b=it:=by exists hb
  subst e;obtain⟨o,e,c,d⟩:=st;exact⟨o,e,λv z=>by rw[d]at z;cases z⟩
 keep:=λi h h' st k=>st.at λo e=>k it ae o e
 item:=by
  intro X hP hw hK hc i pins s σ H E I hf st hg;subst hP hw hK;obtain⟨xs,x,hq,hx⟩:=hg;obtain⟨its,rv,p,hz⟩:=I.list hq;obtain⟨u,hu,ru⟩:=rv.get hx;obtain⟨f0,f1,f2,f3,f4,f5⟩:=hf it ae
  refine wpAny_pyNext_list_item st p.isList (by exists hu) λh' st' sb=> ?_
  have I1:Inv X pins σ H {s with heap:=h'}:=I.turned (λb o hb e=>(sb.2 b hb).trans e) f0 f1 f3 f4 f5
  obtain⟨o,e,c,d⟩:=id st';exact⟨u,rfl,aQ8 e c d ac ⟨x,H,I1,ru,⟨rfl,λys hy=>by rw[I.list_inj hy hq];exact hx⟩,st',λb hb=>(hf b hb).1⟩⟩
 done:=by
  intro X hP hw hK hc i pins s σ H E I hf st hg;subst hP hw hK;obtain⟨xs,hq,hx⟩:=hg;obtain⟨its,rv,p,hz⟩:=I.list hq;obtain⟨f0,f1,f2,f3,f4,f5⟩:=hf it ae
  have hl:=rv.length;exact wpAny_pyNext_list_end (I.ok.hd hc) st p.isList (by simp;lia) λh' eb=>⟨rfl,I.turned (λb o hb e=>eb b o hb e) f0 f1 f3 f4 f5⟩
 self:=λ_ _ _ _ _ st h=>wpAny_pyIter_listiter st h
theorem aY5 (a it:Addr):aQ7 P w K tg (Itt K a) [it] it (λi h=>h.IsTupleIter it a i) where
 mem:=ae
 obj:=λi h st b hb=>by
  have e:b=it:=by exists hb
  subst e;obtain⟨o,e,c,d⟩:=st;exact⟨o,e,λv z=>by rw[d]at z;cases z⟩
 keep:=λi h h' st k=>st.at λo e=>k it ae o e
 item:=by
  intro X hP hw hK hc i pins s σ H E I hf st hg;subst hP hw hK;obtain⟨xs,x,hq,hx⟩:=hg;obtain⟨its,rv,p,hz⟩:=I.tuple hq;obtain⟨u,hu,ru⟩:=rv.get hx;obtain⟨f0,f1,f2,f3,f4,f5⟩:=hf it ae
  refine wpAny_pyNext_tuple_item st (show s.heap.IsTuple a its.toArray from p) (by exists hu) λh' st' sb=> ?_
  have I1:Inv X pins σ H {s with heap:=h'}:=I.turned (λb o hb e=>(sb.2 b hb).trans e) f0 f1 f3 f4 f5
  obtain⟨o,e,c,d⟩:=id st';exact⟨u,rfl,aQ8 e c d ac ⟨x,H,I1,ru,⟨rfl,λys hy=>by rw[I.tuple_inj hy hq];exact hx⟩,st',λb hb=>(hf b hb).1⟩⟩
 done:=by
  intro X hP hw hK hc i pins s σ H E I hf st hg;subst hP hw hK;obtain⟨xs,hq,hx⟩:=hg;obtain⟨its,rv,p,hz⟩:=I.tuple hq;obtain⟨f0,f1,f2,f3,f4,f5⟩:=hf it ae
  have hl:=rv.length;exact wpAny_pyNext_tuple_end (I.ok.hd hc) st (show s.heap.IsTuple a its.toArray from p) (by simp;lia) λh' eb=>⟨rfl,I.turned (λb o hb e=>eb b o hb e) f0 f1 f3 f4 f5⟩
 self:=λ_ _ _ _ _ st h=>wpAny_pyIter_tupleiter st h
theorem aY6 (it:Addr)(lo:Int)(n:Nat):aQ7 P w K tg (Itr lo n) [it] it (λi h=>IsRangeIter h it (lo+(i:Nat)*1) ((n:Int)-(i:Nat)) 1) where
 mem:=ae
 obj:=λi h st b hb=>by
  have e:b=it:=by exists hb
  subst e;exact⟨_,st,λv z=>by
   have z':Data.fields _=Data.cell v:=z;cases z'⟩
 keep:=λi h h' st k=>k it ae _ st
 item:=by
  intro X hP hw hK hc i pins s σ H E I hf st hg;subst hP hw hK;obtain⟨f0,f1,f2,f3,f4,f5⟩:=hf it ae
  have W:=Walks.range (prog:=X.prog) (w:=X.w) (I.ok.hd hc) it lo 1 n;refine W.item i s _ _ hg st λv h' tk hv st' kk=> ?_
  obtain⟨t,rfl⟩:=hv;have I1:Inv X pins σ H {s with heap:=h',toks:=tk}:=I.turned (λb o hb e=>kk b o (by exists hb) e) f0 f1 f3 f4 f5
  refine⟨_,rfl,aQ8 st' rfl rfl ac ⟨.int<|lo+i,H,I1,⟨t,?_⟩,⟨rfl,rfl⟩,st',λb hb=>(hf b hb).1⟩⟩
  rw[sG]
 done:=by
  intro X hP hw hK hc i pins s σ H E I hf st hg;obtain⟨f0,f1,f2,f3,f4,f5⟩:=hf it ae
  exact wpAny_pyNext_range_end (I.ok.hd hc) st (by have:n<=i:=hg;lia) λh' eb=>⟨rfl,I.turned (λb o hb e=>eb b o hb e) f0 f1 f3 f4 f5⟩
 self:=λ_ _ _ _ _ st h=>wE st h
section
variable {X:Cx}{tg:Expr}
theorem aQ9 {σ:St}{H:Hp}{R:It->Hp->Prop}{hi:Int}{t u v:Tok}{tk:Nat}(I:Inv X pins σ H s)(h1: -(2^62)<=lo)(h2:lo<2^62)(h3: -(2^62)<=hi)(h4:hi<2^62)
  (q:R (Itr lo (hi-lo).toNat) H):X∩(pyIter<|.ref s.heap.objs.size) (PIE X pins σ tg R) E {s with heap:=s.heap.push {cls:= .type "range",data:= .fields #[.int lo t,.int hi u,.int 1 v]},toks:=tk}:=by
 refine wpAny_pyIter_range (IsRange.new ..) (small_one h1 h2 h3 h4) ?_
 have I1:Inv X pins σ H {s with heap:=s.heap.push {cls:= .type "range",data:= .fields #[.int lo t,.int hi u,.int 1 v]},toks:=tk}:=I.kept λb o e=>aJ _ e
 refine⟨(s.heap.push {cls:= .type "range",data:= .fields #[.int lo t,.int hi u,.int 1 v]}).objs.size,[(s.heap.push {cls:= .type "range",data:= .fields #[.int lo t,.int hi u,.int 1 v]}).objs.size],_,_,H,rfl,
  I1.kept (t':=tk) λb o e=>aJ _ e,aY6 _ lo (hi-lo).toNat,?_,λb hb=> ?_,q⟩
 .have e1:lo+((0:Nat):Int)*1=lo:=ae
  have e2:(((hi-lo).toNat:Nat):Int)-((0:Nat):Int)=Builtin.Range.rangeSize lo hi 1:=by rw[rangeSize_one];split<;>lia
  show IsRangeIter _ _ (lo+((0:Nat):Int)*1) ((((hi-lo).toNat:Nat):Int)-((0:Nat):Int)) 1
  rw[e1,e2];exact aY _ rfl
 .have e:b=(s.heap.push {cls:= .type "range",data:= .fields #[.int lo t,.int hi u,.int 1 v]}).objs.size:=by exists hb
  subst e;exact I1.fpOk (aC _) (I1.hok.fresh<|aC _)
def iRng1 (ta:TA):TI:=λσ H R=>ta σ H λvs H1=> ∃j:Int,vs=[.int j]/\ -(2^62)<=j/\j<2^62/\R (Itr 0 j.toNat) H1
def iRng2 (ta:TA):TI:=λσ H R=>ta σ H λvs H1=> ∃i j:Int,vs=[.int i,.int j]/\(-(2^62)<=i/\i<2^62/\ -(2^62)<=j/\j<2^62)/\R (Itr i (j-i).toNat) H1
theorem bA7 {a:Expr}{ta:TA}(hg:Gl X "range")(hm:X.mg "range"=none)(ha:PA X [a] ta)(hs:↥(starEach [a] X.env=[(false,eval a X.env)])):PI X tg (.Call (.Name "range" p) [a] [] pos) (iRng1 ta):=by
 intro pins s σ H R I h;refine Call_ (mM I hg hm boot_range<|gH (thn (ha pos pins s σ H _ I h) λus s1 ⟨vs,H1,I1,r1,q1⟩=> ?_) hs rfl)
 obtain⟨j,e,q1,q2,q⟩:=q1;subst e;cases r1 with
 | cons r rr=>
  cases rr;obtain⟨t,rfl⟩:=r;exact call_range_1 (aQ9 I1 ad ad q1 q2<|by exists q)
theorem bA8 {a b:Expr}{ta:TA}(hg:Gl X "range")(hm:X.mg "range"=none)(ha:PA X [a,b] ta)(hs:↥(starEach [a,b] X.env=[(false,eval a X.env),(false,eval b X.env)]))(hs2:↥(starEach [b] X.env=[(false,eval b X.env)])) :
  PI X tg (.Call (.Name "range" p) [a,b] [] pos) (iRng2 ta):=by
 intro pins s σ H R I h;refine Call_ (mM I hg hm boot_range<|gH (thn (ha pos pins s σ H _ I h) λus s1 ⟨vs,H1,I1,r1,q1⟩=> ?_) (by rw[hs,hs2]) (by rw[hs2];rfl))
 obtain⟨i,j,e,⟨q1,q2,q3,q4⟩,q⟩:=q1;subst e;cases r1 with
 | cons r rr=>
  cases rr with
  | cons r' rr=>
   cases rr;obtain⟨t,rfl⟩:=r;obtain⟨t',rfl⟩:=r';exact call_range_2 (aQ9 I1 q1 q2 q3 q4 q)
def tFor (wi:TI)(g:TG)(tb:TS):TS:=λD σ H=>wi σ H λJ H1=> ∃W:Nat->Nat->St->Hp->Prop,(∃m,W 0 m σ H1)/\ ∀i m σ H,W i m σ H->
 (J.stop i H/\D.nx σ H)\/(J.go i H/\ ∃N:St->Hp->Prop,(∀σ' H',N σ' H'-> ∃m',m'<m/\W (i+1) m' σ' H')/\ ∀x H',J.yld i H x H'->g x σ H' λσ2 H2=>tb {D with nx:=N,ct:=N,bk:=D.nx} σ2 H2)
nonrec def a68 (fp:List Addr)(h:Heap):List (Addr×Obj):=fp.filterMap λb=>(h.get? b).map λo=>(b,o)
theorem sL {b:Addr}(hb:b∈fp)(e:h.get? b=some o):(b,o)∈a68 fp h:=wR.mpr ⟨b,hb,by rw[e];rfl⟩
theorem bA9 {p:Addr×Obj}(hp:p∈a68 fp h):p.1∈fp/\h.get? p.1=some p.2:=by
 obtain⟨b,hb,e⟩:=wR.mp hp;cases q:h.get? b with
 | none=>rw[q]at e;cases e
 | some o=>
  rw[q]at e;have e':(b,o)=p:=eQ e;subst e';exact⟨hb,q⟩
theorem Inv.pinned {σ:St}{H:Hp}(I:Inv X pins σ H s)(hf: ∀b∈fp,zF X pins H b)(ho: ∀b∈fp,∃o,s.heap.get? b=some o/\ ∀v,o.data≠ .cell v):Inv X (pins++a68 fp s.heap) σ H s:=
 I.pins_of λp hp=>(bH.mp hp).elim (λz=>I.pin p (cI _ z)) λz=>by
  obtain⟨hb,e⟩:=bA9 z;obtain⟨f0,f1,f2,_⟩:=hf p.1 hb;obtain⟨o,e',d⟩:=ho p.1 hb;rw[e]at e';cases e';exact⟨e,f0,f1,f2,d⟩
theorem Inv.unpinned {pl:List (Addr×Obj)}{σ:St}{H:Hp}(I:Inv X (pins++pl) σ H s):Inv X pins σ H s:=I.pins_of λp hp=>I.pin p (cI _<|kH _ hp)
theorem ps_for {wi:TI}{g:TG}{tb:TS}(hp:PassesOwn (model X.prog X.w) X.A X.env X.xe)(hc:X.calm=true)(hi:PI X tg iter wi)(hg:PG X tg g)(hb:PSs X body tb)
  (hs: ∀x,foldedSetIterable iter X.env x=pure x:=by intro _;rfl):PS X (.For tg iter body [] pos) (tFor wi g tb):=by
 intro pins s σ H D I h;refine wpAny_For (thn (hi pins s σ H _ I h) λv s1 h1=>thn h1 λitv s2 h2=> ?_) hs
 obtain⟨it,fp,tn,J,H2,e,I2,T,st2,f2,W,⟨m0,w0⟩,turn⟩:=h2;subst e;have stat: ∀{H':Hp},(∀b∈fp,H' b=none)-> ∀b∈fp,zF X pins H' b:=λhn b hb=>⟨hn b hb,(f2 b hb).2⟩
 refine codeAny_forLoop_any (λn s'=> ∃i σ' H',Inv X pins σ' H' s'/\tn i s'.heap/\(∀b∈fp,H' b=none)/\W i n σ' H') ?_ m0 ⟨0,σ,H2,I2,st2,λb hb=>(f2 b hb).1,w0⟩
 rintro n s3 ⟨i,σ3,H3,I3,st3,fr3,w3⟩;rcases turn i n σ3 H3 w3 with⟨stop,qn⟩| ⟨go,N,hN,step⟩
 .refine jF hp (thn (T.done X rfl rfl rfl hc i pins s3 σ3 H3 X.xe I3 (stat fr3) st3 stop) λr s4 ⟨hr,I4⟩=> ?_)
  subst hr;exact jE ⟨σ3,H3,I4,qn⟩
 .refine jF hp (thn (T.item X rfl rfl rfl hc i pins s3 σ3 H3 X.xe I3 (stat fr3) st3 go) λr s4 ⟨u,hr,h4⟩=> ?_)
  subst hr;refine jF hp (thn h4 λ_ s5 ⟨x,H5,I5,r5,y5,st5,fr5⟩=> ?_)
  have I5':=I5.pinned (stat fr5) (T.obj _ _ st5);refine jF hp (thn (hg _ s5 σ3 H5 x u _ I5' r5<|step x H5 y5) λ_ s6 ⟨σ6,H6,I6,q6⟩=> ?_)
  refine jF hp (thn (hb _ s6 σ6 H6 _ I6 q6) λf s7 q7=> ?_)
  have again: ∀{σ7:St} {H7:Hp},Inv X (pins++a68 fp s5.heap) σ7 H7 s7->N σ7 H7-> ∃m,m<n/\ ∃i σ' H',Inv X pins σ' H' s7/\tn i s7.heap/\(∀b∈fp,H' b=none)/\W i m σ' H':=λ{σ7 H7} I7 n7=>by
   obtain⟨m',hm,w7⟩:=hN σ7 H7 n7;refine⟨m',hm,i+1,σ7,H7,I7.unpinned,T.keep _ _ _ st5 λb hb o e=>(I7.pin (b,o)<|cI _<|cI _<|sL hb e).1,λb hb=> ?_,w7⟩
   obtain⟨o,e,d⟩:=T.obj _ _ st5 b hb;exact(I7.pin (b,o)<|cI _<|cI _<|sL hb e).2.1
  cases f with
  | next=>obtain⟨σ7,H7,I7,n7⟩:=q7;exact again I7 n7
  | cont=>obtain⟨σ7,H7,I7,n7⟩:=q7;exact again I7 n7
  | brk=>obtain⟨σ7,H7,I7,q7⟩:=q7;exact⟨σ7,H7,I7.unpinned,q7⟩
  | ret v=>obtain⟨x7,σ7,H7,I7,r7,q7⟩:=q7;exact⟨x7,σ7,H7,I7.unpinned,r7,q7⟩
end
abbrev R2:=V->V->Hp->VK->Prop
def OpR (X:Cx)(f:Value->Value->Sem Value)(r:R2):Prop:=
 ∀(pins:List (Addr×Obj)) (s:Shared) (σ:St) (H:Hp) (x y:V) (v u:Value) (Q:VK),Inv X pins σ H s->RelV x v->RelV y u->r x y H Q->
  X∩(f v u) (EP X pins σ Q) X.xe s
def UnR (X:Cx)(f:Value->Sem Value)(r:V->Hp->VK->Prop):Prop:=
 ∀(pins:List (Addr×Obj)) (s:Shared) (σ:St) (H:Hp) (x:V) (v:Value) (Q:VK),Inv X pins σ H s->RelV x v->r x H Q->
  X∩(f v) (EP X pins σ Q) X.xe s
def jV (X:Cx)(f:Value)(r:List V->Hp->VK->Prop):Prop:=
 ∀(pins:List (Addr×Obj)) (s:Shared) (σ:St) (H:Hp) (xs:List V) (us:List Value) (Q:VK),Inv X pins σ H s->Vals xs us->r xs H Q->
  X∩(call f us) (EP X pins σ Q) X.xe s
def tOp (r:R2)(ta tb:TE):TE:=λσ H Q=>ta σ H λx H1=>tb σ H1 λy H2=>r x y H2 Q
def tUn (r:V->Hp->VK->Prop)(ta:TE):TE:=λσ H Q=>ta σ H λx H1=>r x H1 Q
def rI (C:Int->Int->Prop)(g:Int->Int->V):R2:=λx y H Q=> ∃i j,x= .int i/\y= .int j/\C i j/\Q (g i j) H
def rI0 (g:Int->Int->V):R2:=λx y H Q=> ∃i j,x= .int i/\y= .int j/\Q (g i j) H
def rU (g:Int->V):V->Hp->VK->Prop:=λx H Q=> ∃i,x= .int i/\Q (g i) H
section
variable {X:Cx}{a b c:Expr}{ta tb tc:TE}{pos:Pos}
theorem binT (ha:PE X a ta)(hb:PE X b tb){σ:St}{H:Hp}{R:V->V->Hp->Prop}(I:Inv X pins σ H s)
  (h:ta σ H λx H1=>tb σ H1 λy H2=>R x y H2) {Q:Value->Shared->Prop} {f:Value->Value->Sem Value}
  (hf: ∀v u s2 x y H2,Inv X pins σ H2 s2->RelV x v->RelV y u->R x y H2->X∩(f v u) Q X.xe s2) :
  X∩(eval a X.env) (λv s₁=>X∩(eval b X.env) (λu s₂=>X∩(f v u) Q X.xe s₂) X.xe s₁) X.xe s:=by
 refine thn (ha pins s σ H _ I h) λv s1 ⟨x,H1,I1,r1,q1⟩=> ?_
 refine thn (hb pins s1 σ H1 _ I1 q1) λu s2 ⟨y,H2,I2,r2,q2⟩=> ?_
 exact hf v u s2 x y H2 I2 r1 r2 q2
theorem pe_op {op:Operator}{r:R2}(ho:OpR X (binaryOp op) r)(ha:PE X a ta)(hb:PE X b tb):PE X (.BinOp a op b pos) (tOp r ta tb):=by
 intro pins s σ H Q I h;exact wpAny_BinOp (binT ha hb I h λv u s2 x y H2 I2 rx ry q=>ho pins s2 σ H2 x y v u Q I2 rx ry q)
theorem pe_un {op:UnaryOp}{r:V->Hp->VK->Prop}(ho:UnR X (unaryOp op) r)(ha:PE X a ta):PE X (.UnaryOp op a pos) (tUn r ta):=by
 intro pins s σ H Q I h;exact UnaryOp_ (thn (ha pins s σ H _ I h) λv s1 ⟨x,H1,I1,r1,q1⟩=>ho pins s1 σ H1 x v Q I1 r1 q1)
theorem opI {f:Value->Value->Sem Value}{C:Int->Int->Prop}{g:Int->Int->Int}
  (rule: ∀(i j:Int) (t u:Tok) (s:Shared) (Q:Value->Shared->Prop) (E:Value->Shared->Prop),C i j->Q (.int (g i j) s.toks) {s with toks:=s.toks+1}->X∩(f (.int i t)<|.int j u) Q E s) :
  OpR X f (rI C λi j=> .int (g i j)):=by
 intro pins s σ H x y v u Q I rx ry h;obtain⟨i,j,rfl,rfl,hc,q⟩:=h;obtain⟨t,rfl⟩:=rx;obtain⟨t',rfl⟩:=ry;exact rule i j t t' s _ _ hc ⟨.int<|g i j,H,I.tok _,⟨_,rfl⟩,q⟩
theorem opI0 {f:Value->Value->Sem Value}{g:Int->Int->Int}
  (rule: ∀(i j:Int) (t u:Tok) (s:Shared) (Q:Value->Shared->Prop) (E:Value->Shared->Prop),Q (.int (g i j) s.toks) {s with toks:=s.toks+1}->X∩(f (.int i t)<|.int j u) Q E s) :
  OpR X f (rI0 λi j=> .int (g i j)):=by
 intro pins s σ H x y v u Q I rx ry h;obtain⟨i,j,rfl,rfl,q⟩:=h;obtain⟨t,rfl⟩:=rx;obtain⟨t',rfl⟩:=ry;exact rule i j t t' s _ _ ⟨.int<|g i j,H,I.tok _,⟨_,rfl⟩,q⟩
theorem bV6 {f:Value->Value->Sem Value}{g:Int->Int->Bool}
  (rule: ∀(i j:Int) (t u:Tok) (s:Shared) (Q:Value->Shared->Prop) (E:Value->Shared->Prop),Q (.bool<|g i j) s->X∩(f (.int i t)<|.int j u) Q E s) :
  OpR X f (rI0 λi j=> .bl (g i j)):=by
 intro pins s σ H x y v u Q I rx ry h;obtain⟨i,j,rfl,rfl,q⟩:=h;obtain⟨t,rfl⟩:=rx;obtain⟨t',rfl⟩:=ry;exact rule i j t t' s _ _ ⟨.bl<|g i j,H,I,rfl,q⟩
def bG3 (i j:Int):Prop:=0<=j/\j<=1000000/\i.natAbs<2^64
def aY7 (i j:Int):Prop:=(-(2^64)<i/\i<2^64)\/(-(2^64)<j/\j<2^64)
theorem aY7.ok {i j:Int}(h:aY7 i j):IntMulOk i j:=by
 rcases h with⟨h1,h2⟩| ⟨h1,h2⟩
 .exact .of_left (intBits_le_64 h1 h2)
 .exact .of_right (intBits_le_64 h1 h2)
theorem op_add:OpR X (binaryOp .Add) (rI0 λi j=> .int (i+j)):=opI0 λ_ _ _ _ _ _ _ q=>add_int q
theorem op_sub:OpR X (binaryOp .Sub) (rI0 λi j=> .int (i-j)):=opI0 λ_ _ _ _ _ _ _ q=>sub_int q
theorem bV7:OpR X (binaryOp .Mod) (rI (λ_ j=>j≠0) λi j=> .int (i.fmod j)):=opI λ_ _ _ _ _ _ _ hc q=>mod_int' hc q
theorem op_pow:OpR X (binaryOp .Pow) (rI bG3 λi j=> .int (i^j.toNat)):=opI λ_ _ _ _ _ _ _ hc q=>pow_int_small hc.1 hc.2.1 hc.2.2 q
theorem unI {f:Value->Sem Value}{g:Int->Int}
  (rule: ∀(i:Int) (t:Tok) (s:Shared) (Q:Value->Shared->Prop) (E:Value->Shared->Prop),Q (.int (g i) s.toks) {s with toks:=s.toks+1}->X∩(f<|.int i t) Q E s) :
  UnR X f (rU λi=> .int (g i)):=by
 intro pins s σ H x v Q I rx h;obtain⟨i,rfl,q⟩:=h;obtain⟨t,rfl⟩:=rx;exact rule i t s _ _ ⟨.int<|g i,H,I.tok _,⟨_,rfl⟩,q⟩
theorem un_neg:UnR X (unaryOp .USub) (rU λi=> .int (-i)):=unI λ_ _ _ _ _ q=>neg_int q
end
nonrec def scal:V->V->Bool
 | .non,.non=>true| .non,.int _=>true| .int _,.non=>true| .non,.bl _=>true| .bl _,.non=>true| .non,.str _=>true| .str _,.non=>true
 | .int _,.int _=>true| .bl _,.bl _=>true| .str _,.str _=>true| .byt _,.byt _=>true
 | .int _,.str _=>true| .str _,.int _=>true| .bl _,.str _=>true| .str _,.bl _=>true
 | _,_=>false
nonrec def rEq:R2:=λx y H Q=>scal x y=true/\Q (.bl<|decide (x=y)) H
nonrec def rNe:R2:=λx y H Q=>scal x y=true/\Q (.bl<|!decide (x=y)) H
theorem a54 {i j:Int}:decide (V.int i=V.int j)=(i==j):=by
 rw[rS];simp
theorem aK2 {i j:Bool}:decide (V.bl i=V.bl j)=(i==j):=by
 rw[rS];simp
theorem a55 {i j:Str}:decide (V.str i=V.str j)=(i==j):=by
 rw[rS];simp
theorem b50 {i j:Array UInt8}:decide (V.byt i=V.byt j)=(i.toList==j.toList):=by
 rw[rS];cases i;cases j;simp
section
variable {X:Cx}{a b c:Expr}{ta tb tc:TE}{pos:Pos}
theorem d8 {σ:St}{H:Hp}{Q:VK}{k k':Bool}(I:Inv X pins σ H s)(q:Q (.bl k) H)(e:k=k'):EP X pins σ Q (.bool k') s:=by
 subst e;exact⟨.bl k,H,I,rfl,q⟩
theorem bG4:OpR X (compareOp .Eq) rEq:=by
 intro pins s σ H x y v u Q I rx ry h;obtain⟨hs,q⟩:=h;cases x with
 | non=>
  cases rx;cases y with
  | non=>cases ry;exact PySem.EqNone.eq_none_none (d8 I q ae)
  | bl j=>cases ry;exact PySem.EqNone.eq_none_bool (d8 I q ae)
  | int j=>obtain⟨t',rfl⟩:=ry;exact PySem.EqNone.eq_none_int (d8 I q ae)
  | str j=>obtain⟨t',rfl⟩:=ry;exact PySem.EqNone.eq_none_str (d8 I q ae)
  | _=>exact absurd (show false=true from hs) bG
 | bl i=>
  cases rx;cases y with
  | non=>cases ry;exact PySem.EqNone.eq_bool_none (d8 I q ae)
  | bl j=>cases ry;exact eq_bool (d8 I q aK2)
  | str j=>obtain⟨t',rfl⟩:=ry;exact PySem.EqMixed.eq_bool_str (d8 I q ae)
  | _=>exact absurd (show false=true from hs) bG
 | int i=>
  obtain⟨t,rfl⟩:=rx;cases y with
  | non=>cases ry;exact PySem.EqNone.eq_int_none (d8 I q ae)
  | int j=>obtain⟨t',rfl⟩:=ry;exact eq_int (d8 I q a54)
  | str j=>obtain⟨t',rfl⟩:=ry;exact PySem.EqMixed.eq_int_str (d8 I q ae)
  | _=>exact absurd (show false=true from hs) bG
 | str i=>
  obtain⟨t,rfl⟩:=rx;cases y with
  | non=>cases ry;exact PySem.EqNone.eq_str_none (d8 I q ae)
  | bl j=>cases ry;exact PySem.EqMixed.eq_str_bool (d8 I q ae)
  | int j=>obtain⟨t',rfl⟩:=ry;exact PySem.EqMixed.eq_str_int (d8 I q ae)
  | str j=>obtain⟨t',rfl⟩:=ry;exact eq_str (d8 I q a55)
  | _=>exact absurd (show false=true from hs) bG
 | byt i=>
  obtain⟨t,rfl⟩:=rx;cases y with
  | byt j=>obtain⟨t',rfl⟩:=ry;exact PySem.W.eq_bytes (d8 I q b50)
  | _=>exact absurd (show false=true from hs) bG
 | _=>cases y<;>exact absurd (show false=true from hs) bG
theorem bG5:OpR X (compareOp .NotEq) rNe:=by
 intro pins s σ H x y v u Q I rx ry h;obtain⟨hs,q⟩:=h;cases x with
 | non=>
  cases rx;cases y with
  | non=>cases ry;exact PySem.EqNone.ne_none_none (d8 I q ae)
  | bl j=>cases ry;exact PySem.EqNone.ne_none_bool (d8 I q ae)
  | int j=>obtain⟨t',rfl⟩:=ry;exact PySem.EqNone.ne_none_int (d8 I q ae)
  | str j=>obtain⟨t',rfl⟩:=ry;exact PySem.EqNone.ne_none_str (d8 I q ae)
  | _=>exact absurd (show false=true from hs) bG
 | bl i=>
  cases rx;cases y with
  | non=>cases ry;exact PySem.EqNone.ne_bool_none (d8 I q ae)
  | bl j=>cases ry;exact ne_bool (d8 I q<|bQ not aK2)
  | str j=>obtain⟨t',rfl⟩:=ry;exact PySem.EqMixed.ne_bool_str (d8 I q ae)
  | _=>exact absurd (show false=true from hs) bG
 | int i=>
  obtain⟨t,rfl⟩:=rx;cases y with
  | non=>cases ry;exact PySem.EqNone.ne_int_none (d8 I q ae)
  | int j=>obtain⟨t',rfl⟩:=ry;exact ne_int (d8 I q<|bQ not a54)
  | str j=>obtain⟨t',rfl⟩:=ry;exact PySem.EqMixed.ne_int_str (d8 I q ae)
  | _=>exact absurd (show false=true from hs) bG
 | str i=>
  obtain⟨t,rfl⟩:=rx;cases y with
  | non=>cases ry;exact PySem.EqNone.ne_str_none (d8 I q ae)
  | bl j=>cases ry;exact PySem.EqMixed.ne_str_bool (d8 I q ae)
  | int j=>obtain⟨t',rfl⟩:=ry;exact PySem.EqMixed.ne_str_int (d8 I q ae)
  | str j=>obtain⟨t',rfl⟩:=ry;exact ne_str (d8 I q<|bQ not a55)
  | _=>exact absurd (show false=true from hs) bG
 | byt i=>
  obtain⟨t,rfl⟩:=rx;cases y with
  | byt j=>obtain⟨t',rfl⟩:=ry;exact PySem.W.ne_bytes (d8 I q<|bQ not b50)
  | _=>exact absurd (show false=true from hs) bG
 | _=>cases y<;>exact absurd (show false=true from hs) bG
theorem op_lt:OpR X (compareOp .Lt) (rI0 λi j=> .bl (decide (i<j))):=bV6 λ_ _ _ _ _ _ _ q=>lt_int q
theorem op_le:OpR X (compareOp .LtE) (rI0 λi j=> .bl (decide (i<=j))):=bV6 λ_ _ _ _ _ _ _ q=>le_int q
theorem op_gt:OpR X (compareOp .Gt) (rI0 λi j=> .bl (decide (j<i))):=bV6 λ_ _ _ _ _ _ _ q=>gt_int q
theorem op_ge:OpR X (compareOp .GtE) (rI0 λi j=> .bl (decide (j<=i))):=bV6 λ_ _ _ _ _ _ _ q=>ge_int q
theorem OpR.or {f:Value->Value->Sem Value}{r r':R2}(h:OpR X f r)(h':OpR X f r'):OpR X f (λx y H Q=>r x y H Q\/r' x y H Q):=by
 intro pins s σ H x y v u Q I rx ry q;rcases q with q|q
 .exact h pins s σ H x y v u Q I rx ry q
 .exact h' pins s σ H x y v u Q I rx ry q
theorem aK3 (b:Expr)(h:⇑(op≠ .In))(h2:⇑(op≠ .NotIn)):behindInMarks op b=false:=by
 have e1:(op==CmpOp.In)=false:=by cases op<;>first|rfl|exact absurd rfl h
 have e2:(op==CmpOp.NotIn)=false:=by cases op<;>first|rfl|exact absurd rfl h2
 cases b<;>simp[behindInMarks,e1,e2]
theorem bV8 {r:R2}(ho:OpR X (compareOp op) r)(ha:PE X a ta)(hb:PE X b tb)(hm:behindInMarks op b=false):PE X (.Compare a [op] [b] pos) (tOp r ta tb):=by
 intro pins s σ H Q I h;exact wpAny_Compare1 (binT ha hb I h λv u s2 x y H2 I2 rx ry q=>ho pins s2 σ H2 x y v u Q I2 rx ry q) hm
def tTest (t:TE):TT:=λσ H Q=>t σ H λx H'=> ∃k,x= .bl k/\Q k H'
theorem bV9 {r:R2}(ho:OpR X (compareOp op) r)(ha:PE X a ta)(hb:PE X b tb)(hm:behindInMarks op b=false):PT X (.Compare a [op] [b] pos) (tTest<|tOp r ta tb):=by
 intro pins s σ H Q I h;refine wpAny_isTrue_Compare1 (thn (ha pins s σ H _ I h) λv s1 ⟨x,H1,I1,r1,q1⟩=>thn (hb pins s1 σ H1 _ I1 q1) λu s2 ⟨y,H2,I2,r2,q2⟩=>
  thn (ho pins s2 σ H2 x y v u _ I2 r1 r2 q2) λc s3 ⟨z,H3,I3,r3,k,e,q3⟩=> ?_) hm
 subst e;cases r3;exact jB ⟨H3,I3,q3⟩
def tChain (r r':R2)(ta tb tc:TE):TE:=λσ H Q=>ta σ H λx H1=>tb σ H1 λy H2=>r x y H2 λz H3=> ∃k,z= .bl k/\
 (if k=true then tc σ H3 λw' H4=>r' y w' H4 Q else Q (.bl false) H3)
theorem bG6 {op op':CmpOp}{r r':R2}(ho:OpR X (compareOp op) r)(ho':OpR X (compareOp op') r')(ha:PE X a ta)(hb:PE X b tb)(hc:PE X c tc)
  (hm:lastMarks [op,op'] [b,c]=false:=by with_unfolding_all rfl):PE X (.Compare a [op,op'] [b,c] pos) (tChain r r' ta tb tc):=by
 intro pins s σ H Q I h;refine Compare_chain (thn (ha pins s σ H _ I h) λv s1 ⟨x,H1,I1,r1,q1⟩=>chain_link (thn (hb pins s1 σ H1 _ I1 q1) λu s2 ⟨y,H2,I2,r2,q2⟩=>
  thn (ho pins s2 σ H2 x y v u _ I2 r1 r2 q2) λd s3 ⟨z,H3,I3,r3,k,e,q3⟩=> ?_)) hm
 subst e;cases r3;refine jB ?_;cases k with
 | false=>exact ite_ff ⟨.bl false,H3,I3,rfl,q3⟩
 | true=>exact ite_tt (chain_last<|thn (hc pins s3 σ H3 _ I3 q3) λw' s4 ⟨z',H4,I4,r4,q4⟩=>ho' pins s4 σ H4 y z' u w' Q I4 r2 r4 q4)
theorem zG:(sizeLine:Nat)<2^63:=by rw[sizeLine_eq];decide
theorem vals1 {x:V}(r:Vals [x] us): ∃u,us=[u]/\RelV x u:=by
 cases r with
 | cons r1 r2=>cases r2;exact⟨_,rfl,r1⟩
theorem vals2 {x y:V}(r:Vals [x,y] us): ∃u w',us=[u,w']/\RelV x u/\RelV y w':=by
 cases r with
 | cons r1 r2=>
  cases r2 with
  | cons r3 r4=>cases r4;exact⟨_,_,rfl,r1,r3⟩
theorem bG7:jV X (.builtin "abs") (λxs H Q=> ∃i,xs=[.int i]/\Q (.int<|if i<0 then -i else i) H):=by
 intro pins s σ H xs us Q I r h;obtain⟨i,rfl,q⟩:=h;obtain⟨u,rfl,t,rfl⟩:=vals1 r;exact call_abs_int λu tk=>⟨.int<|if i<0 then -i else i,H,I.tok _,⟨_,rfl⟩,q⟩
theorem bB0 (hc:X.calm=true):jV X (.builtin "max") (λxs H Q=> ∃i j,xs=[.int i,.int j]/\Q (.int<|if j>i then j else i) H):=by
 intro pins s σ H xs us Q I r h;obtain⟨i,j,rfl,q⟩:=h;obtain⟨u,w',rfl,⟨t,rfl⟩,⟨t',rfl⟩⟩:=vals2 r;refine max_two_ints (I.ok.hd hc) λh' tk k=>⟨_,H,I.kept k,?_,q⟩
 by_cases hj:j>i
 .rw[a8 hj,a8 hj];exact⟨_,rfl⟩
 .rw[a7 hj,a7 hj];exact⟨_,rfl⟩
theorem aF0:jV X (.type "int") (λxs H Q=>(∃i,xs=[.int i]/\Q (.int i) H)\/ ∃k,xs=[.bl k]/\Q (.int<|if k then 1 else 0) H):=by
 intro pins s σ H xs us Q I r h;rcases h with⟨i,rfl,q⟩| ⟨k,rfl,q⟩
 .obtain⟨u,rfl,t,rfl⟩:=vals1 r;exact call_int_int ⟨.int i,H,I,⟨_,rfl⟩,q⟩
 .obtain⟨u,rfl,r1⟩:=vals1 r;cases r1;exact call_int_bool ⟨.int<|if k then 1 else 0,H,I.tok _,⟨_,rfl⟩,q⟩
end
structure ObjM (h:Heap)(x dx C:Addr)(mA:Str->Option Value):Prop where
 obj:h.get? x=some (instObj C dx)
 ns:h.Ns1 dx mA
 ne:dx≠x
theorem bB1 {dx:Addr}{mA:Str->Option Value}(n:h.Ns1 dx mA): ∃od,h.get? dx=some od/\ ∀name,lookIn name od=some (mA name):=by
 obtain⟨o,es,ep,ho,hd,hk,_,hm⟩:=n;refine⟨o,ho,λname=> ?_⟩
 have e:=hm name;unfold nsFind findBy at e;rw[<-Array.find?_toList]at e;unfold lookIn;rw[hd];right;split
 .rename_i y q
  rw[q]at e;exact bQ some e
 .rename_i q
  rw[q]at e;have a:es.toList.any (·.refKey)=false:=by
   rw[List.any_eq_false];intro y hy;obtain⟨z,t,hkey⟩:=hk y (Array.mem_toList_iff.mp hy);simp[DictEntry.refKey,hkey]
  have a': ¬es.toList.any (·.refKey)=true:=by rw[a];exact bG
  rw[a7 a'];exact bQ some e
theorem ObjM.look {x dx:Addr}{mA:Str->Option Value}(I:ObjM h x dx C mA): ∃od,PySem.W.InstAt h x (instObj C dx) C (some od)/\ ∀name,lookIn name od=some (mA name):=
 let ⟨od,ho,hl⟩:=bB1 I.ns
 ⟨od,⟨I.obj,rfl,rfl,ho⟩,hl⟩
theorem bU7.none_of {o:Option Value}(r:bU7 none o):o=none:=by
 cases o with
 | none=>rfl
 | some u=>exact(show False from r).elim
structure Cls (K:PySem.W.Frag)(C:Addr):Prop where
 pg:PySem.W.plainGet K C Str.empty=true
 hd:PySem.W.hasDictIn K C=true
 po:PySem.W.plainOver K C=true
 sa:PySem.W.findIn K (.ref C) "__setattr__"=some (some<|.builtin "object.__setattr__")
theorem Cls.get (c:Cls K C)(f:Str):PySem.W.plainGet K C f=true:=c.pg
def NoAttr (K:PySem.W.Frag)(C:Addr)(f:Str):Prop:=PySem.W.findIn K (.ref C) f=some none
section
variable {X:Cx}{pins:List (Addr×Obj)}{σ:St}{H:Hp}{s:Shared}{a C dx:Addr}{fs:List (Str×V)}{f:Str}{v:V}{A:Around}{E:Value->Shared->Prop}
theorem Inv.made (I:Inv X pins σ H s):Inv X pins σ (upd (upd H s.heap.objs.size<|.own<|s.heap.objs.size+1) (s.heap.objs.size+1)<|.ins C s.heap.objs.size [])
  {s with heap:=(s.heap.push emptyDict).push (instObj C s.heap.objs.size)}:=by
 have e1:(s.heap.push emptyDict).get? s.heap.objs.size=some emptyDict:=aY s.heap rfl;have e2:((s.heap.push emptyDict).push<|instObj C s.heap.objs.size).get? (s.heap.objs.size+1)=some (instObj C s.heap.objs.size):=by
  have:=aY (s.heap.push emptyDict) (o:=instObj C s.heap.objs.size) rfl
  rwa [dD]at this
 have e3:(s.heap.push emptyDict).Ns s.heap.objs.size (λ_=>none):=⟨emptyDict,#[],_,e1,rfl,(λe he=>absurd he ae),λ_=>rfl⟩
 have I1:=I.laid (a:=s.heap.objs.size) (o:= .own (s.heap.objs.size+1)) (h':=s.heap.push emptyDict) (t':=s.toks) (λb u q=>aJ _ q) (aC _) ⟨_,e1⟩
 refine I1.laid (a:=s.heap.objs.size+1) (o:= .ins C s.heap.objs.size []) (t':=s.toks) (λb u q=>aJ _ q) (le_of_eq<|dD _ _) ?_
 have ne:s.heap.objs.size≠s.heap.objs.size+1:=aO (jC _);refine⟨by rw[cG ne,jU],cK _,ne,e2,λ_=>none,(Heap.Ns1.of_empty e3).at λo q=>aJ _ q,λ_=>True.intro,λy hy=>absurd rfl hy⟩
end
structure gR (k:Nat)(A:Around):Prop where
 hd:A.handled=none
 dp:A.depth+3*k+5<recursionLimit
 un:A.units+16*k+200<cLine
theorem gR.mono (r:gR k A)(h:j<=k):gR j A:=⟨r.hd,by have:=r.dp;lia,by have:=r.un;lia⟩
theorem gR.deeper (r:gR (k+1) A)(env:Env):gR k (A.deeper env):=
 ⟨r.hd,by have:=r.dp;show A.depth+1+3*k+5<_;lia,by have:=r.un;show A.units+3+16*k+200<_;lia⟩
theorem gR.in1 (r:gR (k+1) A):gR k A.in1:=
 ⟨r.hd,by have:=r.dp;show A.depth+3*k+5<_;lia,by have:=r.un;show A.units+1+16*k+200<_;lia⟩
theorem gR.depth (r:gR k A):A.depth<recursionLimit:=by have:=r.dp;lia
theorem gR.units (r:gR k A):A.units+64<cLine:=by have:=r.un;lia
def tNil:TA:=λ_ H Q=>Q [] H
def tCons (ta:TE)(tr:TA):TA:=λσ H Q=>ta σ H λx H1=>tr σ H1 λxs H2=>Q (x::xs) H2
section
variable {X:Cx}{e:Expr}{es:List Expr}{te:TE}{t:TA}{pos:Pos}
theorem aY8:PA X [] tNil:=λ_ _ _ _ H Q I h=>wT ⟨[],H,I,.nil,h⟩
theorem aK4 (ha:PE X e te)(hr:PA X es t)(hs:↥(starEach (e::es) X.env=(false,eval e X.env)::starEach es X.env)):PA X (e::es) (tCons te t):=by
 intro pos pins s σ H Q I h;rw[hs];show wpAny _ _ (spliced ((false,eval e X.env)::backTo pos (starEach es X.env))) _ _ s;refine wS (thn (ha pins s σ H _ I h) λu s1 ⟨x,H1,I1,r1,q1⟩=> ?_)
 exact thn (hr pos pins s1 σ H1 _ I1 q1) λus s2 ⟨xs,H2,I2,r2,q2⟩=>⟨x::xs,H2,I2,.cons r1 r2,q2⟩
def tTup (t:TA):TE:=λσ H Q=>t σ H λxs H1=>xs.length<=sizeLine/\ ∀p,H1 p=none->Q (.ref p) (upd H1 p<|.tup xs)
def tLst (t:TA):TE:=λσ H Q=>t σ H λxs H1=>xs.length<=sizeLine/\ ∀p,H1 p=none->Q (.ref p) (upd H1 p<|.lst xs)
theorem pe_tup {x1}(h:PA X es t):PE X (.Tuple es x1 pos) (tTup t):=by
 intro pins s σ H Q I hq;refine wpAny_Tuple_spliced (thn (h pos pins s σ H _ I hq) λus s1 ⟨xs,H1,I1,r,z,q⟩=>⟨by rw[<-r.length];exact z,?_⟩)
 have hf:H1 s1.heap.objs.size=none:=I1.hok.fresh (aC _);refine⟨.ref s1.heap.objs.size,upd H1 s1.heap.objs.size<|.tup xs,I1.laid (λb u e=>aJ _ e) (aC _) ?_,rfl,q _ hf⟩
 exact⟨z,us,r,⟨_,aY _ rfl,rfl,_,rfl⟩⟩
theorem pe_lst (h:PA X es t):PE X (.List es pos) (tLst t):=by
 intro pins s σ H Q I hq;refine wpAny_List_spliced (thn (h pos pins s σ H _ I hq) λus s1 ⟨xs,H1,I1,r,z,q⟩=>⟨by rw[<-r.length];exact z,?_⟩)
 have hf:H1 s1.heap.objs.size=none:=I1.hok.fresh (aC _);refine⟨.ref s1.heap.objs.size,upd H1 s1.heap.objs.size<|.lst xs,I1.laid (λb u e=>aJ _ e) (aC _) ?_,rfl,q _ hf⟩
 exact⟨z,us,0,r,aY _ rfl⟩
end
abbrev Sp:=List V->Hp->VK->XK->Prop
abbrev CXT:=List Env->Hp->Shared->XK->Value->Shared->Prop
structure aY9 (P:Program)(w:World)(K:PySem.W.Frag)(mg:Str->Option Value)(base:Heap)(A:Around)(outer:List Env)(s:Shared)(H:Hp):Prop where
 frames:A.frames=some outer
 mod:Mod K mg base
 bs: ∀b o,base.get? b=some o->s.heap.get? b=some o/\H b=none
 bsz:base.objs.size<=s.heap.objs.size
 funs:s.heap.FunFrames base outer
 frf: ∀b∈frs outer,H b=none
 hok:HOk P w H s.heap
 bare:AllBare s.gens
def CE (outer:List Env)(P:Program)(w:World)(H:Hp)(s:Shared)(Q:VK)(u:Value)(s':Shared):Prop:=
 ∃v H',s'.os=s.os/\AllBare s'.gens/\Un (frs outer) [] H H' s.heap s'.heap/\HOk P w H' s'.heap/\RelV v u/\Q v H'
def CR (CX:CXT)(outer:List Env)(P:Program)(w:World)(H:Hp)(s:Shared)(Q:VK)(E:XK)(r:Result)(s':Shared):Prop:=
 match r with
 | .ok (.ret u)=>CE outer P w H s Q u s'
 | .ok _=>False
 | .error e=>CX outer H s E e s'
structure pL (P:Program)(w:World)(K:PySem.W.Frag)(mg:Str->Option Value)(base:Heap)(CX:CXT)(k:Nat)(f:Addr)(fd:FuncData)(ps:List Str)(sp:Sp):Prop where
 len: ∀vs H Q E,sp vs H Q E->vs.length=ps.length
 run: ∀(A:Around) (outer:List Env) (s:Shared) (H:Hp) (args:Args) (us:List Value) (vs:List V) (Q:VK) (E:XK),gR k A->aY9 P w K mg base A outer s H->BindsTo s fd args (ps.zip us)->Vals vs us->sp vs H Q E->
  codeAny (model P w) A (.call (.ref f) args) (CR CX outer P w H s Q E) s
theorem pL.mono {CX:CXT}{ps:List Str}{sp:Sp}(F:pL<$>CX j f fd ps sp)(h:j<=k) :
  pL P w K mg base CX k f fd ps sp:=⟨F.len,λA outer s H args us vs Q E hr=>F.run A outer s H args us vs Q E (hr.mono h)⟩
theorem pL.imp {CX:CXT}{ps:List Str}{sp sp':Sp}(F:pL<$>CX k f fd ps sp)
  (h: ∀vs H Q E,sp' vs H Q E->sp vs H Q E):pL<$>CX k f fd ps sp':=
 ⟨λvs H Q E q=>F.len vs H Q E (h _ _ _ _ q),λA outer s H args us vs Q E hr he hb hv hs=>F.run A outer s H args us vs Q E hr he hb hv (h _ _ _ _ hs)⟩
theorem aY9.in1 {H:Hp}(e:aY9<$>A outer s H) :
  aY9 P w K mg base A.in1 outer s H:=⟨e.frames,e.mod,e.bs,e.bsz,e.funs,e.frf,e.hok,e.bare⟩
section
variable {X:Cx}{pins:List (Addr×Obj)}{σ:St}{H:Hp}{s s':Shared}
theorem Inv.env0 (I:Inv X pins σ H s):aY9 X.prog X.w X.K X.mg X.base X.A X.stack s H:=
 ⟨I.ok.frames,I.ok.mod,I.bs,aN I.ok.bsz I.sz,I.stack,I.stkFree,I.hok,I.bare⟩
theorem Inv.after {Q:VK}(I:Inv X pins σ H s)(h:CE X.stack X.prog X.w H s Q u s'):EP X pins σ Q u s':=by
 obtain⟨v,H',os,bare,un,hok,r,q⟩:=h;obtain⟨hh,g,d,t,os'⟩:=s';obtain rfl:os'=s.os:=os;exact⟨v,H',I.call (h':=hh) (g':=g) (d':=d) (t':=t) (ch:=[]) un hok bare λb z=>absurd z ae,r,q⟩
end
def b51 (sp:Sp)(dvs:List V)(E:XK)(t:TA):TE:=λσ H Q=>t σ H λvs H1=>sp (vs++dvs) H1 Q E
def Binds (K:PySem.W.Frag)(fd:FuncData)(ps:List Str)(ds:List Value):Prop:=
 ∀(s:Shared) (us:List Value),K.In s.heap->(us++ds).length=ps.length->BindsTo s fd ⟨us,[]⟩ (ps.zip<|us++ds)
theorem Binds.all {ps:List Str}(h: ∀us:List Value,us.length=ps.length->bindArgs fd ⟨us,[]⟩=pure (ps.zip us)):Binds K fd ps []:=λs us _ hl=>by
 rw[iB]at hl⊢;exact .of_eq (h us hl)
def xG (CX:CXT)(X:Cx)(E:XK):Prop:= ∀(pins:List (Addr×Obj)) (σ:St) (H:Hp) (s:Shared) (e:Value) (s':Shared),Inv X pins σ H s->CX X.stack H s E e s'->X.xe e s'
section
variable {X:Cx}{CX:CXT}{k:Nat}{f C:Addr}{fd:FuncData}{ps:List Str}{sp:Sp}{dvs:List V}{ds:List Value}{E:XK}{x m:Str}{p pos apos:Pos}{e o:Expr}{es:List Expr}{ta:TE}{t:TA}
theorem bG8 {pins:List (Addr×Obj)}{σ:St}{H:Hp}{s:Shared}{Q:VK}{us:List Value}{vs:List V}(F:pL X.prog X.w X.K X.mg X.base CX k f fd ps sp)(hr:gR k X.A)(hb:Binds X.K fd ps ds)(hd:Vals dvs ds)(hx:xG CX X E)
  (I:Inv X pins σ H s) (r:Vals vs us) (h:sp (vs++dvs) H Q E):X∩(call (.ref f) us) (EP X pins σ Q) X.xe s:=by
 have r2:Vals (vs++dvs) (us++ds):=r.append hd;have hl:(us++ds).length=ps.length:=by rw[<-r2.length];exact F.len _ _ _ _ h
 refine wpAny_call (kU (F.run X.A X.stack s H ⟨us,[]⟩ (us++ds) (vs++dvs) Q E hr I.env0 (hb s us I.kIn hl) r2 h) λr s' hq=> ?_)
 cases r with
 | error e=>exact hx pins σ H s e s' I hq
 | ok fl=>
  cases fl with
  | ret u=>exact I.after hq
  | next=>exact False.elim hq
  | brk=>exact False.elim hq
  | cont=>exact False.elim hq
theorem b52 (F:pL X.prog X.w X.K X.mg X.base CX k f fd ps sp)(hr:gR k X.A)(hg:Gl X x)(hm:X.mg x=some (.ref f))(hk:keepIn X.K (.ref f)=true)(hb:Binds X.K fd ps ds)(hd:Vals dvs ds)(hx:xG CX X E)
  (ha:PA X (e::es) t) (hdb:⇑(x∪0)) (he:↥(starEach (e::es) X.env=(false,eval e X.env)::starEach es X.env)) (hpl:↥((backTo pos<|starEach es X.env).any (·.1)=false)) :
  PE X (.Call (.Name x p) (e::es) [] pos) (b51 sp dvs E t):=by
 intro pins s σ H Q I h;refine kM (sK I hg hm ?_ hdb);refine PySem.W.callWith_K (h₀:=X.base) I.ok.mod.kin hk (thn (ha pos pins s σ H _ I h) λus s1 ⟨vs,H1,I1,r,q⟩=>⟨I1.kIn,?_⟩) he hpl
 exact bG8 F hr hb hd hx I1 r q
theorem bG9 (F:pL X.prog X.w X.K X.mg X.base CX k f fd ps sp)(hr:gR k X.A)(hg:Gl X x)(hm:X.mg x=some (.ref f))(hk:keepIn X.K (.ref f)=true)(hb:Binds X.K fd ps ds)(hd:Vals dvs ds)(hx:xG CX X E)
  (hdb:⇑(x∪0)):PE X (.Call (.Name x p) [] [] pos) (b51 sp dvs E tNil):=by
 intro pins s σ H Q I h;refine kM (sK I hg hm ?_ hdb);exact PySem.W.callWith_K0 I.kIn hk (bG8 F hr hb hd hx I .nil h)
end
section
variable {X:Cx}{CX:CXT}{k:Nat}{f C:Addr}{fd:FuncData}{ps ks:List Str}{sp:Sp}{E:XK}{x m:Str}{p pos apos kpos:Pos}{e o:Expr}{es:List Expr}{kws:List Keyword}{te ta:TE}{t tk:TA}{nm:Option Str}
variable {g:List Value->List Value->List Value}{gV:List V->List V->List V}
end
structure bN (N P:List Str)(sc:Scope):Prop where
 kind:sc.kind= .function
 co:sc.isCoroutine=false
 gen:sc.isGenerator=false
 nd:N.Nodup
 pre:N.take P.length=P
 par: ∀x∈P,sc.names.lookup x=some .local\/sc.names.lookup x=some .cell
 nofree: ∀y∈sc.names,y.2≠ .free
theorem aF1 {kindOf:Str->Option NameKind}{x:Str}: ∀{binds:List (Str×Value)} {m:Str->Option Value},(∀v,(x,v) ∉ binds)->bindL kindOf binds m x=m x
 | [],_,_=>rfl
 | (n,v)::r,m,h=>by
  unfold bindL;rw[aF1 λw hw=>h w (aU _ hw)]
  split
  .have:x≠n:=by rintro rfl;exact h v aL
   simp[this]
  .rfl
theorem aF2 {kindOf:Str->Option NameKind}{x:Str}: ∀{binds:List (Str×Value)} {m:Str->Option Value},(∀v,(x,v) ∉ binds)->bindC kindOf binds m x=m x
 | [],_,_=>rfl
 | (n,v)::r,m,h=>by
  unfold bindC;rw[aF2 λw hw=>h w (aU _ hw)]
  split
  .rfl
  .have:x≠n:=by rintro rfl;exact h v aL
   simp[this]
theorem aF3 {kindOf:Str->Option NameKind}{x:Str}{v:Value}: ∀{P:List Str} {vs:List Value} {i:Nat} {m:Str->Option Value},P.Nodup->P[i]? =some x->vs[i]? =some v->kindOf x=some .local->
  bindL kindOf (P.zip vs) m x=some v
 | [],_,_,_,_,h,_,_=>by simp at h
 | _::_,[],_,_,_,_,h,_=>by simp at h
 | p::P,w::vs,0,m,nd,h1,h2,hk=>by
  simp at h1 h2;subst h1;subst h2
  show bindL kindOf ((p,w)::P.zip vs) m p=_
  unfold bindL;rw[aF1 λv hv=>(iC.mp nd).1 (xC hv).1,a8 hk]
  simp
 | p::P,w::vs,i+1,m,nd,h1,h2,hk=>by
  show bindL kindOf ((p,w)::P.zip vs) m x=_
  exact aF3 (i:=i) (iC.mp nd).2 (by exists h1) (by exists h2) hk
theorem aF4 {kindOf:Str->Option NameKind}{x:Str}{v:Value}: ∀{P:List Str} {vs:List Value} {i:Nat} {m:Str->Option Value},P.Nodup->P[i]? =some x->vs[i]? =some v->kindOf x≠some .local->
  bindC kindOf (P.zip vs) m x=some v
 | [],_,_,_,_,h,_,_=>by simp at h
 | _::_,[],_,_,_,_,h,_=>by simp at h
 | p::P,w::vs,0,m,nd,h1,h2,hk=>by
  simp at h1 h2;subst h1;subst h2
  show bindC kindOf ((p,w)::P.zip vs) m p=_
  unfold bindC;rw[aF2 λv hv=>(iC.mp nd).1 (xC hv).1,a7 hk]
  simp
 | p::P,w::vs,i+1,m,nd,h1,h2,hk=>by
  show bindC kindOf ((p,w)::P.zip vs) m x=_
  exact aF4 (i:=i) (iC.mp nd).2 (by exists h1) (by exists h2) hk
nonrec def start (N:List Str)(vs:List V):St:=vs.map some++replicate (N.length-vs.length) none
nonrec def sM (CX:CXT)(P:Program)(w:World)(K:PySem.W.Frag)(mg:Str->Option Value)(base:Heap)(N:List Str)(qual:Str)(scope:Scope)(f:Addr)(cd:Value)(A:Around)(outer:List Env)(s:Shared)(H:Hp)(E:XK):Cx where
 prog:=P
 w:=w
 K:=K
 mg:=mg
 base:=base
 A:=A.deeper (envOfC qual scope s.heap.objs.size f cd)
 N:=N
 s₀:=s
 H₀:=H
 env:=envOfC qual scope s.heap.objs.size f cd
 outer:=outer
 stack:=envOfC qual scope s.heap.objs.size f cd::outer
 ex:=[]
 calm:=true
 fn:=λ_=>true
 pn:=[]
 xe:=λe s'=>wpAny (model P w) (A.deeper<|envOfC qual scope s.heap.objs.size f cd) (leaving (envOfC qual scope s.heap.objs.size f cd) e) (λ_ s''=>CX outer H s E e s'') (λe' s''=>CX outer H s E e' s'') s'
theorem aR0 {sc:Scope}(h:sc.names.lookup x=some .cell): ∃c,(cellsFrom n sc.names []).lookup x=some c:=by
 have q:=wF sc.names n [] (.inl h);exact rE.mp q
theorem bB2 {CX:CXT}{ps:List Str}{cd:Value}{s1:Shared}{H:Hp}{E:XK}{vs:List V}
  (S:bN N ps scope) (hd:A.handled=none) (e0:aY9<$>A outer s H) (hl:vs.length=ps.length) (r:Vals vs us)
  (x:InCallC s s.heap.objs.size (bindL (envOfC qual scope s.heap.objs.size f cd).kindOf (ps.zip us) λ_=>none) (cellsFrom (s.heap.objs.size+1) scope.names []) (bindC (envOfC qual scope s.heap.objs.size f cd).kindOf (ps.zip us) λ_=>none) s1) :
  Inv (sM CX P w K mg base N qual scope f cd A outer s H E) [] (start N vs) H s1:=by
 have hpl:ps.length<=N.length:=by have:=bQ List.length S.pre;rw[x9]at this;lia
 obtain⟨h1,tk,rfl,hk⟩:=x.done;have noA: ∀b:Addr,b ∉ (sM CX P w K mg base N qual scope f cd A outer s H E).ex:=λb z=>absurd (show b∈([]:List Addr)from z) ae
 refine⟨⟨e0.mod,S.kind,rfl,rfl,aC _,λy z c h1 h2=> ?_,λy hy=> ?_,λy c _ h=> ?_,λ_=>hd,Around.frames_deeper e0.frames,.inr ⟨rfl,rfl⟩,λb z=>absurd z (noA b),e0.bs,e0.bsz,λb _ _=>noA b,λb z=>absurd z (noA b),e0.funs,e0.frf⟩,
  rfl,e0.bare,Un.kept hk,⟨_,x.toInCall.ns,λi y v h1 h2 h3=> ?_⟩,λy c h=>⟨_,x.cell y c h⟩,e0.hok.fresh<|aC _,λy c h=> ?_,λp hp=>absurd (show p∈([]:List (Addr×Obj))from hp) ae,e0.hok.kept hk,?_⟩
 .exact name_of_addr x.apart (kJ h1) (kJ h2)
 .have hy:scope.names.lookup y=some .cell\/scope.names.lookup y=some .free:=hy;rcases hy with hy|hy
  .exact aR0 hy
  .exact absurd rfl (S.nofree _<|kJ hy)
 .exact jI (x.above y c<|kJ h)
 .have hi:i<vs.length:=by
   unfold start at h2
   by_cases hi:i<vs.length
   .exact hi
   .rw[vV<|by simpa using hi]at h2
    rw[nV]at h2;split at h2<;>cases h2
  have ha:vs[i]? =some v:=by
   unfold start at h2;rw[rC<|by simpa using hi,bP]at h2
   cases e:vs[i]? with
   | none=>rw[e]at h2;cases h2
   | some a=>rw[e]at h2;cases h2;rfl
  obtain⟨u,hu,rv⟩:=r.get ha;have hp:ps[i]? =some y:=by
   rw[<-S.pre,List.getElem?_take_of_lt ad];exact h1
  have ndP:ps.Nodup:=by rw[<-S.pre];exact S.nd.sublist (List.take_sublist _ _)
  refine⟨u,rv,?_⟩
  rcases S.par y (wK hp)with k|k
  .exact .inl ⟨k,aF3 ndP hp hu k⟩
  .obtain⟨c,e⟩:=aR0 k;refine .inr ⟨.inl k,c,e,?_⟩;have q:=x.cell y c e;rw[aF4 ndP hp hu (by show scope.names.lookup y≠_;rw[k];decide)]at q
   exact q
 .exact e0.hok.fresh (jI<|x.above y c<|kJ h)
 .unfold start;show _=N.length;rw[cE,aK,cQ]
  lia
theorem c44 {CX:CXT}{P:Program}{w:World}{K:PySem.W.Frag}{mg:Str->Option Value}{base:Heap}{k:Nat}{f:Addr}{name qual:Str}{params:Arguments}{body:List Stmt}{scope:Scope}{dV kV doc pm cdv ct oc:Value}{an od:Option Addr}
  {osl:Array (Option Value)} {N ps:List Str} {sp:Sp} (lk:K.lookup f=some ⟨oc,od,.func<|fnOf name qual params body scope dV kV doc pm an cdv ct,osl⟩) (hcd:codeIn K cdv qual=true) (S:bN N ps scope)
  (len: ∀vs H Q E,sp vs H Q E->vs.length=ps.length)
  (hbody: ∀(A:Around) (outer:List Env) (s:Shared) (H:Hp) (vs:List V) (Q:VK) (E:XK),gR k (A.deeper<|envOfC qual scope s.heap.objs.size f cdv)->sp vs H Q E->
   ∃t,PSs (sM CX P w K mg base N qual scope f cdv A outer s H E) body t/\t {nx:=λ_ H'=>Q .non H',rt:=Q} (start N vs) H) :
  pL P w K mg base CX (k+1) f (fnOf name qual params body scope dV kV doc pm an cdv ct) ps sp:=by
 refine⟨len,λA outer s H args us vs Q E hr e0 hb r hsp=> ?_⟩
 have hl:=len _ _ _ _ hsp;have KX:K.In s.heap:=e0.mod.kin.keeps λb o e=>(e0.bs b o e).1
 have lim:s.heap.NoLimit:=e0.mod.nolimit.keeps λb o e=>(e0.bs b o e).1
 have hkind: ∀y∈ps.zip us,scope.names.lookup y.1=some .local\/(scope.names.lookup y.1=some .cell/\((cellsFrom (s.heap.objs.size+1) scope.names []).lookup y.1).isSome=true):=λ⟨n,v⟩ hy=>by
  rcases S.par n (xC hy).1 with q|q
  .exact .inl q
  .exact .inr ⟨q,wF _ _ _<|.inl q⟩
 refine codeAny_call_function hr.depth (KX _ _ lk) rfl S.co S.gen rfl (PySem.W.codeRec_of KX hcd) (hb _ _ _ _ ?_)
 refine wpAny_newFunctionEnv_cells S.kind hkind λenv he s1 x=> ?_
 subst he;refine⟨lim.keeps x.toInCall.keep,codeAny_func ?_⟩;obtain⟨t,ht,hq⟩:=hbody A outer s H vs Q E (hr.deeper _) hsp;have I:Inv (sM CX P w K mg base N qual scope f cdv A outer s H E) [] (start N vs) H s1:=bB2 S hr.hd e0 hl r x;refine aS (ht [] s1 (start N vs) H _ I hq) (λfl s' hs=> ?_) λe s' hs=>hs
 have fin: ∀{σ':St} {H':Hp} {v:V} {u:Value},Inv (sM CX P w K mg base N qual scope f cdv A outer s H E) [] σ' H' s'->RelV v u->Q v H'->CE outer P w H s Q u s':=
  λ{σ' H' v u} J rv q=>⟨v,H',J.os,J.bare,J.base,J.hok,rv,q⟩
 cases fl with
 | ret u=>
  obtain⟨v,σ',H',J,rv,q⟩:=hs;exact fin J rv q
 | next=>
  obtain⟨σ',H',J,q⟩:=hs;exact fin (v:=V.non) (u:=Value.none) J rfl q
 | brk=>
  obtain⟨_,_,_,q⟩:=hs;exact False.elim q
 | cont=>
  obtain⟨_,_,_,q⟩:=hs;exact False.elim q
section
variable {X:Cx}{x:Str}{p pos:Pos}{e:Expr}{es:List Expr}{t:TA}{id T:String}{r:List V->Hp->VK->Prop}
def tCB (r:List V->Hp->VK->Prop)(t:TA):TE:=λσ H Q=>t σ H λvs H1=>r vs H1 Q
theorem aR1 (hc:jV X (.builtin id) r)(hg:Gl X x)(hm:X.mg x=none)(hv:bootBuiltins x=some (.builtin id))(ha:PA X (e::es) t)(hn:⇑(x≠"__name__"))(hdb:⇑(x∪0))
  (he:↥(starEach (e::es) X.env=(false,eval e X.env)::starEach es X.env)) (hpl:↥((backTo pos<|starEach es X.env).any (·.1)=false)):PE X (.Call (.Name x p) (e::es) [] pos) (tCB r t):=by
 intro pins s σ H Q I h;refine kM (mM I hg hm hv ?_ hn hdb);exact PyProof.Rows.callWith_builtin1 (thn (ha pos pins s σ H _ I h) λus s1 ⟨vs,H1,I1,r1,q1⟩=>hc pins s1 σ H1 vs us Q I1 r1 q1) he hpl
theorem bB3 (hc:jV X (.type T) r)(hg:Gl X x)(hm:X.mg x=none)(hv:bootBuiltins x=some (.type T))(ha:PA X (e::es) t)(hn:⇑(x≠"__name__"))(hdb:⇑(x∪0))
  (he:↥(starEach (e::es) X.env=(false,eval e X.env)::starEach es X.env)) (hpl:↥((backTo pos<|starEach es X.env).any (·.1)=false)):PE X (.Call (.Name x p) (e::es) [] pos) (tCB r t):=by
 intro pins s σ H Q I h;refine kM (mM I hg hm hv ?_ hn hdb);exact gH (thn (ha pos pins s σ H _ I h) λus s1 ⟨vs,H1,I1,r1,q1⟩=>hc pins s1 σ H1 vs us Q I1 r1 q1) he hpl
end
end L2
namespace HT
open PySem PyProof.Rows
section
open PySem.SeqAt
open PySem.AutoSeq1 (wpAny_loadPart')
open PySem.MeetsSeq PySem.MeetsSeq2 PySem.MeetsSeq3
end
section
variable {prog:Program}{w:World}{A:Around}{E:Value->Shared->Prop}{s:Shared}
theorem cat_tup {b:Addr}{vs ws:List Value}(ht:IsTup s.heap t vs.toArray)(hb:IsTup s.heap b ws.toArray)(hv:vs≠[])
  (h1:ws=[]->Q (.ref t) s) (h2:ws≠[]->Q (.ref s.heap.objs.size) {s with heap:=s.heap.push {cls:= .type "tuple",data:= .seq (vs++ws).toArray}})
  (hsz:vs.length+ws.length<=sizeLine):wpAny (model prog w) A (binaryOp .Add (.ref t)<|.ref b) Q E s:=by
 obtain⟨⟨cls,dd,data,sl⟩,ho,hc,n,hd⟩:=id ht;obtain⟨⟨cls2,dd2,data2,sl2⟩,ho2,hc2,n2,hd2⟩:=id hb;simp only at hc hd hc2 hd2;subst hc hd hc2 hd2;have e:vs.toArray++ws.toArray=(vs++ws).toArray:=ae
 by_cases hw:ws=[]
 .exact concat_meets ⟨_,ho,rfl⟩ ⟨_,ho2,rfl⟩ xA seq_tuple_add wG w8 (w4 _ _)
   (tuple_addW1 t b vs.toArray ws.toArray n n2 dd dd2 sl sl2 (by exists hv)<|by simp[hw]) ⟨ho,ho2,h1 hw⟩
 .refine concat_meets ⟨_,ho,rfl⟩ ⟨_,ho2,rfl⟩ xA seq_tuple_add wG w8 (w4 _ _)
   (tuple_addW2 t b vs.toArray ws.toArray n n2 dd dd2 sl sl2 (by exists hv) (by exists hw) (by rw[aZ,aZ];exact hsz)) ⟨ho,ho2,?_⟩
  rw[e];exact h2 hw
nonrec def sIx (n d:Nat):Option Int->Nat
 | none=>d
 | some v=>if v<0 then(v+(n:Int)).toNat else min v.toNat n
theorem sIx_none (n d:Nat):sIx n d none=d:=rfl
theorem sIx_nat (n d k:Nat):sIx n d (some (k:Int))=min k n:=by
 show(if(k:Int)<0 then((k:Int)+(n:Int)).toNat else min (k:Int).toNat n)=min k n
 rw[a7 ad,bB]
theorem b53 (v:Int)(n d:Nat):(if v<0 then max (v+(n:Int)) 0 else min v (n:Int))=((sIx n d (some v):Nat):Int):=by
 show(if v<0 then max (v+(n:Int)) 0 else min v (n:Int))=(((if v<0 then(v+(n:Int)).toNat else min v.toNat n):Nat):Int)
 by_cases hv:v<0
 .simp only[a8 hv];lia
 .simp only[a7 hv];lia
theorem aZ0 (lo hi:Option Int)(n:Nat):Builtin.Slice.sliceAdjust lo hi 1 (n:Int)=(((sIx n 0 lo:Nat):Int),((sIx n n hi:Nat):Int)):=by
 refine eD ?_ ?_
 .cases lo with
  | none=>rfl
  | some v=>exact b53 v n 0
 .cases hi with
  | none=>rfl
  | some v=>exact b53 v n n
theorem aZ1 (i j:Nat):Builtin.Slice.slicePlaces (i:Int) (j:Int) 1=j-i:=by
 unfold Builtin.Slice.slicePlaces;split<;>lia
theorem a69 {o:Option Int}{Q:Option Int->Shared->Prop}(p:IsPart v o)(h:Q o s):wpAny (model prog w) A (Builtin.Slice.slicePartIndex v) Q E s:=by
 cases p with
 | none=>exact slicePart_none h
 | int i t=>exact slicePart_int h
theorem qE {lo:Option Int}{Q:Int×Int×Nat->Shared->Prop}(hs:s.heap.IsSliceOf sl vl vu .none)(pl:IsPart vl lo)(pu:IsPart vu hi)
  (h:Q (((sIx n 0 lo:Nat):Int),1,sIx n n hi-sIx n 0 lo) s):wpAny (model prog w) A (Builtin.Slice.sliceApplied (.ref sl)<|pure (n:Int)) Q E s:=by
 obtain⟨os,hos,hcs,hds⟩:=id hs;unfold Builtin.Slice.sliceApplied Builtin.Slice.sliceFields;refine a6 (a6<|bY hos hds (x:=vl) rfl (a6<|bY hos hds (x:=vu) rfl (a6<|bY hos hds (x:= .none) rfl (aA ?_))));refine a6 (slicePart_none ?_);show wpAny _ _ (if((1:Int)==0)=true then _ else _) _ _ s;rw[a7 ac]
 refine a6 (a69 pl<|a6<|a69 pu<|a6<|aA ?_)
 show wpAny _ _ (match Builtin.Slice.sliceAdjust lo hi 1 (n:Int)with| (lo,hi)=>pure (lo,(1:Int),Builtin.Slice.slicePlaces lo hi 1)) _ _ s
 rw[aZ0 lo hi n];show wpAny _ _ (pure (((sIx n 0 lo:Nat):Int),(1:Int),Builtin.Slice.slicePlaces ((sIx n 0 lo:Nat):Int) ((sIx n n hi:Nat):Int) 1)) _ _ s;rw[aZ1];exact aA h
theorem bH0 (xs:Array Value)(i k:Nat):((List.range k).filterMap fun(m:Nat)=>xs[((i:Int)+(m:Int)*1).toNat]?).toArray=((xs.toList.drop i).take k).toArray:=by
 have e:(fun(m:Nat)=>xs[((i:Int)+(m:Int)*1).toNat]?)=λm=>xs[i+m]? :=by
  funext m
  have:((i:Int)+(m:Int)*1).toNat=i+m:=ad
  rw[this]
 rw[e];have:=pick_run xs i k;rw[List.filterMap_map]at this;have e2:((λx=>xs[x]?)∘λx=>i+x)=λm=>xs[i+m]? :=rfl
 rw[e2]at this;rw[this]
theorem getItem_tuple_cut {lo:Option Int}(ht:IsTup s.heap t items)(hs:s.heap.IsSliceOf sl vl vu .none)(pl:IsPart vl lo)(pu:IsPart vu hi)
  (hw: ¬(sIx items.size 0 lo=0/\sIx items.size items.size hi=items.size))
  (h:Q (.ref s.heap.objs.size) {s with heap:=s.heap.push {cls:= .type "tuple",data:= .seq ((items.toList.drop<|sIx items.size 0 lo).take<|sIx items.size items.size hi-sIx items.size 0 lo).toArray}})
  (hsz:items.size<=sizeLine):wpAny (model prog w) A (getItem (.ref t)<|.ref sl) Q E s:=by
 have htake:sizeOk (.seq ((items.toList.drop<|sIx items.size 0 lo).take<|sIx items.size items.size hi-sIx items.size 0 lo).toArray):=by
  show((items.toList.drop<|sIx items.size 0 lo).take<|sIx items.size items.size hi-sIx items.size 0 lo).toArray.size<=sizeLine
  rw[aZ,x9,jD,jA];omega
 obtain⟨os,hos,hcs,hds⟩:=id hs;have hTs:s.TypeIs (.ref sl) "slice":=⟨os,hos,hcs⟩;unfold getItem;try with_reducible refine cC ?_
 refine a6 (wpAny_sequenceKey ht.typeIs ac ?_)
 refine a6 (fK ht.typeIs rA
  (cX rA ht.typeIs entry_tuple_getitem ?_<|args_tuple_getitem _ _))
 show wpAny _ _ (Builtin.Tuple.tupleItemsOf (.ref t) >>= _) _ _ s
 refine a6 (tupleItemsOf_ ht ?_)
 refine a6 (oN hTs ?_)
 refine a6 (qE hs pl pu ?_)
 have hno: ¬((((sIx items.size 0 lo:Nat):Int)==0&&(1:Int)==1&&(sIx items.size items.size hi-sIx items.size 0 lo)==items.size)=true):=by
  intro q;rw[bK,bK]at q;have q1:((sIx items.size 0 lo:Nat):Int)=0:=eq_of_beq q.1.1;have q2:sIx items.size items.size hi-sIx items.size 0 lo=items.size:=eq_of_beq q.2;exact hw ⟨aa,aa⟩
 show wpAny _ _ (if(((sIx items.size 0 lo:Nat):Int)==0&&(1:Int)==1&&(sIx items.size items.size hi-sIx items.size 0 lo)==items.size)=true then _ else _) _ _ s
 rw[a7 hno,bH0]
 first
  | exact a6 (dZ (aA ⟨_,rfl,aA h⟩) htake)
  | exact a6 (dZ (a6<|aA<|aA ⟨_,rfl,aA h⟩) htake)
  | exact a6 (a6<|dZ (aA<|aA ⟨_,rfl,aA h⟩) htake)
  | exact a6 (a6<|dZ (aA ⟨_,rfl,aA h⟩) htake)
end
end HT
namespace L2
abbrev TO:=St->Hp->(Option Int->Hp->Prop)->Prop
def PO (X:Cx)(e:Option Expr)(t:TO):Prop:=
 ∀(pins:List (Addr×Obj)) (s:Shared) (σ:St) (H:Hp) (Q:Option Int->Hp->Prop),Inv X pins σ H s->t σ H Q->
  X∩(evalPart e X.env) (λu s'=> ∃o H',Inv X pins σ H' s'/\IsPart u o/\Q o H') X.xe s
def bW0:TO:=λ_ H Q=>Q none H
def tPart (t:TE):TO:=λσ H Q=>t σ H λx H1=> ∃i,x= .int i/\Q (some i) H1
theorem intsAre_of {ns:List Int}: ∀{us:List Value},Vals (ns.map V.int) us->IntsAre us ns:=by
 induction ns with
 | nil=>intro us r;rw[iG]at r;cases r;exact .nil
 | cons n ns ih=>
  intro us r;cases r with
  | cons r1 r2=>
   obtain⟨t,e⟩:=r1;subst e;exact .cons n t (ih r2)
section
variable {X:Cx}{e:Expr}{te:TE}{lo hi:Option Expr}{tl th:TO}{pos p2:Pos}
theorem bW1:PO X none bW0:=by
 intro pins s σ H Q I h;exact aA ⟨none,H,I,.none,h⟩
theorem bW2 (h:PE X e te):PO X (some e) (tPart te):=by
 intro pins s σ H Q I hw;refine thn (h pins s σ H _ I hw) λu s1 ⟨x,H1,I1,r1,q1⟩=> ?_
 obtain⟨i,rfl,q⟩:=q1;obtain⟨t,rfl⟩:=r1;exact⟨some i,H1,I1,.int i t,q⟩
def SlR (X:Cx)(r:V->Option Int->Option Int->Hp->VK->Prop):Prop:=
 ∀(pins:List (Addr×Obj)) (s:Shared) (σ:St) (H:Hp) (x:V) (v vl vu:Value) (lo hi:Option Int) (sl:Addr) (Q:VK),Inv X pins σ H s->RelV x v->s.heap.IsSliceOf sl vl vu .none->IsPart vl lo->IsPart vu hi->r x lo hi H Q->
  ∃T id,typeLookup (.type T) "__getitem__"=pure (some<|.builtin id)/\s.TypeIs v T/\X∩(getItem v<|.ref sl) (EP X pins σ Q) X.xe s
theorem SlR.or {r r':V->Option Int->Option Int->Hp->VK->Prop}(h:SlR X r)(h':SlR X r'):SlR X (λx lo hi H Q=>r x lo hi H Q\/r' x lo hi H Q):=by
 intro pins s σ H x v vl vu lo hi sl Q I rx hs pl pu q;rcases q with q|q
 .exact h pins s σ H x v vl vu lo hi sl Q I rx hs pl pu q
 .exact h' pins s σ H x v vl vu lo hi sl Q I rx hs pl pu q
def tSl (r:V->Option Int->Option Int->Hp->VK->Prop)(te:TE)(tl th:TO):TE:=λσ H Q=>te σ H λx H1=>tl σ H1 λl H2=>th σ H2 λu H3=>r x l u H3 Q
theorem aR2 {r:V->Option Int->Option Int->Hp->VK->Prop}(hr:SlR X r)(he:PE X e te)(hl:PO X lo tl)(hu:PO X hi th):PE X (.Subscript e (.Slice lo hi none p2) pos) (tSl r te tl th):=by
 intro pins s σ H Q I h;refine Subscript_ (thn (he pins s σ H _ I h) λv s1 ⟨x,H1,I1,r1,q1⟩=> ?_)
 refine wpAny_Slice (thn (hl pins s1 σ H1 _ I1 q1) λvl s2 ⟨l,H2,I2,pl,q2⟩=>thn (hu pins s2 σ H2 _ I2 q2) λvu s3 ⟨u,H3,I3,pu,q3⟩=> ?_)
 rw[evalPart_none];refine aA ?_;have I4:Inv X pins σ H3 {s3 with heap:=s3.heap.push {cls:= .type "slice",data:= .fields #[vl,vu,.none]}}:=I3.kept (t':=s3.toks) λb ob q=>aJ _ q
 obtain⟨T,id,hT,ht,hg⟩:=hr pins {s3 with heap:=s3.heap.push {cls:= .type "slice",data:= .fields #[vl,vu,.none]}} σ H3 x v vl vu l u s3.heap.objs.size Q I4 r1 (Heap.IsSliceOf.new ..) pl pu q3;show X∩(subscriptTail e (.Slice lo hi none p2) v<|.ref s3.heap.objs.size) (EP X pins σ Q) X.xe {s3 with heap:=s3.heap.push {cls:= .type "slice",data:= .fields #[vl,vu,.none]}}
 exact tail_any (ops:=[.ref s3.heap.objs.size,v]) ht hT hg (by with_unfolding_all rfl)
nonrec def bB4 (xs:List V)(lo hi:Option Int):List V:=(xs.drop<|HT.sIx xs.length 0 lo).take (HT.sIx xs.length xs.length hi-HT.sIx xs.length 0 lo)
theorem a18 (xs:List V)(lo hi:Option Int):(bB4 xs lo hi).length<=xs.length:=by
 unfold bB4;rw[x9,jD]
 lia
nonrec def rSlT (K:PySem.W.Frag):V->Option Int->Option Int->Hp->VK->Prop:=λx lo hi H Q=> ∃a xs,x= .ref a/\SqT K H a xs/\
 ¬(HT.sIx xs.length 0 lo=0/\HT.sIx xs.length xs.length hi=xs.length)/\ ∀p,H p=none->Q (.ref p) (upd H p<|.tup<|bB4 xs lo hi)
theorem bH1:SlR X (rSlT X.K):=by
 intro pins s σ H x v vl vu lo hi sl Q I rx hs pl pu h;obtain⟨a,xs,rfl,hx,hw,q⟩:=h;cases rx;obtain⟨its,r,ht,hz⟩:=I.tuple hx;have hlen:its.toArray.size=xs.length:=by rw[aZ];exact r.length.symm
 refine⟨"tuple",_,PyProof.Rows.slot_tuple_getitem.lookup,ht.typeIs,?_⟩
 refine HT.getItem_tuple_cut ht hs pl pu (by rw[hlen];exact hw) ?_ (by rw[hlen];exact hz)
 rw[hlen];refine⟨.ref s.heap.objs.size,_,I.laid (λb ob q=>aJ _ q) (aC _) ?_,rfl,q _<|I.hok.fresh<|aC _⟩
 exact⟨aN (a18 xs lo hi) hz,_,(r.drop<|HT.sIx xs.length 0 lo).take<|HT.sIx xs.length xs.length hi-HT.sIx xs.length 0 lo,IsTup.new _ _⟩
nonrec def rCatT (K:PySem.W.Frag):R2:=λx y H Q=> ∃a b xs ys,x= .ref a/\y= .ref b/\SqT K H a xs/\SqT K H b ys/\xs≠[]/\xs.length+ys.length<=sizeLine/\
 (ys=[]->Q (.ref a) H)/\(ys≠[]-> ∀p,H p=none->Q (.ref p) (upd H p<|.tup<|xs++ys))
theorem Vals.nil_iff {xs:List V}(r:Vals xs us):us=[]↔xs=[]:=by
 cases r with
 | nil=>simp
 | cons _ _=>simp
theorem bW3:OpR X (binaryOp .Add) (rCatT X.K):=by
 intro pins s σ H x y v u Q I rx ry h;obtain⟨a,b,xs,ys,rfl,rfl,ha,hb,hx,hz,q1,q2⟩:=h;cases rx;cases ry;obtain⟨its,r1,p1,_⟩:=I.tuple ha;obtain⟨its2,r2,p2,_⟩:=I.tuple hb;refine HT.cat_tup p1 p2 (λz=>hx (r1.nil_iff.mp z)) (λz=>⟨.ref a,H,I,rfl,q1<|r2.nil_iff.mp z⟩) (λz=> ?_) (by rw[<-r1.length,<-r2.length];exact hz)
 refine⟨.ref s.heap.objs.size,_,I.laid (λb ob q=>aJ _ q) (aC _) ?_,rfl,q2 (λw=>z (r2.nil_iff.mpr w)) _<|I.hok.fresh<|aC _⟩
 exact⟨by rw[cE];exact hz,_,r1.append r2,IsTup.new _ _⟩
end
nonrec def ixN (n:Nat)(i:Int):Option Nat:=if 0<=i then(if i<n then some i.toNat else none)else if -(n:Int)<=i then some (i+n).toNat else none
nonrec def atI {α:Type}(xs:List α)(i:Int):Option α:=(ixN xs.length i).bind λj=>xs[j]?
theorem b54 {i:Int}(h:ixN n i=some j):seqIndex? i n=some j/\j<n/\ -(n:Int)<=i/\i<n:=by
 unfold ixN at h
 by_cases h0:0<=i
 .rw[a8 h0]at h
  by_cases h1:i<n
  .rw[a8 h1]at h;have e:i.toNat=j:=eQ h;exact⟨by rw[sH h0 h1,e],ad,ad,h1⟩
  .rw[a7 h1]at h;cases h
 .rw[a7 h0]at h
  by_cases h1: -(n:Int)<=i
  .rw[a8 h1]at h;have e:(i+n).toNat=j:=eQ h;exact⟨by rw[sD ad h1,e],ad,h1,ad⟩
  .rw[a7 h1]at h;cases h
theorem a56 {α:Type}{xs:List α}{i:Int}{v:α}(h:atI xs i=some v): ∃j,seqIndex? i xs.length=some j/\xs[j]? =some v/\j<xs.length/\ -(xs.length:Int)<=i/\i<xs.length:=by
 unfold atI at h;cases e:ixN xs.length i with
 | none=>rw[e]at h;cases h
 | some j=>
  rw[e]at h;obtain⟨h1,h2,h3,h4⟩:=b54 e;exact⟨j,h1,h,h2,h3,h4⟩
theorem dS {α:Type}{xs:List α}{v:α}(h:xs[j]? =some v):atI xs (j:Int)=some v:=by
 have hj:j<xs.length:=(dN.mp h).1;have e:ixN xs.length (j:Int)=some j:=by
  unfold ixN;rw[a8 ad,a8 ad];simp
 unfold atI;rw[e];exact h
def aK5 (b:Expr):Prop:= ∀o i,subscripted b false o i=operate [o,i] (getItem o i)
def IxR (X:Cx)(r:R2):Prop:=
 ∀(value slice:Expr) (pins:List (Addr×Obj)) (s:Shared) (σ:St) (H:Hp) (x y:V) (v u:Value) (Q:VK),Inv X pins σ H s->RelV x v->RelV y u->r x y H Q->
  subscripted slice false v u=operate [v,u] (getItem v u)->X∩(subscriptTail value slice v u) (EP X pins σ Q) X.xe s
def MtR (X:Cx)(id:String)(r:V->List V->Hp->VK->Prop):Prop:=
 ∀(pins:List (Addr×Obj)) (s:Shared) (σ:St) (H:Hp) (x:V) (xs:List V) (v:Value) (us:List Value) (Q:VK),Inv X pins σ H s->RelV x v->Vals xs us->r x xs H Q->
  X∩(call (.builtin id) (v::us)) (EP X pins σ Q) X.xe s
section
variable {X:Cx}{a b:Expr}{ta tb:TE}{pos:Pos}
theorem IxR.or {r r':R2}(h:IxR X r)(h':IxR X r'):IxR X (λx y H Q=>r x y H Q\/r' x y H Q):=by
 intro value slice pins s σ H x y v u Q I rx ry q hs;rcases q with q|q
 .exact h value slice pins s σ H x y v u Q I rx ry q hs
 .exact h' value slice pins s σ H x y v u Q I rx ry q hs
theorem MtR.or {id:String}{r r':V->List V->Hp->VK->Prop}(h:MtR X id r)(h':MtR X id r'):MtR X id (λx xs H Q=>r x xs H Q\/r' x xs H Q):=by
 intro pins s σ H x xs v us Q I rx rs q;rcases q with q|q
 .exact h pins s σ H x xs v us Q I rx rs q
 .exact h' pins s σ H x xs v us Q I rx rs q
theorem pe_ix {r:R2}(hr:IxR X r)(ha:PE X a ta)(hb:PE X b tb)(hs:aK5 b):PE X (.Subscript a b pos) (tOp r ta tb):=by
 intro pins s σ H Q I h;exact Subscript_ (binT ha hb I h λv u s2 x y H2 I2 rx ry q=>hr a b pins s2 σ H2 x y v u Q I2 rx ry q (hs _ _))
nonrec def rIxL (K:PySem.W.Frag):R2:=λx y H Q=> ∃p xs i v,x= .ref p/\y= .int i/\SqL K H p xs/\atI xs i=some v/\Q v H
nonrec def rIxT (K:PySem.W.Frag):R2:=λx y H Q=> ∃p xs i v,x= .ref p/\y= .int i/\SqT K H p xs/\atI xs i=some v/\Q v H
nonrec def rIxS:R2:=λx y H Q=> ∃z i c,x= .str z/\y= .int i/\z.length<=sizeLine/\atI z.cps.toList i=some c/\Q (.str ⟨#[c]⟩) H
theorem bW4:IxR X (rIxL X.K):=by
 intro value slice pins s σ H x y v u Q I rx ry h hs;obtain⟨p,xs,i,z,rfl,rfl,hq,he,q⟩:=h;cases rx;obtain⟨t,rfl⟩:=ry;obtain⟨its,r,pl,hz⟩:=I.list hq;obtain⟨j,h1,h2,h3,h4,h5⟩:=a56 he;obtain⟨w,ew,rw'⟩:=r.get h2;have hl:=r.length;have hn:=zG;have fin:EP X pins σ Q w s:=⟨z,H,I,rw',q⟩
 by_cases h0:0<=i
 .have hj:i.toNat=j:=by
   rw[sH h0 h5]at h1;exact eQ h1
  exact item_listR pl.isList h0 ad (by rw[hj];exists ew) fin hs
 .have hj:(i+(its.toArray.size:Int)).toNat=j:=by
   rw[sD ad h4]at h1
   rw[aZ,<-hl];exact eQ h1
  exact subscriptTail_builtinR pl.isList.typeIs slot_list_getitem.lookup
   (wpAny_getItem_list_neg pl.isList ad (by rw[aZ]<;>lia) ad (by rw[hj];exists ew) ⟨rfl,fin⟩) hs
theorem ix_tup:IxR X (rIxT X.K):=by
 intro value slice pins s σ H x y v u Q I rx ry h hs;obtain⟨p,xs,i,z,rfl,rfl,hq,he,q⟩:=h;cases rx;obtain⟨t,rfl⟩:=ry;obtain⟨its,r,pl,hz⟩:=I.tuple hq;obtain⟨j,h1,h2,h3,h4,h5⟩:=a56 he;obtain⟨w,ew,rw'⟩:=r.get h2;have hl:=r.length;have hn:=zG;have fin:EP X pins σ Q w s:=⟨z,H,I,rw',q⟩;exact subscriptTail_builtinR pl.typeIs slot_tuple_getitem.lookup
  (getItem_tuple pl ad ad (by rw[aZ,<-hl];exact h1) (by exists ew) ⟨rfl,fin⟩) hs
theorem ix_str:IxR X rIxS:=by
 intro value slice pins s σ H x y v u Q I rx ry h hs;obtain⟨z,i,c,rfl,rfl,hz,he,q⟩:=h;obtain⟨t,rfl⟩:=rx;obtain⟨t',rfl⟩:=ry;obtain⟨j,h1,h2,h3,h4,h5⟩:=a56 he;have hl:z.cps.toList.length=z.length:=by simp[Str.length]
 rw[hl]at h1 h4 h5;have hn:=zG;exact tail_any (typeIs_str s z t) slot_str_getitem.lookup (getItem_str (by
  have e1:decide (i< -(2^63:Int))=false:=dC ad
  have e2:decide (i≥2^63)=false:=dC ad
  rw[e1,e2,Bool.or_false]) (by rw[h1];exists h2) ⟨.str ⟨#[c]⟩,H,I.tok _,⟨_,rfl⟩,q⟩) hs
nonrec def rIx (K:PySem.W.Frag):R2:=λx y H Q=>rIxL K x y H Q\/rIxT K x y H Q\/rIxS x y H Q
theorem ix_seq:IxR X (rIx X.K):=bW4.or (ix_tup.or ix_str)
theorem aZ2 (its:List Value)(n j:Nat)(u:Value):Obj.mapSeq (·.setIfInBounds j u) {cls:= .type "list",data:= .seq its.toArray n}={cls:= .type "list",data:= .seq (its.set j u).toArray n}:=by
 simp[Obj.mapSeq]
theorem Inv.lst {σ:St}{H:Hp}{p:Addr}{xs:List V}(I:Inv X pins σ H s)(h:H p=some (.lst xs)) :
  ∃(its:List Value) (n:Nat),Vals xs its/\s.heap.get? p=some {cls:= .type "list",data:= .seq its.toArray n}/\xs.length<=sizeLine:=by
 obtain⟨z,its,n,r,e⟩:=I.hok p _ h;exact⟨its,n,r,e,z⟩
theorem Inv.lstUpd {σ:St}{H:Hp}{p:Addr}{xs ys:List V}{its':List Value}{n':Nat}{f:Obj->Obj}(I:Inv X pins σ H s)(h:H p=some (.lst xs))
  (ho:s.heap.get? p=some {cls:= .type "list",data:= .seq its.toArray n}) (hf:f {cls:= .type "list",data:= .seq its.toArray n}={cls:= .type "list",data:= .seq its'.toArray n'}) (r:Vals ys its') (hz:ys.length<=sizeLine) (t:Nat) :
  Inv X pins σ (upd H p<|.lst ys) {s with heap:=s.heap.update p f,toks:=t}:=by
 have e:(s.heap.update p f).get? p=some {cls:= .type "list",data:= .seq its'.toArray n'}:=by
  rw[i6 f ho (by rw[hf]<;>rfl),hf]
 refine I.write (x:=p) (e:=p) (by rw[h];trivial) (.inl rfl) (λb u hb q=>(wH _ _<|Ne.symm hb).trans q) ⟨_,e⟩ ?_
 exact⟨hz,its',n',r,e⟩
nonrec def rSetL:V->V->V->Hp->(Hp->Prop)->Prop:=λo i v H Q=> ∃p xs k j,o= .ref p/\i= .int k/\H p=some (.lst xs)/\ixN xs.length k=some j/\Q (upd H p<|.lst<|xs.set j v)
theorem aR3:PSet X rSetL:=by
 intro pins s σ H o i v ov iv u Q I ro ri rv h;obtain⟨p,xs,k,j,rfl,rfl,hp,hj,q⟩:=h;cases ro;obtain⟨t,rfl⟩:=ri;obtain⟨its,n,r,ho,hz⟩:=I.lst hp;obtain⟨h1,h2,h3,h4⟩:=b54 hj;have hl:=r.length;have hn:=zG;have I':Inv X pins σ (upd H p<|.lst<|xs.set j v) {s with heap:=s.heap.update p (Obj.mapSeq (·.setIfInBounds j u))}:=
  I.lstUpd hp ho (aZ2 its n j u) (r.set rv j) (by rw[cS];exact hz) s.toks
 by_cases h0:0<=k
 .have hk:k.toNat=j:=by
   rw[sH h0 h4]at h1;exact eQ h1
  exact PySem.W.ki_setAt ho h0 ad (by rw[aZ,<-hl];exact h4) (by rw[hk];exact⟨_,I',q⟩)
 .have hk:(k+(its.toArray.size:Int)).toNat=j:=by
   rw[sD ad h3]at h1
   rw[aZ,<-hl];exact eQ h1
  exact PySem.W.ki_setBack ho ad (by rw[aZ,<-hl];exact h3) ad (by rw[hk];exact⟨_,I',q⟩)
theorem aK6 (lo hi:Option Int)(n:Nat):(sliceBounds lo hi none n).1=((HT.sIx n 0 lo:Nat):Int)/\(sliceBounds lo hi none n).2.1=((HT.sIx n n hi:Nat):Int)/\(sliceBounds lo hi none n).2.2=1:=by
 refine⟨?_,?_,rfl⟩
 .cases lo with
  | none=>simp[sliceBounds,HT.sIx]
  | some i=>
   simp only[sliceBounds,HT.sIx,getD_none,show(1:Int)>0 by decide,fS]
   by_cases h:i<0
   .simp only[h,fS]<;>lia
   .simp only[h,dF]<;>lia
 .cases hi with
  | none=>simp[sliceBounds,HT.sIx]
  | some i=>
   simp only[sliceBounds,HT.sIx,getD_none,show(1:Int)>0 by decide,fS]
   by_cases h:i<0
   .simp only[h,fS]<;>lia
   .simp only[h,dF]<;>lia
theorem aD4 (its:List Value)(lo hi:Option Int):slicePick its.toArray lo hi none=((its.drop<|HT.sIx its.length 0 lo).take<|HT.sIx its.length its.length hi-HT.sIx its.length 0 lo).toArray:=by
 obtain⟨h1,h2,h3⟩:=aK6 lo hi its.toArray.size;unfold slicePick;rw[h1,h2,h3];simp only[sliceRange_one,pick_run]<;>rfl
nonrec def rSlL (K:PySem.W.Frag):V->Option Int->Option Int->Hp->VK->Prop:=λx lo hi H Q=> ∃a xs,x= .ref a/\SqL K H a xs/\ ∀p,H p=none->Q (.ref p) (upd H p<|.lst<|bB4 xs lo hi)
theorem b55:SlR X (rSlL X.K):=by
 intro pins s σ H x v vl vu lo hi sl Q I rx hs pl pu h;obtain⟨a,xs,rfl,hx,q⟩:=h;cases rx;obtain⟨its,r,ht,hz⟩:=I.list hx;have hlen:=r.length;refine⟨"list",_,slot_list_getitem.lookup,ht.isList.typeIs,?_⟩;refine wpAny_getItem_list_slice ht.isList hs pl pu .none ae ?_ (by rw[aZ]<;>lia)
 rw[aD4,<-hlen];refine⟨.ref s.heap.objs.size,_,I.laid (λb ob q=>aJ _ q) (aC _) ?_,rfl,q _<|I.hok.fresh<|aC _⟩
 exact⟨aN (a18 xs lo hi) hz,_,0,(r.drop<|HT.sIx xs.length 0 lo).take<|HT.sIx xs.length xs.length hi-HT.sIx xs.length 0 lo,aY _ rfl⟩
nonrec def y4:V->Bool
 | .non=>true
 | .bl _=>true
 | .int _=>true
 | .str _=>true
 | _=>false
nonrec def eqV:V->V->Bool
 | .non,.non=>true
 | .bl a,.bl b=>a==b
 | .bl a,.int b=>(if a then 1 else 0)==b
 | .int a,.bl b=>a==(if b then 1 else 0)
 | .int a,.int b=>a==b
 | .str a,.str b=>a==b
 | _,_=>false
theorem eqAt_V {y x:V}(ry:RelV y u)(rx:RelV x v)(fy:y4 y=true)(fx:y4 x=true):SeqAt.EqAt A s u v (eqV y x):=by
 cases y with
 | non=>
  cases ry;cases x with
  | non=>cases rx;exact SeqAt.EqAt.same _
  | bl b=>cases rx;exact SeqAt.EqAt.none_bool b
  | int b=>obtain⟨t,rfl⟩:=rx;exact SeqAt.EqAt.none_int b t
  | str b=>obtain⟨t,rfl⟩:=rx;exact SeqAt.EqAt.none_str b t
  | _=>exact absurd (show false=true from fx) bG
 | bl a=>
  cases ry;cases x with
  | non=>cases rx;exact SeqAt.EqAt.bool_none a
  | bl b=>cases rx;exact SeqAt.EqAt.bool_bool a b
  | int b=>obtain⟨t,rfl⟩:=rx;exact SeqAt.EqAt.bool_int a b t
  | str b=>obtain⟨t,rfl⟩:=rx;exact SeqAt.EqAt.bool_str a b t
  | _=>exact absurd (show false=true from fx) bG
 | int a=>
  obtain⟨t',rfl⟩:=ry;cases x with
  | non=>cases rx;exact SeqAt.EqAt.int_none a t'
  | bl b=>cases rx;exact SeqAt.EqAt.int_bool a t' b
  | int b=>obtain⟨t,rfl⟩:=rx;exact SeqAt.EqAt.int_int a t' b t
  | str b=>obtain⟨t,rfl⟩:=rx;exact SeqAt.EqAt.int_str a t' b t
  | _=>exact absurd (show false=true from fx) bG
 | str a=>
  obtain⟨t',rfl⟩:=ry;cases x with
  | non=>cases rx;exact SeqAt.EqAt.str_none a t'
  | bl b=>cases rx;exact SeqAt.EqAt.str_bool a t' b
  | int b=>obtain⟨t,rfl⟩:=rx;exact SeqAt.EqAt.str_int a t' b t
  | str b=>obtain⟨t,rfl⟩:=rx;exact SeqAt.EqAt.str_str a t' b t
  | _=>exact absurd (show false=true from fx) bG
 | _=>exact absurd (show false=true from fy) bG
nonrec def eqU (x:V)(u:Value):Bool:=match u with
 | .none=>eqV .non x
 | .bool b=>eqV (.bl b) x
 | .int i _=>eqV (.int i) x
 | .str z _=>eqV (.str z) x
 | _=>false
theorem bH2 {x y:V}(r:RelV y u)(f:y4 y=true):eqU x u=eqV y x:=by
 cases y with
 | non=>cases r;rfl
 | bl b=>cases r;rfl
 | int i=>obtain⟨t,rfl⟩:=r;rfl
 | str z=>obtain⟨t,rfl⟩:=r;rfl
 | _=>exact absurd (show false=true from f) bG
theorem aK7 {x:V}: ∀{xs:List V} {us:List Value},Vals xs us->xs.all y4=true->us.any (eqU x)=xs.any λy=>eqV y x
 | _,_,.nil,_=>rfl
 | y::xs,u::us,.cons r t,f=>by
  rw[all_cons,bK]at f;rw[any_cons,any_cons,bH2 r f.1,aK7 t f.2]
theorem a70 {A:Around}{s:Shared}{x:V}{v:Value}(rx:RelV x v)(fx:y4 x=true): ∀{xs:List V} {us:List Value},Vals xs us->xs.all y4=true-> ∀u∈us,SeqAt.EqAt A s u v (eqU x u)
 | _,_,.nil,_=>λu hu=>by cases hu
 | y::xs,u::us,.cons r t,f=>λu' hu=>by
  rw[all_cons,bK]at f;rcases aG.mp hu with rfl|hu
  .rw[bH2 r f.1];exact eqAt_V r rx f.1 fx
  .exact a70 rx fx t f.2 u' hu
nonrec def inV (x:V)(xs:List V):Bool:=xs.any λy=>eqV y x
nonrec def rIn (K:PySem.W.Frag)(neg:Bool):R2:=λx y H Q=> ∃p xs,y= .ref p/\(SqL K H p xs\/SqT K H p xs)/\y4 x=true/\xs.all y4=true/\Q (.bl<|if neg then !inV x xs else inV x xs) H
theorem aK8:OpR X (compareOp .NotIn) (rIn X.K true):=by
 intro pins s σ H x y v u Q I rx ry h;obtain⟨p,xs,rfl,hq,fx,fs,q⟩:=h;cases ry;rcases hq with hq|hq
 .obtain⟨its,r,pl,hz⟩:=I.list hq;refine SeqAt.notIn_listAt (eqU x) pl.isList (λw hw=>a70 rx fx r fs w (by exists hw)) ⟨.bl _,H,I,rfl,?_⟩
  rw[show its.toArray.any (eqU x)=its.any (eqU x)by simp,aK7 r fs]
  exact q
 .obtain⟨its,r,pl,hz⟩:=I.tuple hq;refine SeqAt.notIn_tupleAt (eqU x) pl (λw hw=>a70 rx fx r fs w (by exists hw)) ⟨.bl _,H,I,rfl,?_⟩
  rw[show its.toArray.any (eqU x)=its.any (eqU x)by simp,aK7 r fs]
  exact q
theorem aK9:jV X (.builtin "len") (λxs H Q=> ∃p ys,xs=[.ref p]/\(SqL X.K H p ys\/SqT X.K H p ys)/\Q (.int ys.length) H):=by
 intro pins s σ H xs us Q I r h;obtain⟨p,ys,rfl,hq,q⟩:=h;obtain⟨u,rfl,rx⟩:=vals1 r;cases rx;have hn:=zG;rcases hq with hq|hq
 .obtain⟨its,r',pl,hz⟩:=I.list hq;have hlen:=r'.length;exact Calls.call_len_list pl.isList (by simp only[aZ]<;>lia) ⟨.int ys.length,H,I.tok _,⟨s.toks+1,by rw[aZ,hlen]⟩,q⟩
 .obtain⟨its,r',pl,hz⟩:=I.tuple hq;have hlen:=r'.length;exact len_tuple pl (by simp only[aZ]<;>lia) ⟨.int ys.length,H,I.tok _,⟨s.toks+1,by rw[aZ,hlen]⟩,q⟩
theorem jV.or {f:Value}{r r':List V->Hp->VK->Prop}(h:jV X f r)(h':jV X f r'):jV X f (λxs H Q=>r xs H Q\/r' xs H Q):=by
 intro pins s σ H xs us Q I rs q;rcases q with q|q
 .exact h pins s σ H xs us Q I rs q
 .exact h' pins s σ H xs us Q I rs q
theorem aL0:jV X (.type "list") (λxs H Q=> ∃p ys,xs=[.ref p]/\(SqL X.K H p ys\/SqT X.K H p ys)/\ ∀l,H l=none->Q (.ref l) (upd H l<|.lst ys)):=by
 intro pins s σ H xs us Q I r h;obtain⟨p,ys,rfl,hq,q⟩:=h;obtain⟨u,rfl,rx⟩:=vals1 r;cases rx;have fin: ∀(its:List Value),Vals ys its->ys.length<=sizeLine-> ∀(h':Heap) (c':Nat),(∀b o',s.heap.get? b=some o'->h'.get? b=some o')->
   h'.get? s.heap.objs.size=some {cls:= .type "list",dict:=none,data:= .seq its.toArray c',slots:= #[]}->EP X pins σ Q (.ref s.heap.objs.size) {s with heap:=h'}:=λits r' hz h' c' kp e=>
  ⟨.ref s.heap.objs.size,_,I.laid kp (aC _)<|show nA X.prog X.w _ h' _ (.lst ys)from⟨hz,its,c',r',e⟩,rfl,q _<|I.hok.fresh<|aC _⟩
 rcases hq with hq|hq
 .obtain⟨its,r',pl,hz⟩:=I.list hq;have hlen:=r'.length;obtain⟨o,ho,hc,n,hd⟩:=pl.isList;exact call_list_seq p (.inl rfl) ho hc hd (λh' c' kp e=>fin its r' hz h' c' kp e) (by simp only[aZ]<;>lia)
 .obtain⟨its,r',pl,hz⟩:=I.tuple hq;have hlen:=r'.length;obtain⟨o,ho,hc,n,hd⟩:=pl;exact call_list_seq p (.inr rfl) ho hc hd (λh' c' kp e=>fin its r' hz h' c' kp e) (by simp only[aZ]<;>lia)
theorem pW:jV X (.type "tuple") (λxs H Q=> ∃p ys,xs=[.ref p]/\((SqL X.K H p ys/\ ∀l,H l=none->Q (.ref l) (upd H l<|.tup ys))\/(SqT X.K H p ys/\Q (.ref p) H))):=by
 intro pins s σ H xs us Q I r h;obtain⟨p,ys,rfl,h⟩:=h;obtain⟨u,rfl,rx⟩:=vals1 r;cases rx;rcases h with⟨hq,q⟩| ⟨hq,q⟩
 .obtain⟨its,r',pl,hz⟩:=I.list hq;have hlen:=r'.length;refine call_tuple_list pl.isList (λh' kp=> ?_) (by simp only[aZ]<;>lia)
  have I1:Inv X pins σ H {s with heap:=h'}:=I.kept kp;have I2:Inv X pins σ (upd H h'.objs.size<|.tup ys) {s with heap:=h'.push {cls:= .type "tuple",data:= .seq its.toArray}}:=
   I1.laid (λb o e=>aJ _ e) (aC _) (show nA X.prog X.w _ _ _ (.tup ys)from⟨hz,its,r',IsTup.new _ _⟩)
  exact⟨.ref h'.objs.size,_,I2,rfl,q _<|I1.hok.fresh<|aC _⟩
 .obtain⟨its,r',pl,hz⟩:=I.tuple hq;exact call_tuple_same pl ⟨.ref p,H,I,rfl,q⟩
def tyV (K:PySem.W.Frag)(T:String)(x:V)(H:Hp):Prop:=match x with
 | .str _=>T="str"
 | .int _=>T="int"
 | .ref p=>(T="list"/\ ∃xs,SqL K H p xs)\/(T="tuple"/\ ∃o,K.lookup p=some o/\o.cls= .type "tuple"/\o.dict=none)\/
   (T="dict"/\((∃kvs,H p=some (.dK kvs))\/ ∃kvs,H p=some (.dT kvs)))\/(T="set"/\ ∃S n,H p=some (.set S n))
 | _=>False
theorem tyV_is {pins:List (Addr×Obj)}{σ:St}{H:Hp}{s:Shared}{T:String}{x:V}{v:Value}(I:Inv X pins σ H s)(r:RelV x v)(ty:tyV X.K T x H) :
  s.TypeIs v T/\ ∀a,v= .ref a-> ∃ob,s.heap.get? a=some ob/\ob.dict=none:=by
 cases x with
 | str z=>
  obtain⟨t,rfl⟩:=r;cases (show T="str" from ty)
  exact⟨typeIs_str s z t,λ_ e=>nomatch e⟩
 | int i=>
  obtain⟨t,rfl⟩:=r;cases (show T="int" from ty)
  exact⟨typeIs_int s i t,λ_ e=>nomatch e⟩
 | ref p=>
  cases r;rcases ty with⟨rfl,xs,hq⟩| ⟨rfl,o,hk,hc,hd⟩| ⟨rfl,hk⟩| ⟨rfl,S,n,hk⟩
  .obtain⟨its,_,pl,_⟩:=I.list hq;refine⟨pl.isList.typeIs,λa e=> ?_⟩
   cases e;obtain⟨o,n,e,c,hd,_⟩:=pl;exact⟨o,e,hd⟩
  .refine⟨⟨o,I.kIn p o hk,hc⟩,λa e=> ?_⟩
   cases e;exact⟨o,I.kIn _ o hk,hd⟩
  .have z: ∃o,s.heap.get? p=some o/\o.ExactDict:=by
    rcases hk with⟨kvs,hk⟩| ⟨kvs,hk⟩
    .obtain⟨_,_,_,_,o,_,_,e,ex,_⟩:=I.hok p _ hk;exact⟨o,e,ex⟩
    .obtain⟨_,_,_,_,o,_,_,e,ex,_⟩:=I.hok p _ hk;exact⟨o,e,ex⟩
   obtain⟨o,e,ex⟩:=z;refine⟨⟨o,e,ex.1⟩,λa e2=> ?_⟩
   cases e2;exact⟨o,e,ex.2.1⟩
  .obtain⟨o,_,_,_,e,ex,_⟩:=I.hok p _ hk;refine⟨⟨o,e,ex.1⟩,λa e2=> ?_⟩
   cases e2;exact⟨o,e,ex.2.1⟩
 | _=>exact False.elim ty
def tBM (K:PySem.W.Frag)(T:String)(r:V->List V->Hp->VK->Prop)(to:TE)(t:TA):TE:=λσ H Q=>to σ H λx H1=>tyV K T x H1/\t σ H1 λxs H2=>r x xs H2 Q
variable {o e:Expr}{es:List Expr}{to:TE}{t:TA}{name:Str}{apos cpos:Pos}{T id:String}{r:V->List V->Hp->VK->Prop}
theorem c45 (pa:PlainAttrs T)(slot:Slot T name id)(hty:typeOf (.builtin id)=pure (.type "method_descriptor"))(hm:MtR X id r)(ho:PE X o to)(ha:PA X (e::es) t)
  (hbase:↥(attributeBase o name X.env (eval o X.env)=eval o X.env))
  (hfew:↥(((backTo cpos<|starEach (e::es) X.env).all (λx=> !x.1)&&(backToKw cpos<|keywordEach [] X.env).all (λx=>x.1.isSome)
   &&decide ((e::es).length+([]:List Keyword).length+(if([]:List Keyword).isEmpty then 0 else 1)<30))=true))
  (hline:↥((apos.endLine==cpos.line)=true)) (hs:↥(starEach (e::es) X.env=(false,eval e X.env)::starEach es X.env)) (hplain:↥((backTo cpos<|starEach es X.env).any (·.1)=false)) :
  PE X (.Call (.Attribute o name apos) (e::es) [] cpos) (tBM X.K T r to t):=by
 intro pins s σ H Q I h;refine wpAny_Call_method_late hbase hfew hline rfl (thn (ho pins s σ H _ I h) λv s1 ⟨x,H1,I1,r1,ty,q1⟩=> ?_)
 obtain⟨h1,h2⟩:=tyV_is I1 r1 ty;refine⟨T,id,pa,slot,hty,h1,h2,?_⟩;have hA:=ha cpos pins s1 σ H1 _ I1 q1;rw[hs]at hA⊢;refine Calls.callWith_builtin (by show(false||(backTo cpos<|starEach es X.env).any (·.1))=false;rw[hplain]<;>rfl) (Calls.evalArgs_plain ?_)
 exact thn hA λus s2 ⟨vs,H2,I2,r2,q2⟩=>hm pins s2 σ H2 x vs v us Q I2 r1 r2 q2
end
def MtM (X:Cx)(id:String)(r:V->List V->Hp->VK->Prop):Prop:=
 ∀(pins:List (Addr×Obj)) (s:Shared) (σ:St) (H:Hp) (x:V) (xs:List V) (v:Value) (us:List Value) (Q:VK),Inv X pins σ H s->RelV x v->Vals xs us->r x xs H Q->
  X∩(call (.builtin id) (v::us)) (EP X pins σ Q) X.xe s
theorem Vals.one {x:V}(h:Vals [x] us): ∃u,us=[u]/\RelV x u:=by
 cases h with
 | cons r q=>cases q;exact⟨_,rfl,r⟩
theorem Vals.two {x y:V}(h:Vals [x,y] us): ∃u v,us=[u,v]/\RelV x u/\RelV y v:=by
 cases h with
 | cons r q=>obtain⟨u,rfl,s⟩:=Vals.one q;exact⟨_,_,rfl,r,s⟩
theorem Vals.zero: ∀{us:List Value},Vals [] us->us=[]
 | _,.nil=>rfl
theorem Vals.dropLast {xs:List V}(h:Vals xs us):Vals xs.dropLast us.dropLast:=by
 induction h with
 | nil=>exact .nil
 | cons r t ih=>
  cases t with
  | nil=>exact .nil
  | cons q t'=>exact .cons r ih
theorem Vals.eraseIdx: ∀{xs:List V} {us:List Value} (i:Nat),Vals xs us->Vals (xs.eraseIdx i) (us.eraseIdx i)
 | _,_,_,.nil=> .nil
 | _,_,0,.cons _ t=>t
 | _,_,i+1,.cons r t=> .cons r (Vals.eraseIdx i t)
theorem Vals.reverse {xs:List V}(h:Vals xs us):Vals xs.reverse us.reverse:=by
 induction h with
 | nil=>exact .nil
 | cons r t ih=>rw[rN,rN];exact Vals.append ih (.cons r .nil)
theorem Vals.rep {xs:List V}{us:List Value}(h:Vals xs us): ∀k:Nat,Vals (replicate k xs).flatten (replicate k us).flatten
 | 0=> .nil
 | k+1=>by
  exact Vals.append h (Vals.rep h k)
theorem foldl_rep (its:List Value): ∀(k:Nat) (acc:List Value),
  foldl (λx1 x2=>x1++x2) acc.toArray (replicate k its.toArray)=(acc++(replicate k its).flatten).toArray
 | 0,acc=>ae
 | k+1,acc=>by
  have e:acc.toArray++its.toArray=(acc++its).toArray:=ae
  have e2:(acc++its)++(replicate k its).flatten=acc++(replicate (k+1) its).flatten:=by
   rw[eM,i9,List.append_assoc]
  rw[<-e2,<-foldl_rep its k (acc++its),<-e,eM,List.foldl_cons]
section
variable {X:Cx}{pins:List (Addr×Obj)}{σ:St}{H:Hp}{s:Shared}{l b:Addr}{xs ys zs:List V}
theorem Inv.lset {its':List Value}{f:Array Value->Array Value}(I:Inv X pins σ H s)(hH:H l=some (.lst xs))
  (e:s.heap.get? l=some {cls:= .type "list",data:= .seq its.toArray n}) (hf:f its.toArray=its'.toArray) (hv:Vals ys its') (hz:ys.length<=sizeLine) :
  Inv X pins σ (upd H l<|.lst ys) {s with heap:=s.heap.update l (Obj.mapSeq f),toks:=t'}:=by
 have q:=PySem.IsL.update e f;rw[hf]at q;refine I.write (by rw[hH];exact trivial) (.inl rfl) (λb' u hb hu=>(wH s.heap (Obj.mapSeq f)<|Ne.symm hb).trans hu) ⟨_,q⟩ ?_
 exact⟨hz,its',_,hv,q⟩
theorem Inv.lnew (I:Inv X pins σ H s)(hv:Vals ys its)(hz:ys.length<=sizeLine) :
  Inv X pins σ (upd H s.heap.objs.size<|.lst ys) {s with heap:=s.heap.push {cls:= .type "list",data:= .seq its.toArray},toks:=t'}:=
 I.laid (λ_ _ q=>aJ _ q) (aC _) ⟨hz,its,0,hv,aY _ rfl⟩
theorem Inv.fresh (I:Inv X pins σ H s):H s.heap.objs.size=none:=I.hok.fresh (aC _)
theorem Inv.lstM (I:Inv X pins σ H s)(hH:H l=some (.lst xs)):xs.length<=sizeLine/\ ∃(its:List Value) (n:Nat),Vals xs its/\xs.length=its.length/\s.heap.get? l=some {cls:= .type "list",data:= .seq its.toArray n}:=by
 obtain⟨z,its,n,r,e⟩:=I.hok l _ hH;exact⟨z,its,n,r,r.length,e⟩
theorem bH3 (h:n<=sizeLine):Builtin.List.listTooLong n=false:=by
 exact dC ad
end
section
variable {X:Cx}
nonrec def bW5:V->List V->Hp->VK->Prop:=λx vs H Q=> ∃l xs y,x= .ref l/\vs=[y]/\H l=some (.lst xs)/\xs.length<sizeLine/\Q .non (upd H l<|.lst<|xs++[y])
theorem aF5:MtM X "list.append" bW5:=by
 intro pins s σ H x vs v us Q I rx rv h;obtain⟨l,xs,y,rfl,rfl,hH,hz,q⟩:=h;cases rx;obtain⟨u,rfl,ru⟩:=rv.one;obtain⟨z,its,n,r,hl,e⟩:=I.lstM hH;refine call_meets F.slot_list_append ⟨_,e,rfl⟩ F.entry_list_append (F.args_list_append_2 _ _) (PySem.list_append l its.toArray n u (by rw[aZ];lia)) ⟨e,?_⟩
 refine⟨.non,_,I.lset hH e ae (r.append<|.cons ru .nil) ?_,rfl,q⟩
 rw[cE,List.length_singleton]
 lia
nonrec def rCat:R2:=λx y H Q=> ∃l b xs zs,x= .ref l/\y= .ref b/\H l=some (.lst xs)/\H b=some (.lst zs)/\xs.length+zs.length<=sizeLine/\ ∀p,H p=none->Q (.ref p) (upd H p<|.lst<|xs++zs)
theorem op_cat:OpR X (binaryOp .Add) rCat:=by
 intro pins s σ H x y v u Q I rx ry h;obtain⟨l,b,xs,zs,rfl,rfl,hH,hB,hz,q⟩:=h;cases rx;cases ry;obtain⟨z,its,n,r,hl,e⟩:=I.lstM hH;obtain⟨z2,its2,n2,r2,hl2,e2⟩:=I.lstM hB;refine PySem.P.add_list e e2 ?_ (by rw[aZ,aZ];omega)
 have ea:its.toArray++its2.toArray=(its++its2).toArray:=ae
 rw[ea];exact⟨.ref _,_,I.lnew (r.append r2) (by rw[cE];omega),rfl,q _ I.fresh⟩
nonrec def rRep:R2:=λx y H Q=> ∃l k xs,x= .ref l/\y= .int k/\H l=some (.lst xs)/\ -(2^63)<=k/\k<2^63/\xs.length*k.toNat<=sizeLine/\
 ∀p,H p=none->Q (.ref p) (upd H p<|.lst (replicate k.toNat xs).flatten)
theorem bW6 {α:Type}(xs:List α)(k:Nat):(replicate k xs).flatten.length=k*xs.length:=by
 induction k with
 | zero=>simp
 | succ k ih=>rw[eM,i9,cE,ih,Nat.succ_mul,add_comm]
theorem op_rep:OpR X (binaryOp .Mult) rRep:=by
 intro pins s σ H x y v u Q I rx ry h;obtain⟨l,k,xs,rfl,rfl,hH,h1,h2,hz,q⟩:=h;cases rx;obtain⟨t,rfl⟩:=ry;obtain⟨z,its,n,r,hl,e⟩:=I.lstM hH;have hlen:its.toArray.size*k.toNat<=sizeLine:=by rw[aZ,<-hl];exact hz
 have hcap: ¬its.toArray.size*k.toNat>(2^63-1)/8:=by
  have:(sizeLine:Nat)<=(2^63-1)/8:=ac
  lia
 have hfit: ¬(!Builtin.List.listFitsIndex k)=true:=by
  rw[fitsIndex_both h1 h2];exact bG
 have hlong: ¬Builtin.List.listTooLong (its.toArray.size*k.toNat)=true:=by
  rw[bH3 hlen];exact bG
 have hnew:foldl (λx1 x2=>x1++x2) #[] (replicate (if its.toArray.isEmpty=true then 0 else k.toNat) its.toArray)=(replicate k.toNat its).flatten.toArray:=by
  have f0: ∀m:Nat,foldl (λx1 x2=>x1++x2) #[] (replicate m its.toArray)=(replicate m its).flatten.toArray:=λm=>by
   have:=foldl_rep its m [];exact this
  rw[f0];cases its with
  | nil=>simp
  | cons a r'=>rw[a7 ae]
 refine wpAny_binaryOp_repeat_ref ac ⟨_,e,rfl⟩ (λs'=>typeIs_int s' k t) noFill_list_mul F.fills_int_mul F.slot_int_rmul repeat_list F.slot_int_index.lookup
  (call_meets F.slot_int_rmul (typeIs_int s k t) F.entry_int_rmul (F.args_int_rmul_2 _ _) (int___rmul___int_list k t l its.toArray n)
   ⟨e,rfl,⟨_,e,rfl⟩,call_meets F.slot_list_mul ⟨_,e,rfl⟩ F.entry_list_mul (F.args_list_mul_2 _ _) (AutoListH.list___mul___list_int_3 l its.toArray n k t hfit hcap hlong) ⟨e,?_⟩⟩)
 rw[hnew];exact⟨.ref _,_,I.lnew (r.rep k.toNat) (by rw[bW6,Nat.mul_comm];exact hz),rfl,q _ I.fresh⟩
end
section
variable {prog:Program}{w:World}{A:Around}{E:Value->Shared->Prop}{s:Shared}
set_option maxRecDepth 100000 in
end
end L2
namespace Att
open PySem PySem.W PySem.Calls PyProof.Rows
theorem a35 {P:Params}: ∀(ns:List Int) (vs:List Value),WellAll P h vs (ns.map WData.int)->IntsAre vs ns:=by
 intro ns
 induction ns with
 | nil=>
  intro vs w;cases w;exact .nil
 | cons n ns ih=>
  intro vs w;cases w with
  | cons a b=>
   cases a;exact .cons _ _ (ih _ b)
theorem bB5 {l:OpenLaw}{n:Nat}(hn:l.most=some n){P:Params}{h:Heap}{args:List WData}{vals:List Value}
  (hpre:l.row.toRowW.claim.pre args=true) (hwl:WellAll P h vals args) :
  ∃a vs ns,vals=[Value.ref a]/\args=[WData.list<|ns.map WData.int]/\h.get? a=some {cls:= .type "list",data:= .seq vs.toArray}/\IntsAre vs ns/\ns.length<=n:=by
 have hsh:WShape.hasAll [] args [.list .int]=true:=(pre_splitW hpre).1;have hc:l.pre.holds [] {args:=args}=true:=(pre_splitW hpre).2;obtain⟨d,r,rfl,h1,h2⟩:=hasAllW_cons hsh;obtain rfl:=hasAllW_nil h2;obtain⟨xs,rfl,h3⟩:=hasW_list h1;obtain⟨ns,rfl⟩:=items_int h3;have hlen:ns.length<=n:=by
  have h4:(WTm.not<|.lt (.lit<|.int (n:Int))<|.len<|.arg 0).holds [] {args:=[.list<|ns.map .int]}=true:=by
   have h4:=(holds_andW hc).1;rw[hn]at h4;exact h4
  have h5:=condW_of h4 (w_not<|w_lt w_lit<|w_len_list<|w_arg rfl)
  first
   | (rw[eR q']at h5;exact absurd h5 ac)
   | (simp at h5;omega)
 cases hwl with
 | cons w1 w2=>
  cases w2;cases w1 with
  | list ho hall=>exact⟨_,_,ns,rfl,rfl,ho,a35 ns _ hall,hlen⟩
theorem bB6 (l:OpenLaw)(args:List WData):l.row.toRowW.claim.post args (.bool true) args=true:=
 postW_of
  (show WShape.has [] (.bool true) .bool=true by first|rfl|decide|simp[WShape.arms,WShape.armsAll])
  (show(WTm.eq .res<|.lit<|.bool true).value [] {args:=args,res:=some (.bool true),after:=args}=some (.bool<|true==true)from w_eq_bool (w_res rfl) w_lit) rfl
theorem attach_call {l:OpenLaw}{XP:(Str->Option Value)->Heap->Prop}{d:DefRec}
  (hn:l.most=some n) (hdf:d.params.defaults=[])
  (call: ∀(w:World) (s₀ s₁:Shared) (mg mb:Str->Option Value) (fa:Addr) (o:Obj) (pm cd doc:Value) (a:Addr) (vs:List Value) (ns:List Int),
   Ground q loose [] XP w s₀ mg mb s₁.heap->YP w s₁.heap->
   s₁.heap.get? fa=some o->o.data= .func (docDef d.name d.params d.body d.scope pm cd doc)->s₁.heap.CodeRec cd d.name->mg d.name=some (.ref fa)->
   s₁.heap.get? a=some {cls:= .type "list",data:= .seq vs.toArray}->IntsAre vs ns->ns.length<=n->s₁.gens= #[]->
   codeAny (model l.prog w) callerA (.call (.ref fa) ⟨[.ref a],[]⟩) (λr s'=>r= .ok (.ret<|.bool true)/\OldK s₁.heap s'.heap/\s'.os=s₁.os/\AllBare s'.gens) s₁) :
  WalkO q loose XP YP l.row.toRowW d [] (λf vs=>PySem.call f vs):=by
 intro w s₀ s₁ mg mb G Y fa o pm cd doc dV kV ho hd hcd hD hmg hg args vals as hpre hlay hrd hwl hlo;obtain rfl:dV= .none:=Dflts.none hD hdf;obtain rfl:kV= .none:=Dflts.noKw hD;obtain⟨a,vs,ns,rfl,rfl,hobj,hints,hlen⟩:=bB5 hn hpre hwl;refine enter_call (kU (call w s₀ s₁ mg mb fa o pm cd doc a vs ns G Y ho (fd_plain hd) hcd hmg hobj hints hlen hg) λr s' hq=> ?_)
 obtain⟨rfl,h2,h3,h4⟩:=hq;exact⟨.inl ⟨.bool true,.bool true,[],rfl,λ_=>rfl,.bool true,bB6 l _,λ_=>⟨List.Pairwise.nil,λ_ hm=>(nomatch hm)⟩⟩,h2,h3,h4⟩
end Att
namespace L2
theorem aF6: ∀{vs:List Value} {ns:List Int},IntsAre vs ns->Vals (ns.map V.int) vs
 | _,_,.nil=> .nil
 | _,_,.cons n t h=> .cons ⟨t,rfl⟩ (aF6 h)
def Only (H:Hp):Prop:= ∀b,H b=none\/ ∃o xs,H b=some (.frz o<|.lst xs)
theorem bH4 {P:Program}{w:World}{K:PySem.W.Frag}{mg mb:Str->Option Value}{CX:CXT}{k:Nat}{fa a:Addr}{fd:FuncData}{x:Str}{sp:Sp}{s₁:Shared}{vs:List Value}{ns:List Int}
  (KX:K.In s₁.heap) (hns:s₁.heap.Ns mainGlobals mg) (hb:s₁.heap.Ns builtinsNs mb) (hbb: ∀x:Str,x≠"__name__"->mb x=bootBuiltins x) (hlim:s₁.heap.NoLimit) (hg:s₁.gens= #[])
  (ha:s₁.heap.get? a=some {cls:= .type "list",data:= .seq vs.toArray}) (hi:IntsAre vs ns) (hl:ns.length<=sizeLine) (hr:gR k callerA)
  (F: ∀base:Heap,K.In base->base.Ns mainGlobals mg->pL P w K mg base CX k fa fd [x] sp) (hbind: ∀(s:Shared) (u:Value),BindsTo s fd ⟨[u],[]⟩ [(x,u)])
  (hsp: ∀H:Hp,Only H->SqL K H a (ns.map V.int)->sp [.ref a] H (λv _=>v= .bl true) λ_ _ _=>False)
  (hCX: ∀H e s',CX [] H s₁ (λ_ _ _=>False) e s'->False) :
  codeAny (model P w) callerA (.call (.ref fa) ⟨[.ref a],[]⟩) (λr s'=>r= .ok (.ret<|.bool true)/\OldK s₁.heap s'.heap/\s'.os=s₁.os/\AllBare s'.gens) s₁:=by
 have rv:=aF6 hi;have lenV:=hi.length;have core: ∀H:Hp,Only H->SqL K H a (ns.map V.int)->HOk P w H s₁.heap->(∀b,H b≠none->b=a)->(H a≠none->K.lookup a=none)->
   codeAny (model P w) callerA (.call (.ref fa) ⟨[.ref a],[]⟩) (λr s'=>r= .ok (.ret<|.bool true)/\OldK s₁.heap s'.heap/\s'.os=s₁.os/\AllBare s'.gens) s₁:=by
  intro H hO hS hok hA hK;have base_of: ∀{b:Addr} {o:Obj},s₁.heap.get? b=some o->H b=none->(aK1 s₁.heap H).get? b=some o:=λe n=>bF3 e n
  have noA: ∀{b:Addr} {o:Obj} {es:Array DictEntry} {ep:Nat},s₁.heap.get? b=some o->o.data= .dict es ep->H b=none:=λ{b o es ep} e d=>by
   cases q:H b with
   | none=>rfl
   | some u=>
    have e':b=a:=hA b (by rw[q];simp)
    subst e';rw[ha]at e;cases e;have d':Data.seq vs.toArray _=Data.dict es ep:=d;cases d'
  have nsK: ∀{b:Addr} {m:Str->Option Value},s₁.heap.Ns b m->(aK1 s₁.heap H).Ns b m:=λ{b m} ⟨o,es,ep,e,d,r⟩=>⟨o,es,ep,base_of e<|noA e d,d,r⟩
  have hKb:K.In (aK1 s₁.heap H):=λb o e=>base_of (KX b o e) (by
   cases q:H b with
   | none=>rfl
   | some u=>
    have e':b=a:=hA b (by rw[q];simp)
    subst e';rw[hK (by rw[q];simp)]at e;cases e)
  have hM:Mod K mg (aK1 s₁.heap H):=⟨hKb,nsK hns,⟨mb,nsK hb,hbb⟩,let ⟨mc,h1,h2⟩:=hlim;⟨mc,nsK h1,h2⟩⟩;have e0:aY9 P w K mg (aK1 s₁.heap H) callerA [] s₁ H:=⟨rfl,hM,λb o e=>bU8 e,le_of_eq<|bA4 _ _,trivial,λb hb=>absurd (show b∈([]:List Addr)from hb) ae,hok,.of_eq hg⟩
  refine kU ((F _ hKb<|nsK hns).run callerA [] s₁ H ⟨[.ref a],[]⟩ [.ref a] [.ref a] _ _ hr e0 (hbind s₁<|.ref a) (.cons rfl .nil)<|hsp H hO hS) λr s' h=> ?_
  cases r with
  | error e=>exact(hCX H e s' h).elim
  | ok fl=>
   cases fl with
   | next=>exact False.elim h
   | brk=>exact False.elim h
   | cont=>exact False.elim h
   | ret u=>
    obtain⟨v,H',os,bare,un,hok',r',q⟩:=h;have q':v= .bl true:=q;subst q';obtain rfl:u=Value.bool true:=r';refine⟨rfl,OldK.of_keep λb o e=> ?_,os,bare⟩
    cases q:H b with
    | none=>exact un.keep b o e q (by intro z;exact absurd (show b∈([]:List Addr)from z) ae) ae
    | some u=>
     rcases hO b with z| ⟨ob,xs,z⟩
     .rw[q]at z;cases z
     .have z2:=un.frzs b ob _ z;obtain⟨e1,_⟩:=hok b _ z;obtain⟨e2,_⟩:=hok' b _ z2;rw[e]at e1;cases e1;exact e2
 cases hk:K.lookup a with
 | some o=>
  have e:=KX a o hk;rw[ha]at e;cases e;refine core (λ_=>none) (λ_=> .inl rfl) (.inr ⟨_,vs.toArray,_,hk,rfl,rfl,rfl,by rw[aZ,lenV];exact hl,by exists rv⟩) (λb u z=>by have z':(none:Option HO)=some u:=z;cases z') (λb z=>absurd rfl z) λz=>absurd rfl z
 | none=>
  refine core (λb=>if b=a then some (.frz {cls:= .type "list",data:= .seq vs.toArray}<|.lst<|ns.map V.int)else none) (λb=> ?_) (.inl<|.inr ⟨{cls:= .type "list",data:= .seq vs.toArray},a8 rfl⟩) (λb u z=> ?_) (λb z=> ?_) λ_=>hk
  .by_cases hb:b=a
   .exact .inr ⟨_,_,a8 hb⟩
   .exact .inl (a7 hb)
  .by_cases hb:b=a
   .have z':=(a8 hb).symm.trans z;cases z';subst hb;exact⟨ha,by rw[aK];exact hl,vs,_,rv,ha⟩
   .have z':=(a7 hb).symm.trans z;cases z'
  .by_cases hb:b=a
   .exact hb
   .exact absurd (a7 hb) z
theorem walk_of {l:PySem.W.OpenLaw}{XP:(Str->Option Value)->Heap->Prop}{d:DefRec}{K:Params->PySem.W.Frag}{CX:World->CXT}{sp:World->Sp}
  (hn:l.most=some n) (hn2:n<=sizeLine) (hdf:d.params.defaults=[]) (hr:gR k callerA)
  (hY: ∀(w:World) (h:Heap),YP w h->(K w.params).In h)
  (F: ∀(w:World) (mg:Str->Option Value) (fa:Addr) (h:Heap),(K w.params).In h->h.Ns mainGlobals mg->mg d.name=some (.ref fa)->
   ∃fd:FuncData,(∀(s:Shared) (u:Value),BindsTo s fd ⟨[u],[]⟩ [(x,u)])/\
    ∀base:Heap,(K w.params).In base->base.Ns mainGlobals mg->pL l.prog w (K w.params) mg base (CX w) k fa fd [x] (sp w))
  (hsp: ∀(w:World) (H:Hp) (a:Addr) (ns:List Int),ns.length<=n->Only H->SqL (K w.params) H a (ns.map V.int)->sp w [.ref a] H (λv _=>v= .bl true) λ_ _ _=>False)
  (hCX: ∀(w:World) (H:Hp) (s:Shared) (e:Value) (s':Shared),CX w [] H s (λ_ _ _=>False) e s'->False) :
  PySem.W.WalkO q loose XP YP l.row.toRowW d [] (λf vs=>PySem.call f vs):=by
 refine Att.attach_call hn hdf λw s₀ s₁ mg mb fa o pm cd doc a vs ns G Y ho hd hcd hmg hobj hints hlen hg=> ?_
 have KX:=hY w _ Y;obtain⟨fd,hb,hF⟩:=F w mg fa _ KX G.T.g hmg;exact bH4 KX G.T.g G.T.b G.T.builtins G.T.nolimit hg hobj hints (aN hlen hn2) hr hF hb (λH hO hS=>hsp w H a ns hlen hO hS) λH e s'=>hCX w H s₁ e s'
def nJ (s:Stmt):Arguments:=match s with
 | .FunctionDef _ a _ _ _ _ _ _ _ _=>a
 | _=>{posonlyargs:=[],args:=[],vararg:=none,kwonlyargs:=[],kw_defaults:=[],kwarg:=none,defaults:=[]}
def eY (s:Stmt):List Stmt:=match s with
 | .FunctionDef _ _ b _ _ _ _ _ _ _=>b
 | _=>[]
def aI (s:Stmt):Scope:=match s with
 | .FunctionDef _ _ _ _ _ _ sc _ _ _=>sc
 | _=>{kind:= .function,names:=[],isGenerator:=false,isCoroutine:=false}
abbrev CX0:CXT:=λ_ _ _ _ _ _=>False
abbrev E0:XK:=λ_ _ _=>False
structure Fun (K:PySem.W.Frag)(x qual:Str)(st:Stmt)(f:Addr)(fd:FuncData):Prop where
 ex: ∃(oc:Value) (od:Option Addr) (kV doc pm:Value) (an:Option Addr) (cdv ct:Value) (osl:Array (Option Value)),
  fd=fnOf x qual (nJ st) (eY st) (aI st) .none kV doc pm an cdv ct/\K.lookup f=some ⟨oc,od,.func fd,osl⟩/\codeIn K cdv qual=true
 kp:keepIn K (.ref f)=true
section
variable {P:Program}{w:World}{K:PySem.W.Frag}{mg:Str->Option Value}{base:Heap}
theorem Fun.ok {ps:List Str}{sp:Sp}(F:Fun K x qual st f fd)(S:bN N ps (aI st))(len: ∀vs H Q E,sp vs H Q E->vs.length=ps.length)
  (hbody: ∀(cdv:Value) (A:Around) (outer:List Env) (s:Shared) (H:Hp) (vs:List V) (Q:VK) (E:XK),gR k (A.deeper<|envOfC qual (aI st) s.heap.objs.size f cdv)->sp vs H Q E->
   ∃t,PSs (sM CX0 P w K mg base N qual (aI st) f cdv A outer s H E).nox (eY st) t/\t {nx:=λ_ H'=>Q .non H',rt:=Q} (start N vs) H):pL<$>CX0 (k+1) f fd ps sp:=by
 obtain⟨oc,od,kV,doc,pm,an,cdv,ct,osl,rfl,lk,hcd⟩:=F.ex;refine c44 lk hcd S len λA outer s H vs Q E hr hsp=> ?_
 obtain⟨t,h,q⟩:=hbody cdv A outer s H vs Q E hr hsp;exact⟨t,h.nox,q⟩
theorem Fun.binds {ps:List Str}(F:Fun K x qual st f fd)
  (h: ∀(kV doc pm:Value) (an:Option Addr) (cdv ct:Value) (us:List Value),us.length=ps.length->bindArgs (fnOf x qual (nJ st) (eY st) (aI st) .none kV doc pm an cdv ct) ⟨us,[]⟩=pure (ps.zip us)):Binds K fd ps []:=by
 obtain⟨oc,od,kV,doc,pm,an,cdv,ct,osl,rfl,lk,hcd⟩:=F.ex;exact .all (h kV doc pm an cdv ct)
theorem bH5 {oc:Value}{od an:Option Addr}{osl:Array (Option Value)}{kV doc pm cdv ct:Value}(l:K.lookup f=some ⟨oc,od,.func<|fnOf x qual (nJ st) (eY st) (aI st) .none kV doc pm an cdv ct,osl⟩)
  (c:codeIn K cdv qual=true) (k:keepIn K (.ref f)=true):Fun K x qual st f (fnOf x qual (nJ st) (eY st) (aI st) .none kV doc pm an cdv ct):=⟨⟨oc,od,kV,doc,pm,an,cdv,ct,osl,rfl,l,c⟩,k⟩
end
section
variable {X:Cx}
theorem pv (i:Nat)(hN:↥(X.N[i]? =some x))(hv:Vis X.env.scope x:=by first|exact Or.inl rfl|exact Or.inr (Or.inl rfl)|exact Or.inr (Or.inr rfl))(hd:⇑(x∪0))
  (hcd:⇑((x==("__classdict__":Str))=false)):PE X (.Name x pos) (a34 i):=pe_var hN hv hd hcd
end
def eE (H H':Hp):Prop:= ∀b o,H b=some o->H' b=some o
theorem eE.refl (H:Hp):eE H H:=λ_ _ h=>h
theorem eE.trans {H H1 H2:Hp}(a:eE H H1)(b:eE H1 H2):eE H H2:=λc o h=>b c o (a c o h)
theorem eE.free {H H':Hp}(e:eE H H')(h:H' l=Option.none):H l=Option.none:=by
 cases q:H l with
 | none=>rfl
 | some o=>
  rw[e l o q]at h;cases h
theorem eE.seq {H H':Hp}{xs:List V}(e:eE H H')(h:SqL K H a xs):SqL K H' a xs:=by
 rcases h with(h| ⟨o,h⟩)|h
 .exact .inl (.inl<|e _ _ h)
 .exact .inl (.inr ⟨o,e _ _ h⟩)
 .exact .inr h
end L2
namespace M
inductive D where
 | non|bl (b:Bool)|int (i:Int)|str (x:Str)|ty (n:String)
 | tup (l:List D)|lst (l:List D)|rol (l:List D)
 | obj (C:Addr) (ks:List Str) (l:List D)
 | adr (a:Addr)
 | xob (a d:Addr) (ks:List Str) (l:List D)
abbrev AS:=Addr->Prop
def KT (K:PySem.W.Frag)(a:Addr)(vs:List V):Prop:=
 ∃(o:Obj) (its:Array Value) (n:Nat),K.lookup a=some o/\o.cls= .type "tuple"/\o.data= .seq its n/\its.size<=sizeLine/\Vals vs its.toList
def KL (K:PySem.W.Frag)(a:Addr)(vs:List V):Prop:=
 ∃(o:Obj) (its:Array Value) (n:Nat),K.lookup a=some o/\o.cls= .type "list"/\o.dict=none/\o.data= .seq its n/\its.size<=sizeLine/\Vals vs its.toList
def OkC (K:PySem.W.Frag)(C:Addr)(ks:List Str):Prop:=Cls K C/\ ∀f∈ks,NoAttr K C f
mutual
def Rep (K:PySem.W.Frag)(A:AS)(H:Hp):D->V->Prop
 | .non,v=>v= .non
 | .bl b,v=>v= .bl b
 | .int i,v=>v= .int i
 | .str x,v=>v= .str x
 | .ty n,v=>v= .ty n
 | .tup l,v=> ∃a vs,v= .ref a/\((¬A a/\Rd H a (.tup vs))\/KT K a vs)/\aV K A H l vs
 | .lst l,v=> ∃a vs,v= .ref a/\ ¬A a/\H a=some (.lst vs)/\aV K A H l vs
 | .rol l,v=> ∃a vs,v= .ref a/\((¬A a/\Rd H a (.lst vs))\/KL K a vs)/\aV K A H l vs
 | .obj C ks l,v=> ∃a dx vs,v= .ref a/\ ¬A a/\H a=some (.ins C dx<|ks.zip vs)/\ks.length=vs.length/\aV K A H l vs/\OkC K C ks
 | .adr a,v=>v= .ref a
 | .xob a d ks l,v=> ∃vs,v= .ref a/\ ¬A d/\H d=some (.xd<|ks.zip vs)/\ks.length=vs.length/\aV K A H l vs
def aV (K:PySem.W.Frag)(A:AS)(H:Hp):List D->List V->Prop
 | [],vs=>vs=[]
 | d::ds,vs=> ∃v vr,vs=v::vr/\Rep K A H d v/\aV K A H ds vr
end
section
variable {K:PySem.W.Frag}{A A':AS}{H H':Hp}
def jS (A:AS)(H:Hp)(A':AS)(H':Hp):Prop:= ∀b o,¬A b->H b=some o-> ¬A' b/\H' b=some o
theorem Rd.pres (p:jS A H A' H'){u:HO}(n: ¬A a)(r:Rd H a u): ¬A' a/\Rd H' a u:=by
 rcases r with r| ⟨o,r⟩
 .exact⟨(p a _ n r).1,.inl (p a _ n r).2⟩
 .exact⟨(p a _ n r).1,.inr ⟨o,(p a _ n r).2⟩⟩
mutual
theorem Rep.mono (p:jS A H A' H'): ∀{d:D} {v:V},Rep K A H d v->Rep K A' H' d v
 | .non,_,h=>h
 | .bl _,_,h=>h
 | .int _,_,h=>h
 | .str _,_,h=>h
 | .ty _,_,h=>h
 | .tup l,v,h=>by
  simp only[Rep]at h⊢;obtain⟨a,vs,e,c,r⟩:=h;refine⟨a,vs,e,?_,aV.mono p r⟩;rcases c with⟨n,c⟩|c
  .exact .inl (Rd.pres p n c)
  .exact .inr c
 | .lst l,v,h=>by
  simp only[Rep]at h⊢;obtain⟨a,vs,e,n,c,r⟩:=h;exact⟨a,vs,e,(p a _ n c).1,(p a _ n c).2,aV.mono p r⟩
 | .rol l,v,h=>by
  simp only[Rep]at h⊢;obtain⟨a,vs,e,c,r⟩:=h;refine⟨a,vs,e,?_,aV.mono p r⟩;rcases c with⟨n,c⟩|c
  .exact .inl (Rd.pres p n c)
  .exact .inr c
 | .obj C ks l,v,h=>by
  simp only[Rep]at h⊢;obtain⟨a,dx,vs,e,n,c,hl,r,ok⟩:=h;exact⟨a,dx,vs,e,(p a _ n c).1,(p a _ n c).2,hl,aV.mono p r,ok⟩
 | .adr _,_,h=>h
 | .xob a d ks l,v,h=>by
  simp only[Rep]at h⊢;obtain⟨vs,e,n,c,hl,r⟩:=h;exact⟨vs,e,(p d _ n c).1,(p d _ n c).2,hl,aV.mono p r⟩
theorem aV.mono (p:jS A H A' H'): ∀{l:List D} {vs:List V},aV K A H l vs->aV K A' H' l vs
 | [],_,h=>by simp only[aV]at h ⊢; exact h
 | d::ds,vs,h=>by
  simp only[aV]at h⊢;obtain⟨v,vr,e,r,rs⟩:=h;exact⟨v,vr,e,Rep.mono p r,aV.mono p rs⟩
end
theorem aV.length: ∀{l:List D} {vs:List V},aV K A H l vs->l.length=vs.length
 | [],_,h=>by simp only[aV]at h;subst h;rfl
 | d::ds,vs,h=>by
  obtain⟨v,vr,rfl,_,rs⟩:=h;simp only[gK,aV.length rs]
theorem aV.nil:aV K A H [] []:=by simp only[aV]
theorem aV.cons {d:D}{v:V}{l:List D}{vs:List V}(r:Rep K A H d v)(rs:aV K A H l vs):aV K A H (d::l) (v::vs):=by
 simp only[aV];exact⟨v,vs,rfl,r,rs⟩
theorem aV.uncons {d:D}{l:List D}{vs:List V}(h:aV K A H (d::l) vs): ∃v vr,vs=v::vr/\Rep K A H d v/\aV K A H l vr:=by
 simpa only[aV]using h
theorem aV.unnil {vs:List V}(h:aV K A H [] vs):vs=[]:=by simpa only[aV]using h
theorem aV.append: ∀{l m:List D} {vs ws:List V},aV K A H l vs->aV K A H m ws->aV K A H (l++m) (vs++ws)
 | [],_,_,_,h,g=>by rw[h.unnil];exact g
 | d::l,m,vs,ws,h,g=>by
  obtain⟨v,vr,rfl,r,rs⟩:=h.uncons;exact .cons r (aV.append rs g)
theorem aV.get: ∀{l:List D} {vs:List V} {i:Nat} {d:D},aV K A H l vs->l[i]? =some d-> ∃v,vs[i]? =some v/\Rep K A H d v
 | [],_,_,_,_,e=>by simp at e
 | d::l,vs,0,d',h,e=>by
  obtain⟨v,vr,rfl,r,rs⟩:=h.uncons;simp at e;subst e;exact⟨v,ae,r⟩
 | d::l,vs,i+1,d',h,e=>by
  obtain⟨v,vr,rfl,r,rs⟩:=h.uncons;obtain⟨w,h1,h2⟩:=aV.get rs (by exists e)
  exact⟨w,by simpa using h1,h2⟩
theorem aV.set: ∀{l:List D} {vs:List V} {d:D} {v:V} (i:Nat),aV K A H l vs->Rep K A H d v->aV K A H (l.set i d) (vs.set i v)
 | [],_,_,_,_,h,_=>by rw[h.unnil];exact .nil
 | d'::l,vs,d,v,0,h,g=>by
  obtain⟨w,vr,rfl,r,rs⟩:=h.uncons;exact .cons g rs
 | d'::l,vs,d,v,i+1,h,g=>by
  obtain⟨w,vr,rfl,r,rs⟩:=h.uncons;exact .cons r (aV.set i rs g)
theorem aV.drop: ∀{l:List D} {vs:List V} (n:Nat),aV K A H l vs->aV K A H (l.drop n) (vs.drop n)
 | _,_,0,h=>h
 | [],_,n+1,h=>by rw[h.unnil];exact .nil
 | d::l,vs,n+1,h=>by
  obtain⟨v,vr,rfl,r,rs⟩:=h.uncons;exact aV.drop n rs
theorem aV.take: ∀{l:List D} {vs:List V} (n:Nat),aV K A H l vs->aV K A H (l.take n) (vs.take n)
 | _,_,0,h=>by simp only[List.take_zero];exact .nil
 | [],_,n+1,h=>by rw[h.unnil];exact .nil
 | d::l,vs,n+1,h=>by
  obtain⟨v,vr,rfl,r,rs⟩:=h.uncons;exact .cons r (aV.take n rs)
theorem aV.rep {l:List D}{vs:List V}(h:aV K A H l vs): ∀k:Nat,aV K A H (replicate k l).flatten (replicate k vs).flatten
 | 0=> .nil
 | k+1=>by
  exact .append h (h.rep k)
theorem aV.reverse: ∀{l:List D} {vs:List V},aV K A H l vs->aV K A H l.reverse vs.reverse
 | [],_,h=>by rw[h.unnil];exact .nil
 | d::l,vs,h=>by
  obtain⟨v,vr,rfl,r,rs⟩:=h.uncons;rw[rN,rN];exact .append (aV.reverse rs) (.cons r .nil)
theorem jS.same (s:eE H H'):jS A H A H':=λb o n e=>⟨n,s b o e⟩
theorem jS.sub (s:eE H H')(h: ∀a,A' a->A a):jS A H A' H':=λb o n e=>⟨λq=>n (h b q),s b o e⟩
theorem jS.fresh (s:eE H H')(n:H a=none):jS A H (λb=>A b\/b=a) H':=λb o nb e=>
 ⟨λq=>q.elim nb λz=>(by subst z;rw[n]at e;cases e),s b o e⟩
theorem jS.upd {a:Addr}{o:HO}(h:A a):jS A H A (upd H a o):=λb o' nb e=>⟨nb,by rw[cG λz=>nb (by subst z;exact h)];exact e⟩
end
inductive B where
 | pu (d:D)|ow (l:List D)|bo (l:List D)
nonrec def B.d:B->D
 | .pu d=>d
 | .ow l=> .lst l
 | .bo l=> .lst l
abbrev Ev:=List (Option B)
def Own (ρ:Ev)(σ:L2.St):AS:=λa=> ∃(i:Nat) (l:List D),ρ[i]? =some (some<|.ow l)/\σ[i]? =some (some<|.ref a)
structure C0 where
 H0:Hp
 A0:AS
def Av (C:C0)(ρ:Ev)(σ:L2.St):AS:=λa=>C.A0 a\/Own ρ σ a
structure EOk (K:PySem.W.Frag)(C:C0)(ρ:Ev)(σ:L2.St)(H:Hp):Prop where
 len:ρ.length=σ.length
 pu: ∀(i:Nat) (d:D),ρ[i]? =some (some<|.pu d)-> ∃v,σ[i]? =some (some v)/\Rep K (Av C ρ σ) H d v
 ow: ∀(i:Nat) (l:List D),ρ[i]? =some (some<|.ow l)-> ∃a vs,σ[i]? =some (some<|.ref a)/\H a=some (.lst vs)/\C.H0 a=none/\aV K (Av C ρ σ) H l vs
 inj: ∀(i j:Nat) (l l':List D) (a:Addr),ρ[i]? =some (some<|.ow l)->ρ[j]? =some (some<|.ow l')->σ[i]? =some (some<|.ref a)->σ[j]? =some (some<|.ref a)->i=j
 bo: ∀(i:Nat) (l:List D),ρ[i]? =some (some<|.bo l)-> ∃a vs,σ[i]? =some (some<|.ref a)/\C.A0 a/\C.H0 a=some (.lst vs)/\aV K (Av C ρ σ) H l vs
 ext:eE C.H0 H
 a0: ∀a,C.A0 a->C.H0 a≠none
section
variable {K:PySem.W.Frag}{C:C0}{ρ ρ':Ev}{σ σ':L2.St}{H H':Hp}
theorem EOk.avSome (I:EOk K C ρ σ H)(h:Av C ρ σ a):H a≠none:=by
 rcases h with h| ⟨i,l,h1,h2⟩
 .intro z;cases e:C.H0 a with
  | none=>exact I.a0 a h e
  | some o=>rw[I.ext a o e]at z;cases z
 .obtain⟨b,vs,h3,h4,_⟩:=I.ow i l h1;rw[h2]at h3;cases h3;rw[h4];simp
theorem EOk.same (I:EOk K C ρ σ H)(s:eE H H'):EOk K C ρ σ H' where
 len:=I.len
 pu:=λi d h=>let ⟨v,h1,h2⟩:=I.pu i d h;⟨v,h1,h2.mono<|.same s⟩
 ow:=λi l h=>let ⟨a,vs,h1,h2,h3,h4⟩:=I.ow i l h;⟨a,vs,h1,s _ _ h2,h3,h4.mono<|.same s⟩
 inj:=I.inj
 bo:=λi l h=>let ⟨a,vs,h1,h2,h3,h4⟩:=I.bo i l h;⟨a,vs,h1,h2,h3,h4.mono<|.same s⟩
 ext:=I.ext.trans s
 a0:=I.a0
theorem get_set_ne {α:Type}{l:List α}{x:α}(h:i≠j):(l.set i x)[j]? =l[j]? :=by
 rw[List.getElem?_set];simp[h]
theorem eF {α:Type}{l:List α}{x:α}(h:i<l.length):(l.set i x)[i]? =some x:=by
 rw[List.getElem?_set];simp[h]
theorem aR {α:Type}{l:List α}{x y:α}(h:(l.set i x)[j]? =some y):(i=j/\y=x/\i<l.length)\/(i≠j/\l[j]? =some y):=by
 by_cases e:i=j
 .subst e
  by_cases hl:i<l.length
  .simp[hl]at h;exact .inl ⟨rfl,h.symm,hl⟩
  .simp[hl]at h
 .exact .inr ⟨e,by rw[get_set_ne e]at h;exact h⟩
def lM (K:PySem.W.Frag)(A:AS)(H H':Hp):B->V->Prop
 | .pu d,v=>Rep K A H' d v
 | .ow l,v=> ∃a vs,v= .ref a/\H a=none/\H' a=some (.lst vs)/\aV K (λb=>A b\/b=a) H' l vs
 | .bo _,_=>False
theorem lM.rep {A:AS}(hA: ∀a,A a->H a≠none): ∀{b:B} {v:V},lM K A H H' b v->Rep K A H' b.d v
 | .pu d,v,h=>h
 | .ow l,v,h=>by
  obtain⟨a,vs,e,n,h1,r⟩:=h;exact⟨a,vs,e,λz=>hA a z n,h1,r.mono λb o nb q=>⟨λz=>nb (.inl z),q⟩⟩
 | .bo l,v,h=>h.elim
theorem EOk.store (I:EOk K C ρ σ H){b:B}{v:V}{H1:Hp}(s:eE H H1)(r:lM K (Av C ρ σ) H H1 b v)(hi:i<σ.length):EOk K C (ρ.set i<|some b) (σ.set i<|some v) H1:=by
 have I1:=I.same s;have hir:i<ρ.length:=by rw[I.len];exact hi
 cases b with
 | pu d=>
  have sub: ∀a,Av C (ρ.set i<|some<|.pu d) (σ.set i<|some v) a->Av C ρ σ a:=by
   rintro a (z| ⟨j,l,h1,h2⟩)
   .exact .inl z
   .rcases aR h1 with⟨rfl,h3,_⟩| ⟨ne,h3⟩
    .cases h3
    .rw[get_set_ne ne]at h2;exact .inr ⟨j,l,h3,h2⟩
  refine⟨by rw[cS,cS];exact I.len,?_,?_,?_,?_,I1.ext,I.a0⟩
  rotate_right
  .intro j l h;rcases aR h with⟨rfl,h3,_⟩| ⟨ne,h3⟩
   .cases h3
   .obtain⟨a,vs,h4,h5,h6,h7⟩:=I1.bo j l h3;exact⟨a,vs,by rw[get_set_ne ne];exact h4,h5,h6,h7.mono<|.sub (.refl _) sub⟩
  .intro j d' h;rcases aR h with⟨rfl,h3,_⟩| ⟨ne,h3⟩
   .cases h3;exact⟨v,eF hi,Rep.mono (.sub (.refl _) sub) r⟩
   .obtain⟨v',h4,h5⟩:=I1.pu j d' h3;exact⟨v',by rw[get_set_ne ne];exact h4,h5.mono<|.sub (.refl _) sub⟩
  .intro j l h;rcases aR h with⟨rfl,h3,_⟩| ⟨ne,h3⟩
   .cases h3
   .obtain⟨a,vs,h4,h5,h6,h7⟩:=I1.ow j l h3;exact⟨a,vs,by rw[get_set_ne ne];exact h4,h5,h6,h7.mono<|.sub (.refl _) sub⟩
  .intro j k l l' a h1 h2 h3 h4;rcases aR h1 with⟨rfl,z,_⟩| ⟨ne,z⟩
   .cases z
   .rcases aR h2 with⟨rfl,z',_⟩| ⟨ne',z'⟩
    .cases z'
    .rw[get_set_ne ne]at h3;rw[get_set_ne ne']at h4;exact I.inj j k l l' a z z' h3 h4
 | ow l0=>
  obtain⟨a0,vs0,rfl,n0,e0,r0⟩:=r;have sub: ∀a,Av C (ρ.set i<|some<|.ow l0) (σ.set i<|some<|.ref a0) a->Av C ρ σ a\/a=a0:=by
   rintro a (z| ⟨j,l,h1,h2⟩)
   .exact .inl (.inl z)
   .rcases aR h1 with⟨rfl,h3,_⟩| ⟨ne,h3⟩
    .rw[eF hi]at h2;cases h2;exact .inr rfl
    .rw[get_set_ne ne]at h2;exact .inl (.inr ⟨j,l,h3,h2⟩)
  have P:jS (Av C ρ σ) H (Av C (ρ.set i<|some<|.ow l0)<|σ.set i<|some<|.ref a0) H1:=λb o nb e=>
   ⟨λq=>(sub b q).elim nb λz=>(by subst z;rw[n0]at e;cases e),s b o e⟩
  refine⟨by rw[cS,cS];exact I.len,?_,?_,?_,?_,I1.ext,I.a0⟩
  rotate_right
  .intro j l h;rcases aR h with⟨rfl,h3,_⟩| ⟨ne,h3⟩
   .cases h3
   .obtain⟨a,vs,h4,h5,h6,h7⟩:=I.bo j l h3;exact⟨a,vs,by rw[get_set_ne ne];exact h4,h5,h6,h7.mono P⟩
  .intro j d' h;rcases aR h with⟨rfl,h3,_⟩| ⟨ne,h3⟩
   .cases h3
   .obtain⟨v',h4,h5⟩:=I.pu j d' h3;exact⟨v',by rw[get_set_ne ne];exact h4,h5.mono P⟩
  .intro j l h;rcases aR h with⟨rfl,h3,_⟩| ⟨ne,h3⟩
   .cases h3;refine⟨a0,vs0,eF hi,e0,?_,r0.mono λb o nb q=>⟨λz=>nb (sub b z),q⟩⟩
    cases e:C.H0 a0 with
    | none=>rfl
    | some o=>rw[I.ext _ _ e]at n0;cases n0
   .obtain⟨a,vs,h4,h5,h6,h7⟩:=I.ow j l h3;exact⟨a,vs,by rw[get_set_ne ne];exact h4,s _ _ h5,h6,h7.mono P⟩
  .intro j k l l' a h1 h2 h3 h4;have old: ∀{j:Nat} {l:List D},ρ[j]? =some (some<|.ow l)->σ[j]? ≠some (some<|.ref a0):=λ{j l} h z=>by
    obtain⟨b,vs,h4,h5,_⟩:=I.ow j l h;rw[z]at h4;cases h4;rw[n0]at h5;cases h5
   rcases aR h1 with⟨rfl,z,_⟩| ⟨ne,z⟩
   .rw[eF hi]at h3;cases h3;rcases aR h2 with⟨rfl,z',_⟩| ⟨ne',z'⟩
    .rfl
    .rw[get_set_ne ne']at h4;exact absurd h4 (old z')
   .rw[get_set_ne ne]at h3;rcases aR h2 with⟨rfl,z',_⟩| ⟨ne',z'⟩
    .rw[eF hi]at h4;cases h4;exact absurd h3 (old z)
    .rw[get_set_ne ne']at h4;exact I.inj j k l l' a z z' h3 h4
 | bo l0=>exact r.elim
theorem EOk.freeze (I:EOk K C ρ σ H){l:List D}(h:ρ[i]? =some (some<|.ow l)) :
  EOk K C (ρ.set i<|some<|.pu<|.lst l) σ H/\(∀a,Own (ρ.set i<|some<|.pu<|.lst l) σ a->Own ρ σ a)/\ ∃v,σ[i]? =some (some v)/\Rep K (Av C (ρ.set i<|some<|.pu<|.lst l) σ) H (.lst l) v:=by
 have sub: ∀a,Own (ρ.set i<|some<|.pu<|.lst l) σ a->Own ρ σ a:=by
  rintro a ⟨j,l',h1,h2⟩;rcases aR h1 with⟨rfl,h3,_⟩| ⟨ne,h3⟩
  .cases h3
  .exact⟨j,l',h3,h2⟩
 have subA: ∀a,Av C (ρ.set i<|some<|.pu<|.lst l) σ a->Av C ρ σ a:=λa z=>z.imp id (sub a)
 obtain⟨a,vs,h1,h2,h3,h4⟩:=I.ow i l h;have na: ¬Av C (ρ.set i<|some<|.pu<|.lst l) σ a:=by
  rintro(z| ⟨j,l',g1,g2⟩)
  .exact I.a0 a z h3
  .rcases aR g1 with⟨rfl,g3,_⟩| ⟨ne,g3⟩
   .cases g3
   .exact ne (I.inj i j l l' a h g3 h1 g2)
 have R:Rep K (Av C (ρ.set i<|some<|.pu<|.lst l) σ) H (.lst l) (.ref a):=by
  simp only[Rep];exact⟨a,vs,rfl,na,h2,h4.mono<|.sub (.refl _) subA⟩
 refine⟨⟨by rw[cS];exact I.len,?_,?_,?_,?_,I.ext,I.a0⟩,sub,.ref a,h1,R⟩
 rotate_right
 .intro j l' g;rcases aR g with⟨rfl,g3,_⟩| ⟨ne,g3⟩
  .cases g3
  .obtain⟨a',vs',g4,g5,g6,g7⟩:=I.bo j l' g3;exact⟨a',vs',g4,g5,g6,g7.mono<|.sub (.refl _) subA⟩
 .intro j d' g;rcases aR g with⟨rfl,g3,_⟩| ⟨ne,g3⟩
  .cases g3;exact⟨_,h1,R⟩
  .obtain⟨v',g4,g5⟩:=I.pu j d' g3;exact⟨v',g4,g5.mono<|.sub (.refl _) subA⟩
 .intro j l' g;rcases aR g with⟨rfl,g3,_⟩| ⟨ne,g3⟩
  .cases g3
  .obtain⟨a',vs',g4,g5,g6,g7⟩:=I.ow j l' g3;exact⟨a',vs',g4,g5,g6,g7.mono<|.sub (.refl _) subA⟩
 .intro j k l1 l2 a' g1 g2 g3 g4;rcases aR g1 with⟨rfl,z,_⟩| ⟨ne,z⟩
  .cases z
  .rcases aR g2 with⟨rfl,z',_⟩| ⟨ne',z'⟩
   .cases z'
   .exact I.inj j k l1 l2 a' z z' g3 g4
theorem EOk.write (I:EOk K C ρ σ H){l l':List D}{vs':List V}(h:ρ[i]? =some (some<|.ow l))(hs:σ[i]? =some (some<|.ref a))(r:aV K (Av C ρ σ) H l' vs') :
  EOk K C (ρ.set i<|some<|.ow l') σ (upd H a<|.lst vs'):=by
 have hi:i<ρ.length:=(dN.mp h).1;have sub: ∀b,Av C (ρ.set i<|some<|.ow l') σ b->Av C ρ σ b:=by
  rintro b (z| ⟨j,l2,h1,h2⟩)
  .exact .inl z
  .rcases aR h1 with⟨rfl,h3,_⟩| ⟨ne,h3⟩
   .exact .inr ⟨i,l,h,h2⟩
   .exact .inr ⟨j,l2,h3,h2⟩
 have own:Av C ρ σ a:= .inr ⟨i,l,h,hs⟩;have P:jS (Av C ρ σ) H (Av C (ρ.set i<|some<|.ow l') σ) (upd H a<|.lst vs'):=λb o nb e=>⟨λz=>nb (sub b z),(jS.upd own b o nb e).2⟩
 obtain⟨a1,vs,h1,h2,h3,h4⟩:=I.ow i l h;rw[hs]at h1;cases h1;refine⟨by rw[cS];exact I.len,?_,?_,?_,?_,?_,I.a0⟩
 rotate_left 3
 .intro j l2 g;rcases aR g with⟨rfl,g3,_⟩| ⟨ne,g3⟩
  .cases g3
  .obtain⟨a',vs',g4,g5,g6,g7⟩:=I.bo j l2 g3;exact⟨a',vs',g4,g5,g6,g7.mono P⟩
 rotate_left 1
 .intro j d' g;rcases aR g with⟨rfl,g3,_⟩| ⟨ne,g3⟩
  .cases g3
  .obtain⟨v',g4,g5⟩:=I.pu j d' g3;exact⟨v',g4,g5.mono P⟩
 .intro j l2 g;rcases aR g with⟨rfl,g3,_⟩| ⟨ne,g3⟩
  .cases g3;exact⟨a,vs',hs,jU,h3,r.mono P⟩
  .obtain⟨a',vs2,g4,g5,g6,g7⟩:=I.ow j l2 g3;refine⟨a',vs2,g4,?_,g6,g7.mono P⟩;rw[cG λz=> ?_]
   .exact g5
   .subst z;exact ne (I.inj i j l l2 a' h g3 hs g4)
 .intro j k l1 l2 a' g1 g2 g3 g4;have old: ∀{j:Nat} {l1:List D},(ρ.set i<|some<|.ow l')[j]? =some (some<|.ow l1)-> ∃l3,ρ[j]? =some (some<|.ow l3):=λ{j l1} g=>by
   rcases aR g with⟨rfl,z,_⟩| ⟨ne,z⟩
   .exact⟨l,h⟩
   .exact⟨l1,z⟩
  obtain⟨_,q1⟩:=old g1;obtain⟨_,q2⟩:=old g2;exact I.inj j k _ _ a' q1 q2 g3 g4
 .intro b o e;rw[cG λz=> ?_]
  .exact I.ext b o e
  .subst z;rw[h3]at e;cases e
nonrec def C0.raise (C:C0)(ρ:Ev)(σ:L2.St)(H:Hp)(D:(a:Addr)->Decidable (Own ρ σ a)):C0:=⟨λb=> @ite _ (Own ρ σ b) (D b) none (H b),C.A0⟩
open Classical in
theorem EOk.raise (I:EOk K C ρ σ H):EOk K (C.raise ρ σ H λ_=>inferInstance) ρ σ H/\eE C.H0 (C.raise ρ σ H λ_=>inferInstance).H0:=by
 have e1: ∀b,Own ρ σ b->(C.raise ρ σ H λ_=>inferInstance).H0 b=none:=λb h=>a8 h
 have e2: ∀b,¬Own ρ σ b->(C.raise ρ σ H λ_=>inferInstance).H0 b=H b:=λb h=>a7 h
 have no: ∀b o,C.H0 b=some o-> ¬Own ρ σ b:=λb o e ⟨i,l,h1,h2⟩=>by
  obtain⟨a,vs,h3,h4,h5,_⟩:=I.ow i l h1;rw[h2]at h3;cases h3;rw[h5]at e;cases e
 have s1:eE C.H0 (C.raise ρ σ H λ_=>inferInstance).H0:=λb o e=>by rw[e2 b<|no b o e];exact I.ext b o e
 refine⟨⟨I.len,I.pu,λi l h=> ?_,I.inj,λi l h=> ?_,λb o e=> ?_,λa h z=> ?_⟩,s1⟩
 .obtain⟨a,vs,h3,h4,h5,h6⟩:=I.ow i l h;exact⟨a,vs,h3,h4,e1 a ⟨i,l,h,h3⟩,h6⟩
 .obtain⟨a,vs,h3,h4,h5,h6⟩:=I.bo i l h;exact⟨a,vs,h3,h4,s1 _ _ h5,h6⟩
 .by_cases q:Own ρ σ b
  .rw[e1 b q]at e;cases e
  .rw[e2 b q]at e;exact e
 .cases e:C.H0 a with
  | none=>exact I.a0 a h e
  | some o=>rw[s1 a o e]at z;cases z
theorem EOk.lower {C C':C0}(I:EOk K C' ρ σ H)(s:eE C.H0 C'.H0)(e:C'.A0=C.A0)(ha: ∀a,C.A0 a->C.H0 a≠none):EOk K C ρ σ H:=by
 obtain⟨H0',A0'⟩:=C';obtain⟨H0,A0⟩:=C;have e':A0'=A0:=e;subst e';refine⟨I.len,I.pu,λi l h=> ?_,I.inj,λi l h=> ?_,s.trans I.ext,ha⟩
 .obtain⟨a,vs,h3,h4,h5,h6⟩:=I.ow i l h;exact⟨a,vs,h3,h4,s.free h5,h6⟩
 .obtain⟨a,vs,h3,h4,h5,h6⟩:=I.bo i l h;refine⟨a,vs,h3,h4,?_,h6⟩;cases e:H0 a with
  | none=>exact absurd e (ha a h4)
  | some o=>
   have:=s a o e;have h5':H0' a=some (.lst vs):=h5;have this':H0' a=some o:=this;rw[h5']at this';cases this';exact e
end
def Frz (ρ ρ':Ev):Prop:=ρ'.length=ρ.length/\ ∀i:Nat,ρ'[i]? =ρ[i]? \/ ∃l:List D,ρ[i]? =some (some<|.ow l)/\ρ'[i]? =some (some<|.pu<|.lst l)
theorem Frz.refl (ρ:Ev):Frz ρ ρ:=⟨rfl,λ_=> .inl rfl⟩
theorem Frz.trans {a b c:Ev}(h:Frz a b)(g:Frz b c):Frz a c:=by
 refine⟨g.1.trans h.1,λi=> ?_⟩
 rcases g.2 i with e| ⟨l,e1,e2⟩
 .rcases h.2 i with e'| ⟨l,e1,e2⟩
  .exact .inl (e.trans e')
  .exact .inr ⟨l,e1,e.trans e2⟩
 .rcases h.2 i with e'| ⟨l',e3,e4⟩
  .exact .inr ⟨l,e'▸e1,e2⟩
  .rw[e4]at e1;cases e1
theorem Frz.own {ρ ρ':Ev}{σ:L2.St}(f:Frz ρ ρ')(h:Own ρ' σ a):Own ρ σ a:=by
 obtain⟨i,l,h1,h2⟩:=h;rcases f.2 i with e| ⟨l',_,e2⟩
 .exact⟨i,l,e▸h1,h2⟩
 .rw[e2]at h1;cases h1
theorem Frz.set {ρ:Ev}{l:List D}(h:ρ[i]? =some (some<|.ow l)):Frz ρ (ρ.set i<|some<|.pu<|.lst l):=by
 refine⟨cS,λj=> ?_⟩
 by_cases e:i=j
 .subst e;exact .inr ⟨l,h,eF (dN.mp h).1⟩
 .exact .inl (get_set_ne e)
section
variable {K:PySem.W.Frag}{C:C0}{ρ ρ':Ev}{σ:L2.St}{H H':Hp}
theorem Frz.av (f:Frz ρ ρ')(h:Av C ρ' σ a):Av C ρ σ a:=h.imp id f.own
theorem EOk.frz (I:EOk K C ρ σ H)(f:Frz ρ ρ'):EOk K C ρ' σ H:=by
 have ow': ∀{j:Nat} {l:List D},ρ'[j]? =some (some<|.ow l)->ρ[j]? =some (some<|.ow l):=λ{j l} h=>by
  rcases f.2 j with e| ⟨l',_,e2⟩
  .exact e▸h
  .rw[e2]at h;cases h
 refine⟨by rw[f.1];exact I.len,λi d h=> ?_,λi l h=> ?_,λi j l l' a h1 h2=>I.inj i j l l' a (ow' h1) (ow' h2),λi l h=> ?_,I.ext,I.a0⟩
 .rcases f.2 i with e| ⟨l,e1,e2⟩
  .obtain⟨v,h1,h2⟩:=I.pu i d (e▸h);exact⟨v,h1,h2.mono<|.sub (.refl _) λa=>f.av⟩
  .rw[e2]at h;cases h;obtain⟨a,vs,h1,h2,h3,h4⟩:=I.ow i l e1;refine⟨.ref a,h1,?_⟩;refine⟨a,vs,rfl,?_,h2,h4.mono<|.sub (.refl _) λa=>f.av⟩
   rintro(z| ⟨j,l',g1,g2⟩)
   .exact I.a0 a z h3
   .have:=I.inj i j l l' a e1 (ow' g1) h1 g2;subst this;rw[e2]at g1;cases g1
 .obtain⟨a,vs,h1,h2,h3,h4⟩:=I.ow i l (ow' h);exact⟨a,vs,h1,h2,h3,h4.mono<|.sub (.refl _) λa=>f.av⟩
 .have h':ρ[i]? =some (some<|.bo l):=by
   rcases f.2 i with e| ⟨l',_,e2⟩
   .exact e▸h
   .rw[e2]at h;cases h
  obtain⟨a,vs,h1,h2,h3,h4⟩:=I.bo i l h';exact⟨a,vs,h1,h2,h3,h4.mono<|.sub (.refl _) λa=>f.av⟩
end
abbrev UE:=Ev->(B->Ev->Prop)->Prop
abbrev UV:=Ev->(D->Ev->Prop)->Prop
abbrev UA:=Ev->(List D->Ev->Prop)->Prop
abbrev UT:=Ev->(Bool->Ev->Prop)->Prop
def lE (K:PySem.W.Frag)(t:UE):TE:=λσ H Q=> ∃C ρ Q0,EOk K C ρ σ H/\t ρ Q0/\
 ∀b ρ' v H',Q0 b ρ'->Frz ρ ρ'->eE H H'->lM K (Av C ρ' σ) H H' b v->Q v H'
def lA (K:PySem.W.Frag)(t:UA):TA:=λσ H Q=> ∃C ρ Q0,EOk K C ρ σ H/\t ρ Q0/\
 ∀ds ρ' vs H',Q0 ds ρ'->Frz ρ ρ'->eE H H'->aV K (Av C ρ' σ) H' ds vs->Q vs H'
def lT (K:PySem.W.Frag)(t:UT):TT:=λσ H Q=> ∃C ρ Q0,EOk K C ρ σ H/\t ρ Q0/\
 ∀b ρ' H',Q0 b ρ'->Frz ρ ρ'->eE H H'->Q b H'
def aZ3 (K:PySem.W.Frag)(A:AS)(H:Hp):D->V->Prop
 | .tup l,v=> ∃a vs,v= .ref a/\SqT K H a vs/\aV K A H l vs
 | .lst l,v=> ∃a vs,v= .ref a/\H a=some (.lst vs)/\aV K A H l vs
 | .rol l,v=> ∃a vs,v= .ref a/\SqL K H a vs/\aV K A H l vs
 | d,v=>Rep K A H d v
def lV (K:PySem.W.Frag)(t:UV):TE:=λσ H Q=> ∃C ρ Q0,EOk K C ρ σ H/\t ρ Q0/\
 ∀d ρ' v H',Q0 d ρ'->Frz ρ ρ'->eE H H'->aZ3 K (Av C ρ' σ) H' d v->Q v H'
def PU (X:Cx)(e:Expr)(t:UE):Prop:=PE X e (lE X.K t)
def PUV (X:Cx)(e:Expr)(t:UV):Prop:=PE X e (lV X.K t)
def PUA (X:Cx)(es:List Expr)(t:UA):Prop:=PA X es (lA X.K t)
def PUT (X:Cx)(e:Expr)(t:UT):Prop:=PT X e (lT X.K t)
def PUW (X:Cx)(e:Expr)(t:UT):Prop:=PW X e (lT X.K t)
section
variable {K:PySem.W.Frag}{A:AS}{H:Hp}
theorem Rep.one: ∀{d:D} {v:V},Rep K A H d v->aZ3 K A H d v
 | .non,_,h=>h
 | .bl _,_,h=>h
 | .int _,_,h=>h
 | .str _,_,h=>h
 | .ty _,_,h=>h
 | .tup l,v,h=>by
  obtain⟨a,vs,e,c,r⟩:=h;exact⟨a,vs,e,c.imp bZ id,r⟩
 | .lst l,v,h=>by
  obtain⟨a,vs,e,n,c,r⟩:=h;exact⟨a,vs,e,c,r⟩
 | .rol l,v,h=>by
  obtain⟨a,vs,e,c,r⟩:=h;exact⟨a,vs,e,c.imp bZ id,r⟩
 | .obj _ _ _,_,h=>h
 | .adr _,_,h=>h
 | .xob _ _ _ _,_,h=>h
end
theorem fE {X:Cx}{t t':TE}(h:PE X e t)(i: ∀σ H Q,t' σ H Q->t σ H Q):PE X e t':=λpins s σ H Q I q=>h pins s σ H Q I (i σ H Q q)
theorem c46 {X:Cx}{t t':TA}(h:PA X es t)(i: ∀σ H Q,t' σ H Q->t σ H Q):PA X es t':=λpos pins s σ H Q I q=>h pos pins s σ H Q I (i σ H Q q)
theorem bH6 {X:Cx}{t t':TT}(h:PT X e t)(i: ∀σ H Q,t' σ H Q->t σ H Q):PT X e t':=λpins s σ H Q I q=>h pins s σ H Q I (i σ H Q q)
theorem c47 {X:Cx}{t t':TT}(h:PW X e t)(i: ∀σ H Q,t' σ H Q->t σ H Q):PW X e t':=λw pins s σ H Q I q=>h w pins s σ H Q I (i σ H Q q)
section
variable {X:Cx}{a b c e o:Expr}{es dJ:List Expr}{pos:Pos}{ta tb tc:UE}
def uC (d:D):UE:=λρ Q=>Q (.pu d) ρ
theorem aE {i j pos}:PU X (.Constant (.int i) j pos) (uC<|.int i):=fE pe_int λσ H Q ⟨C,ρ,Q0,I,h,k⟩=>k _ ρ _ H h (.refl _) (.refl _) (show Rep _ _ _ _ _ by simp only[Rep])
theorem b56 {b j pos}:PU X (.Constant (.bool b) j pos) (uC<|.bl b):=fE pe_bl λσ H Q ⟨C,ρ,Q0,I,h,k⟩=>k _ ρ _ H h (.refl _) (.refl _) (show Rep _ _ _ _ _ by simp only[Rep])
theorem pu_str {x j pos}:PU X (.Constant (.str x) j pos) (uC<|.str x):=fE pe_str λσ H Q ⟨C,ρ,Q0,I,h,k⟩=>k _ ρ _ H h (.refl _) (.refl _) (show Rep _ _ _ _ _ by simp only[Rep])
def aF7 (ρ:Ev)(i:Nat)(Q:B->Ev->Prop):Prop:=match ρ[i]? with
 | some (some<|.pu d)=>Q (.pu d) ρ
 | some (some<|.ow l)=>Q (.pu<|.lst l) (ρ.set i<|some<|.pu<|.lst l)
 | _=>False
def aD (i:Nat):UE:=λρ Q=>aF7 ρ i Q
theorem mO (i:Nat){pos:Pos}(h:PE X (.Name x pos) (a34 i)):PU X (.Name x pos) (aD i):=fE h λσ H Q ⟨C,ρ,Q0,I,h,k⟩=>by
 unfold aD aF7 at h;split at h
 .rename_i d e
  obtain⟨v,h1,h2⟩:=I.pu i d e;exact⟨v,h1,k _ ρ v H h (.refl _) (.refl _) h2⟩
 .rename_i l e
  obtain⟨_,_,v,h1,h2⟩:=I.freeze e;exact⟨v,h1,k _ _ v H h (.set e) (.refl _) h2⟩
 .exact h.elim
def b57 (ρ:Ev)(i:Nat)(Q:D->Ev->Prop):Prop:=match ρ[i]? with
 | some (some<|.pu d)=>Q d ρ
 | some (some<|.ow l)=>Q (.lst l) ρ
 | some (some<|.bo l)=>Q (.lst l) ρ
 | _=>False
def b6 (i:Nat):UV:=λρ Q=>b57 ρ i Q
theorem aZ4 (i:Nat){pos:Pos}(h:PE X (.Name x pos) (a34 i)):PUV X (.Name x pos) (b6 i):=fE h λσ H Q ⟨C,ρ,Q0,I,h,k⟩=>by
 unfold b6 b57 at h;split at h
 .rename_i d e
  obtain⟨v,h1,h2⟩:=I.pu i d e;exact⟨v,h1,k _ ρ v H h (.refl _) (.refl _) h2.one⟩
 .rename_i l e
  obtain⟨a,vs,h1,h2,h3,h4⟩:=I.ow i l e;exact⟨_,h1,k _ ρ _ H h (.refl _) (.refl _) ⟨a,vs,rfl,h2,h4⟩⟩
 .rename_i l e
  obtain⟨a,vs,h1,h2,h3,h4⟩:=I.bo i l e;exact⟨_,h1,k _ ρ _ H h (.refl _) (.refl _) ⟨a,vs,rfl,I.ext _ _ h3,h4⟩⟩
 .exact h.elim
def uV (t:UE):UV:=λρ Q=>t ρ λb ρ1=>Q b.d ρ1
theorem EOk.avF {C:C0}{ρ ρ':Ev}{σ:L2.St}{H:Hp}(I:EOk K C ρ σ H)(f:Frz ρ ρ'){a:Addr}(h:Av C ρ' σ a):H a≠none:=I.avSome (f.av h)
theorem a19 (h:PU X e ta):PUV X e (uV ta):=fE h λσ H Q ⟨C,ρ,Q0,I,h,k⟩=>
 ⟨C,ρ,_,I,h,λb ρ' v H' q f s r=>k b.d ρ' v H' q f s (r.rep λa z=>I.avF f z).one⟩
theorem aL1 {v:V}{d:D}{pos:Pos}(h:PE X (.Name x pos) (tC v))(r: ∀A H,Rep X.K A H d v):PU X (.Name x pos) (uC d):=fE h λσ H Q ⟨C,ρ,Q0,I,h,k⟩=>k _ ρ _ H h (.refl _) (.refl _) (r _ _)
def OpU (X:Cx)(f:Value->Value->Sem Value)(g:D->D->(B->Prop)->Prop):Prop:=
 ∀(A:AS) (H:Hp) (d e:D) (v w:V) (Q0:B->Prop) (Q:VK),(∀a,A a->H a≠none)->Rep X.K A H d v->Rep X.K A H e w->g d e Q0->
  (∀b v' H',Q0 b->eE H H'->lM X.K A H H' b v'->Q v' H')-> ∃r,OpR X f r/\r v w H Q
def uOp (g:D->D->(B->Prop)->Prop)(ta tb:UE):UE:=λρ Q=>ta ρ λx ρ1=>tb ρ1 λy ρ2=>g x.d y.d λb=>Q b ρ2
theorem aR4 {f:Value->Value->Sem Value}:OpR X f (λx y H Q=> ∃r,OpR X f r/\r x y H Q):=λpins s σ H x y v u Q I rx ry ⟨r,hr,q⟩=>hr pins s σ H x y v u Q I rx ry q
theorem lM.from {K:PySem.W.Frag}{A:AS}{H0 H H':Hp}(s:eE H0 H): ∀{b:B} {v:V},lM K A H H' b v->lM K A H0 H' b v
 | .pu _,_,h=>h
 | .ow _,_,⟨a,vs,e,n,h1,r⟩=>⟨a,vs,e,s.free n,h1,r⟩
 | .bo _,_,h=>h.elim
theorem lOp {f:Value->Value->Sem Value}{g:D->D->(B->Prop)->Prop}(ho:OpU X f g)(σ:L2.St)(H:Hp)(Q:VK)(h:lE X.K (uOp g ta tb) σ H Q) :
  tOp (λx y H Q=> ∃r,OpR X f r/\r x y H Q) (lE X.K ta) (lE X.K tb) σ H Q:=by
 obtain⟨C,ρ,Q0,I,h,k⟩:=h;refine⟨C,ρ,_,I,h,λx ρ1 v H1 q1 f1 s1 r1=> ?_⟩
 have I1:=(I.frz f1).same s1;refine⟨C,ρ1,_,I1,q1,λy ρ2 w H2 q2 f2 s2 r2=> ?_⟩
 have I2:=(I1.frz f2).same s2;have hA: ∀a,Av C ρ2 σ a->H2 a≠none:=λa z=>I2.avSome z
 refine ho (Av C ρ2 σ) H2 x.d y.d v w _ Q hA ((r1.rep λa z=>I.avF f1 z).mono<|.sub s2 λa=>f2.av) (r2.rep λa z=>I1.avF f2 z) q2 λb v' H' q s r=> ?_
 exact k b ρ2 v' H' q (f1.trans f2) (s1.trans<|s2.trans s) (r.from<|s1.trans s2)
theorem aM {op:Operator}{g:D->D->(B->Prop)->Prop}(ho:OpU X (binaryOp op) g)(ha:PU X a ta)(hb:PU X b tb):PU X (.BinOp a op b pos) (uOp g ta tb):=
 fE (pe_op aR4 ha hb) (lOp ho)
theorem aZ5 {g:D->D->(B->Prop)->Prop}(ho:OpU X (compareOp op) g)(ha:PU X a ta)(hb:PU X b tb)(hm:behindInMarks op b=false):PU X (.Compare a [op] [b] pos) (uOp g ta tb):=
 fE (bV8 aR4 ha hb hm) (lOp ho)
def isB (Q:Bool->Ev->Prop):B->Ev->Prop:=λb ρ=>match b with
 | .pu (.bl k)=>Q k ρ
 | _=>False
def fX (t:UE):UT:=λρ Q=>t ρ (isB Q)
theorem lTst {t:UE}(σ:L2.St)(H:Hp)(Q:Bool->Hp->Prop)(h:lT X.K (fX t) σ H Q):lE X.K t σ H λx H'=> ∃k,x= .bl k/\Q k H':=by
 obtain⟨C,ρ,Q0,I,h,k⟩:=h;refine⟨C,ρ,_,I,h,λb ρ' v H' q f s r=> ?_⟩
 unfold isB at q;split at q
 .rename_i k'
  refine⟨k',?_,k k' ρ' H' q f s⟩
  have r':Rep X.K (Av C ρ' σ) H' (.bl k') v:=r
  simpa only[Rep]using r'
 .exact q.elim
theorem aF8 (h:PU X e ta)(he: ∀whole,isTrue e X.env whole=(do let v<-whole;standAt e.pos;holding [v] (truthy v)):=by intro _;rfl):PUT X e (fX ta):=
 bH6 (pt_val h he) lTst
theorem aL2 {g:D->D->(B->Prop)->Prop}(ho:OpU X (compareOp op) g)(ha:PU X a ta)(hb:PU X b tb)(hm:behindInMarks op b=false):PUT X (.Compare a [op] [b] pos) (fX<|uOp g ta tb):=
 bH6 (bV9 aR4 ha hb hm) λσ H Q h=>lOp ho σ H _ (lTst σ H Q h)
def aZ6 (t u:UT):UT:=λρ Q=>t ρ λc ρ1=>if c=true then u ρ1 Q else Q false ρ1
def uOr (t u:UT):UT:=λρ Q=>t ρ λc ρ1=>if c=true then Q true ρ1 else u ρ1 Q
def aR5 (t:UT):UT:=λρ Q=>t ρ λc ρ1=>Q (!c) ρ1
variable {tA tB:UT}
theorem tY (ha:PUT X a tA):PUW X (.BoolOp .And [a] pos) tA:=bV1 ha
theorem bW7 (ha:PUT X a tA):PUW X (.BoolOp .Or [a] pos) tA:=pw_or1 ha
theorem y6 (ha:PUT X a tA)(hb:PUW X (.BoolOp .And (b::dJ) pos) tB):PUW X (.BoolOp .And (a::b::dJ) pos) (aZ6 tA tB):=
 c47 (pw_and ha hb) λσ H Q ⟨C,ρ,Q0,I,h,k⟩=>⟨C,ρ,_,I,h,λc ρ1 H1 q f s=>by
  cases c with
  | true=>
   exact⟨C,ρ1,Q0,(I.frz f).same s,q,λb ρ2 H2 q2 f2 s2=>k b ρ2 H2 q2 (f.trans f2) (s.trans s2)⟩
  | false=>
   exact k _ _ _ q f s⟩
theorem pw_orU (ha:PUT X a tA)(hb:PUW X (.BoolOp .Or (b::dJ) pos) tB):PUW X (.BoolOp .Or (a::b::dJ) pos) (uOr tA tB):=
 c47 (pw_or ha hb) λσ H Q ⟨C,ρ,Q0,I,h,k⟩=>⟨C,ρ,_,I,h,λc ρ1 H1 q f s=>by
  cases c with
  | true=>
   exact k _ _ _ q f s
  | false=>
   exact⟨C,ρ1,Q0,(I.frz f).same s,q,λb ρ2 H2 q2 f2 s2=>k b ρ2 H2 q2 (f.trans f2) (s.trans s2)⟩⟩
theorem PUW.pt (h:PUW X e tA):PUT X e tA:=PW.pt h
theorem y8 (ha:PUT X a tA):PUT X (.UnaryOp .Not a pos) (aR5 tA):=
 bH6 (pt_not ha) λσ H Q ⟨C,ρ,Q0,I,h,k⟩=>⟨C,ρ,_,I,h,λc ρ1 H1 q f s=>k _ ρ1 H1 q f s⟩
def qF (t u:UE):UE:=λρ Q=>t ρ λx ρ1=>isB (λc ρ1=>if c=true then u ρ1 Q else Q (.pu<|.bl false) ρ1) x ρ1
def bW8 (t u:UE):UE:=λρ Q=>t ρ λx ρ1=>isB (λc ρ1=>if c=true then Q (.pu<|.bl true) ρ1 else u ρ1 Q) x ρ1
def b58 (t:UE):UE:=λρ Q=>t ρ λx ρ1=>isB (λc ρ1=>Q (.pu<|.bl<|!c) ρ1) x ρ1
theorem a57 {Q:Bool->Ev->Prop}{b:B}{ρ:Ev}{A:AS}{H H':Hp}{v:V}(h:isB Q b ρ)(r:lM K A H H' b v): ∃k,v= .bl k/\Q k ρ:=by
 unfold isB at h;split at h
 .rename_i k'
  have r':Rep K A H' (.bl k') v:=r;exact⟨k',by simpa only[Rep]using r',h⟩
 .exact h.elim
theorem iH {A:AS}{H H':Hp}{k:Bool}:lM K A H H' (.pu<|.bl k) (.bl k):=by
 show Rep K A H' (.bl k) (.bl k)
 simp only[Rep]
theorem oQ {op}(h:PU X a ta):PU X (.BoolOp op [a] pos) ta:=pe_one h
theorem oR (ha:PU X a ta)(hb:PU X (.BoolOp .And (b::dJ) pos) tb):PU X (.BoolOp .And (a::b::dJ) pos) (qF ta tb):=
 fE (pe_and ha hb) λσ H Q ⟨C,ρ,Q0,I,h,k⟩=>⟨C,ρ,_,I,h,λx ρ1 v H1 q f s r=>by
  obtain⟨c,rfl,q⟩:=a57 q r;refine⟨c,rfl,?_⟩;cases c with
  | true=>
   exact⟨C,ρ1,Q0,(I.frz f).same s,q,λb ρ2 v H2 q2 f2 s2 r2=>k b ρ2 v H2 q2 (f.trans f2) (s.trans s2) (r2.from s)⟩
  | false=>
   exact k _ _ _ _ q f s iH⟩
theorem c48 (ha:PU X a ta)(hb:PU X (.BoolOp .Or (b::dJ) pos) tb):PU X (.BoolOp .Or (a::b::dJ) pos) (bW8 ta tb):=
 fE (pe_or ha hb) λσ H Q ⟨C,ρ,Q0,I,h,k⟩=>⟨C,ρ,_,I,h,λx ρ1 v H1 q f s r=>by
  obtain⟨c,rfl,q⟩:=a57 q r;refine⟨c,rfl,?_⟩;cases c with
  | true=>
   exact k _ _ _ _ q f s iH
  | false=>
   exact⟨C,ρ1,Q0,(I.frz f).same s,q,λb ρ2 v H2 q2 f2 s2 r2=>k b ρ2 v H2 q2 (f.trans f2) (s.trans s2) (r2.from s)⟩⟩
theorem bH7 (ha:PU X a ta):PU X (.UnaryOp .Not a pos) (b58 ta):=
 fE (pe_not ha) λσ H Q ⟨C,ρ,Q0,I,h,k⟩=>⟨C,ρ,_,I,h,λx ρ1 v H1 q f s r=>by
  obtain⟨c,rfl,q⟩:=a57 q r;exact⟨c,rfl,k _ _ _ _ q f s iH⟩⟩
def uIf (t:UT)(ta tb:UE):UE:=λρ Q=>t ρ λc ρ1=>if c=true then ta ρ1 Q else tb ρ1 Q
theorem bH8 (hc:PUT X c tA)(ha:PU X a ta)(hb:PU X b tb):PU X (.IfExp c a b pos) (uIf tA ta tb):=
 fE (bF4 hc ha hb) λσ H Q ⟨C,ρ,Q0,I,h,k⟩=>⟨C,ρ,_,I,h,λc ρ1 H1 q f s=>by
  have I1:=(I.frz f).same s;cases c with
  | true=>
   exact⟨C,ρ1,Q0,I1,q,λb ρ2 v H2 q2 f2 s2 r2=>k b ρ2 v H2 q2 (f.trans f2) (s.trans s2) (r2.from s)⟩
  | false=>
   exact⟨C,ρ1,Q0,I1,q,λb ρ2 v H2 q2 f2 s2 r2=>k b ρ2 v H2 q2 (f.trans f2) (s.trans s2) (r2.from s)⟩⟩
def aP:UA:=λρ Q=>Q [] ρ
def a9 (t:UE)(u:UA):UA:=λρ Q=>t ρ λx ρ1=>u ρ1 λxs ρ2=>Q (x.d::xs) ρ2
theorem aB:PUA X [] aP:=c46 aY8 λσ H Q ⟨C,ρ,Q0,I,h,k⟩=>k [] ρ [] H h (.refl _) (.refl _) .nil
theorem aF {t:UA}(ha:PU X e ta)(hr:PUA X es t)(hs:↥(starEach (e::es) X.env=(false,eval e X.env)::starEach es X.env)):PUA X (e::es) (a9 ta t):=
 c46 (aK4 ha hr hs) λσ H Q ⟨C,ρ,Q0,I,h,k⟩=>⟨C,ρ,_,I,h,λx ρ1 v H1 q1 f1 s1 r1=>by
  have I1:=(I.frz f1).same s1;refine⟨C,ρ1,_,I1,q1,λxs ρ2 vs H2 q2 f2 s2 r2=> ?_⟩
  exact k _ ρ2 _ H2 q2 (f1.trans f2) (s1.trans s2) (.cons ((r1.rep λa z=>I.avF f1 z).mono<|.sub s2 λa=>f2.av) r2)⟩
def gS (t:UA):UE:=λρ Q=>t ρ λl ρ1=>l.length<=sizeLine/\Q (.pu<|.tup l) ρ1
def iP (t:UA):UE:=λρ Q=>t ρ λl ρ1=>l.length<=sizeLine/\Q (.ow l) ρ1
theorem cV {H:Hp}{p:Addr}(h:H p=none)(o:HO):eE H (upd H p o):=λb u q=>by rw[cG<|eT q h];exact q
theorem gE {A:AS}{H:Hp}{p:Addr}{l:List D}{vs:List V}(hA: ∀a,A a->H a≠none)(n:H p=none)(r:aV K A H l vs):Rep K A (upd H p<|.tup vs) (.tup l) (.ref p):=by
 exact⟨p,vs,rfl,.inl ⟨λz=>hA p z n,.inl jU⟩,r.mono<|.same<|cV n _⟩
theorem dU {A:AS}{H H0:Hp}{p:Addr}{l:List D}{vs:List V}(s:eE H0 H)(n:H p=none)(r:aV K A H l vs):lM K A H0 (upd H p<|.lst vs) (.ow l) (.ref p):=
 ⟨p,vs,rfl,s.free n,jU,r.mono<|.fresh (cV n _) n⟩
theorem dL {t:UA}{x1}(h:PUA X es t):PU X (.Tuple es x1 pos) (gS t):=
 fE (pe_tup h) λσ H Q ⟨C,ρ,Q0,I,h,k⟩=>⟨C,ρ,_,I,h,λl ρ1 vs H1 q f s r=>by
  obtain⟨hz,q⟩:=q;refine⟨by rw[<-r.length];exact hz,λp n=> ?_⟩
  have I1:=(I.frz f).same s;exact k _ ρ1 _ _ q f (s.trans<|cV n _) (gE (λa z=>I1.avSome z) n r)⟩
theorem dG {t:UA}(h:PUA X es t):PU X (.List es pos) (iP t):=
 fE (pe_lst h) λσ H Q ⟨C,ρ,Q0,I,h,k⟩=>⟨C,ρ,_,I,h,λl ρ1 vs H1 q f s r=>by
  obtain⟨hz,q⟩:=q;refine⟨by rw[<-r.length];exact hz,λp n=> ?_⟩
  exact k _ ρ1 _ _ q f (s.trans<|cV n _) (dU s n r)⟩
abbrev Φ:=List D->(B->Prop)->Prop
def spP (K:PySem.W.Frag)(φ:Φ):Sp:=λvs H Q _=> ∃A ds Q0,(∀a,A a->H a≠none)/\aV K A H ds vs/\φ ds Q0/\ ∀b v H',Q0 b->eE H H'->lM K A H H' b v->Q v H'
def aX (φ:Φ)(t:UA):UE:=λρ Q=>t ρ λds ρ1=>φ ds λb=>Q b ρ1
theorem lCall {t:UA}{E:XK}(σ:L2.St)(H:Hp)(Q:VK)(h:lE X.K (aX φ t) σ H Q):b51 (spP X.K φ) [] E (lA X.K t) σ H Q:=by
 obtain⟨C,ρ,Q0,I,h,k⟩:=h;refine⟨C,ρ,_,I,h,λds ρ1 vs H1 q f s r=> ?_⟩
 have I1:=(I.frz f).same s;show spP X.K φ (vs++[]) H1 Q E;rw[iB];exact⟨Av C ρ1 σ,ds,_,λa z=>I1.avSome z,r,q,λb v H' q' s' r'=>k b ρ1 v H' q' f (s.trans s') (r'.from s)⟩
theorem bW9 {CX:CXT}{ps:List Str}{E:XK}{t:UA}(F:pL X.prog X.w X.K X.mg X.base CX k f fd ps (spP X.K φ))(hr:gR k X.A)(hg:Gl X x)(hm:X.mg x=some (.ref f))
  (hk:keepIn X.K (.ref f)=true) (hb:Binds X.K fd ps []) (hx:xG CX X E) (ha:PUA X (e::es) t) (hdb:⇑(x∪0)) (he:↥(starEach (e::es) X.env=(false,eval e X.env)::starEach es X.env))
  (hpl:↥((backTo pos<|starEach es X.env).any (·.1)=false)):PU X (.Call (.Name x p) (e::es) [] pos) (aX φ t):=
 fE (b52 F hr hg hm hk hb .nil hx ha hdb he hpl) lCall
theorem bH9 {CX:CXT}{ps:List Str}{E:XK}(F:pL X.prog X.w X.K X.mg X.base CX k f fd ps (spP X.K φ))(hr:gR k X.A)(hg:Gl X x)(hm:X.mg x=some (.ref f))
  (hk:keepIn X.K (.ref f)=true) (hb:Binds X.K fd ps []) (hx:xG CX X E) (hdb:⇑(x∪0)):PU X (.Call (.Name x p) [] [] pos) (aX φ aP):=
 fE (bG9 F hr hg hm hk hb .nil hx hdb) λσ H Q ⟨C,ρ,Q0,I,h,k⟩=>⟨Av C ρ σ,[],_,λa z=>I.avSome z,.nil,h,λb v H' q' s' r'=>k b ρ v H' q' (.refl _) s' r'⟩
def tG (X:Cx)(f:Value)(g:List D->(B->Prop)->Prop):Prop:=
 ∀(A:AS) (H:Hp) (ds:List D) (vs:List V) (Q0:B->Prop) (Q:VK),(∀a,A a->H a≠none)->aV X.K A H ds vs->g ds Q0->
  (∀b v' H',Q0 b->eE H H'->lM X.K A H H' b v'->Q v' H')-> ∃r,jV X f r/\r vs H Q
theorem callAny {f:Value}:jV X f (λxs H Q=> ∃r,jV X f r/\r xs H Q):=λpins s σ H xs us Q I rx ⟨r,hr,q⟩=>hr pins s σ H xs us Q I rx q
theorem lCB {f:Value}{g:List D->(B->Prop)->Prop}{t:UA}(hc:tG X f g)(σ:L2.St)(H:Hp)(Q:VK)(h:lE X.K (aX g t) σ H Q):tCB (λxs H Q=> ∃r,jV X f r/\r xs H Q) (lA X.K t) σ H Q:=by
 obtain⟨C,ρ,Q0,I,h,k⟩:=h;refine⟨C,ρ,_,I,h,λds ρ1 vs H1 q f s r=> ?_⟩
 have I1:=(I.frz f).same s;exact hc (Av C ρ1 σ) H1 ds vs _ Q (λa z=>I1.avSome z) r q λb v H' q' s' r'=>k b ρ1 v H' q' f (s.trans s') (r'.from s)
theorem eH {id:String}{g:List D->(B->Prop)->Prop}{t:UA}(hc:tG X (.builtin id) g)(hg:Gl X x)(hm:X.mg x=none)(hv:bootBuiltins x=some (.builtin id))(ha:PUA X (e::es) t)(hn:⇑(x≠"__name__"))(hdb:⇑(x∪0))
  (he:↥(starEach (e::es) X.env=(false,eval e X.env)::starEach es X.env)) (hpl:↥((backTo pos<|starEach es X.env).any (·.1)=false)):PU X (.Call (.Name x p) (e::es) [] pos) (aX g t):=
 fE (aR1 callAny hg hm hv ha hn hdb he hpl) (lCB hc)
theorem iQ {T:String}{g:List D->(B->Prop)->Prop}{t:UA}(hc:tG X (.type T) g)(hg:Gl X x)(hm:X.mg x=none)(hv:bootBuiltins x=some (.type T))(ha:PUA X (e::es) t)(hn:⇑(x≠"__name__"))(hdb:⇑(x∪0))
  (he:↥(starEach (e::es) X.env=(false,eval e X.env)::starEach es X.env)) (hpl:↥((backTo pos<|starEach es X.env).any (·.1)=false)):PU X (.Call (.Name x p) (e::es) [] pos) (aX g t):=
 fE (bB3 callAny hg hm hv ha hn hdb he hpl) (lCB hc)
end
structure UD where
 nx:Ev->Prop
 rt:B->Prop
 bk:Ev->Prop:=λ_=>False
 ct:Ev->Prop:=λ_=>False
abbrev US:=UD->Ev->Prop
structure DOk (K:PySem.W.Frag)(C:C0)(D0:UD)(D:zE):Prop where
 nx: ∀ρ σ H,D0.nx ρ->EOk K C ρ σ H->D.nx σ H
 rt: ∀b v H,D0.rt b->eE C.H0 H->lM K C.A0 C.H0 H b v->D.rt v H
 bk: ∀ρ σ H,D0.bk ρ->EOk K C ρ σ H->D.bk σ H
 ct: ∀ρ σ H,D0.ct ρ->EOk K C ρ σ H->D.ct σ H
def lS (K:PySem.W.Frag)(t:US):TS:=λD σ H=> ∃C ρ D0,EOk K C ρ σ H/\t D0 ρ/\DOk K C D0 D
def PUS (X:Cx)(st:Stmt)(t:US):Prop:=PS X st (lS X.K t)
def mP (X:Cx)(sts:List Stmt)(t:US):Prop:=PSs X sts (lS X.K t)
theorem tH {X:Cx}{t t':TS}(h:PS X st t)(i: ∀D σ H,t' D σ H->t D σ H):PS X st t':=λpins s σ H D I q=>h pins s σ H D I (i D σ H q)
theorem aL3 {X:Cx}{st:List Stmt}{t t':TS}(h:PSs X st t)(i: ∀D σ H,t' D σ H->t D σ H):PSs X st t':=λpins s σ H D I q=>h pins s σ H D I (i D σ H q)
section
variable {X:Cx}{st:Stmt}{sts:List Stmt}{e:Expr}{pos:Pos}{t u:US}{te:UE}{tc:UT}{K:PySem.W.Frag}
def gF:US:=λD ρ=>D.nx ρ
def b4 (t u:US):US:=λD ρ=>t {D with nx:=u D} ρ
theorem bI0:mP X [] gF:=aL3 bV2 λD σ H ⟨C,ρ,D0,I,h,k⟩=>k.nx ρ σ H h I
theorem d7 (h1:PUS X st t)(h2:mP X sts u):mP X (st::sts) (b4 t u):=
 aL3 (aQ6 h1 h2) λD σ H ⟨C,ρ,D0,I,h,k⟩=>⟨C,ρ,{D0 with nx:=u D0},I,h,⟨λρ' σ' H' q I'=>⟨C,ρ',D0,I',q,k⟩,k.rt,k.bk,k.ct⟩⟩
theorem cU (h1:PUS X st t):mP X [st] t:=b49 h1
def dW (t:UE):US:=λD ρ=>t ρ λb _=>D.rt b
theorem lM.back {A A':AS}{H0 H H':Hp}(s:eE H0 H)(h: ∀a,A' a->A a): ∀{b:B} {v:V},lM K A H H' b v->lM K A' H0 H' b v
 | .pu _,_,r=>Rep.mono (.sub (.refl _) h) r
 | .ow _,_,⟨a,vs,e,n,h1,r⟩=>⟨a,vs,e,s.free n,h1,r.mono λb o nb q=>⟨λz=>nb (z.imp (h b) id),q⟩⟩
 | .bo _,_,r=>r.elim
theorem aZ7 (he:PU X e te):PUS X (.Return (some e) pos) (dW te):=
 tH (bF5 he) λD σ H ⟨C,ρ,D0,I,h,k⟩=>⟨C,ρ,_,I,h,λb ρ' v H' q f s r=>k.rt b v H' q (I.ext.trans s) (r.back I.ext λa z=> .inl z)⟩
def uRetN:US:=λD _=>D.rt (.pu .non)
def a71 (i:Nat):US:=λD ρ=>match ρ[i]? with
 | some (some<|.pu d)=>D.rt (.pu d)
 | some (some<|.ow l)=>D.rt (.ow l)
 | _=>False
theorem aL4 (i:Nat)(h:PE X (.Name x p) (a34 i)):PUS X (.Return (some<|.Name x p) pos) (a71 i):=
 tH (bF5 h) λD σ H ⟨C,ρ,D0,I,h,k⟩=>by
  unfold a71 at h;split at h
  .rename_i d e
   obtain⟨v,h1,h2⟩:=I.pu i d e;exact⟨v,h1,k.rt _ v H h I.ext<|Rep.mono (.sub (.refl _) λa z=> .inl z) h2⟩
  .rename_i l e
   obtain⟨a,vs,h1,h2,h3,h4⟩:=I.ow i l e;refine⟨_,h1,k.rt _ _ H h I.ext ⟨a,vs,rfl,h3,h2,h4.mono λb o nb q=>⟨λz=>nb (z.elim .inl λz=> .inr ?_),q⟩⟩⟩
   subst z;exact⟨i,l,e,h1⟩
  .exact h.elim
def jW (c:UT)(t u:US):US:=λD ρ=>c ρ λb ρ1=>if b=true then t D ρ1 else u D ρ1
theorem bI1 {a b:List Stmt}(hc:PUT X c tc)(ha:mP X a t)(hb:mP X b u):PUS X (.If c a b pos) (jW tc t u):=
 tH (c43 hc ha hb) λD σ H ⟨C,ρ,D0,I,h,k⟩=>⟨C,ρ,_,I,h,λc ρ1 H1 q f s=>by
  have I1:=(I.frz f).same s;cases c with
  | true=>
   exact⟨C,ρ1,D0,I1,q,k⟩
  | false=>
   exact⟨C,ρ1,D0,I1,q,k⟩⟩
theorem bI2:PUS X st (λ_ _=>False):=tH bF6 λD σ H ⟨C,ρ,D0,I,h,k⟩=>h
abbrev UG:=B->Ev->(Ev->Prop)->Prop
def lG (K:PySem.W.Frag)(T:List Nat)(g:UG):TG:=λv σ H Q=> ∃C ρ b H00 Q0,EOk K C ρ σ H00/\eE H00 H/\lM K (Av C ρ σ) H00 H b v/\g b ρ Q0/\ ∀ρ' σ' H',Q0 ρ'->EOk K C ρ' σ' H'->(∀j:Nat,j ∉ T->σ'[j]? =σ[j]?)->Q σ' H'
def PUG (X:Cx)(e:Expr)(T:List Nat)(g:UG):Prop:=PG X e (lG X.K T g)
theorem bI3 {t t':TG}(h:PG X e t)(i: ∀v σ H Q,t' v σ H Q->t v σ H Q):PG X e t':=λpins s σ H v u Q I r q=>h pins s σ H v u Q I r (i v σ H Q q)
def eU (i:Nat):UG:=λb ρ Q=>i<ρ.length/\Q (ρ.set i<|some b)
theorem aL5 (i:Nat)(h:PG X e (vG i)):PUG X e [i] (eU i):=bI3 h λv σ H Q z=>by
 obtain⟨C,ρ,b,H00,Q0,I,s,r,⟨hi,q⟩,k⟩:=z;exact k _ _ _ q (I.store s r (by rw[<-I.len];exact hi)) λj hj=>get_set_ne λz=>hj (by simp[z])
abbrev UGs:=List D->Ev->(Ev->Prop)->Prop
def lGs (K:PySem.W.Frag)(T:List Nat)(g:UGs):TGs:=λvs σ H Q=> ∃C ρ ds Q0,EOk K C ρ σ H/\aV K (Av C ρ σ) H ds vs/\g ds ρ Q0/\ ∀ρ' σ' H',Q0 ρ'->EOk K C ρ' σ' H'->(∀j:Nat,j ∉ T->σ'[j]? =σ[j]?)->Q σ' H'
def bI4 (X:Cx)(es:List Expr)(T:List Nat)(g:UGs):Prop:=PGs X es (lGs X.K T g)
def vH:UGs:=λds ρ Q=>ds=[]/\Q ρ
theorem Av.store_pu {C:C0}{ρ:Ev}{σ:L2.St}{d:D}{v:V}(h:Av C (ρ.set i<|some<|.pu d) (σ.set i<|some v) a):Av C ρ σ a:=by
 rcases h with z| ⟨j,l,h1,h2⟩
 .exact .inl z
 .rcases aR h1 with⟨rfl,h3,_⟩| ⟨ne,h3⟩
  .cases h3
  .rw[get_set_ne ne]at h2;exact .inr ⟨j,l,h3,h2⟩
theorem bI5 {t t':TGs}(h:PGs X es t)(i: ∀v σ H Q,t' v σ H Q->t v σ H Q):PGs X es t':=λpins s σ H v u Q I r q=>h pins s σ H v u Q I r (i v σ H Q q)
theorem v7:bI4 X [] [] vH:=bI5 bV4 λvs σ H Q z=>by
 obtain⟨C,ρ,ds,Q0,I,r,⟨e,q⟩,k⟩:=z;subst e;exact⟨r.unnil,k ρ σ H q I λ_ _=>rfl⟩
def gT (i:Nat)(u:UGs):UGs:=λds ρ Q=>match ds with
 | d::r=>i<ρ.length/\u r (ρ.set i<|some<|.pu d) Q
 | []=>False
theorem fF {u:UGs}{T:List Nat}(i:Nat)(h1:PG X e (vG i))(h2:bI4 X es T u)
  (hs:↥((assignEach (e::es) X.env).map (·.2)=assign e X.env::(assignEach es X.env).map (·.2))):bI4 X (e::es) (i::T) (gT i u):=
 bI5 (bF8 h1 h2 hs) λvs σ H Q z=>by
  obtain⟨C,ρ,ds,Q0,I,r,g,k⟩:=z;cases ds with
  | nil=>exact(show False from g).elim
  | cons d dr=>
   obtain⟨hi,g⟩:i<ρ.length/\u dr (ρ.set i<|some<|.pu d) Q0:=g;obtain⟨v,vr,rfl,rv,rr⟩:=r.uncons;have I1:EOk X.K C (ρ.set i<|some<|.pu d) (σ.set i<|some v) H:=I.store (.refl _) rv (by rw[<-I.len];exact hi)
   exact⟨v,vr,rfl,C,_,dr,Q0,I1,rr.mono<|.sub (.refl _) λa z=>Av.store_pu z,g,λρ' σ' H' q I' hT=>k ρ' σ' H' q I' λj hj=>(hT j λz=>hj (aU _ z)).trans (get_set_ne λz=>hj (by simp[z]))⟩
def y9 (u:UGs):UG:=λb ρ Q=>match b.d with
 | .tup ds=>u ds ρ Q
 | _=>False
theorem a72 {u:UGs}{T:List Nat}(hc:X.calm=true)(h:bI4 X es T u)(hu: ∀ds ρ Q,u ds ρ Q->ds.length=n)
  (hn:↥((assignEach es X.env).length=n)) (hst:↥((assignEach es X.env).findIdx? (·.1)=none)):PUG X (.Tuple es k pos) T (y9 u):=
 bI3 (pg_tup hc h hn hst) λv σ H Q z=>by
  obtain⟨C,ρ,b,H00,Q0,I,s,r,g,k⟩:=z;have R:=r.rep λa z=>I.avSome z
  unfold y9 at g;split at g
  .rename_i ds e
   rw[e]at R;obtain⟨a,vs,rfl,c,rs⟩:=R;exact⟨a,vs,rfl,c.imp bZ id,by rw[<-rs.length];exact hu _ _ _ g,C,ρ,ds,Q0,I.same s,rs,g,k⟩
  .exact g.elim
def bB7 (t:UE)(g:UG):US:=λD ρ=>t ρ λb ρ1=>g b ρ1 D.nx
theorem aL6 {g:UG}{T:List Nat}(he:PU X e te)(hg:PUG X tg T g)(hs:↥(swapsWithSole [tg] e pos.line X.env=pure false))(hw:↥(swappedStores [tg] e X.env=pure none))
  (h1:↥((assignEach [tg] X.env).map (·.2)=[assign tg X.env])):PUS X (.Assign [tg] e pos) (bB7 te g):=
 tH (bF9 he hg hs hw h1) λD σ H ⟨C,ρ,D0,I,h,k⟩=>⟨C,ρ,_,I,h,λb ρ1 v H1 q f s r=>⟨C,ρ1,b,H,D0.nx,I.frz f,s,r,q,λρ' σ' H' q I' _=>k.nx ρ' σ' H' q I'⟩⟩
def cN (i:Nat)(t:UE):US:=λD ρ=>t ρ λb ρ1=>D.nx (ρ1.set i<|some b)
theorem bI6 (i:Nat)(hN:X.N.Nodup)(hi:X.N[i]? =some x)(hx:Loc X.env.scope x)(he:PU X e te)(hs:↥(swapsWith e (some<|.Name x pos') pos.line X.env=pure false))(hf:X.fn x=true\/X.env.scope.names.lookup x=some .local:=by walk_at "z")
  (hl: ∀pins σ H s,Inv X pins σ H s->i<σ.length:=by intro pins σ H s I;rw[I.len];decide):PUS X (.Assign [.Name x pos'] e pos) (cN i te):=by
 intro pins s σ H D I q;refine bG0 hN hi hx he hs hf pins s σ H D I ?_;obtain⟨C,ρ,D0,J,h,k⟩:=q;exact⟨C,ρ,_,J,h,λb ρ1 v H1 q f s1 r=>k.nx _ _ _ q ((J.frz f).store s1 r<|hl pins σ H s I)⟩
def uPar (i j:Nat)(ta:UA):US:=λD ρ=>ta ρ λds ρ1=>match ds with
 | [d,d']=>D.nx ((ρ1.set i<|some<|.pu d).set j<|some<|.pu d')
 | _=>False
def IpU (X:Cx)(op:Operator)(g:D->D->(B->Prop)->Prop):Prop:=
 ∀(A:AS) (H:Hp) (d e:D) (v w:V) (Q0:B->Prop) (Q:VK),(∀a,A a->H a≠none)->Rep X.K A H d v->Rep X.K A H e w->g d e Q0->
  (∀b v' H',Q0 b->eE H H'->lM X.K A H H' b v'->Q v' H')-> ∃r,PIp X op r/\r v w H Q
theorem ipAny {op:Operator}:PIp X op (λx y H Q=> ∃r,PIp X op r/\r x y H Q):=λpins s σ H x y v u Q I rx ry ⟨r,hr,q⟩=>hr pins s σ H x y v u Q I rx ry q
def bB8 (i:Nat)(g:D->D->(B->Prop)->Prop)(te:UE):US:=λD ρ=>aF7 ρ i λx ρ0=>te ρ0 λy ρ1=>g x.d y.d λb=>D.nx (ρ1.set i<|some b)
theorem us_aug {op:Operator}{g:D->D->(B->Prop)->Prop}(i:Nat)(hN:X.N.Nodup)(hi:X.N[i]? =some x)(hx:Loc X.env.scope x)(he:PU X e te)(ho:IpU X op g)(hf:X.fn x=true\/X.env.scope.names.lookup x=some .local:=by walk_at "z")
  (hl: ∀pins σ H s,Inv X pins σ H s->i<σ.length:=by intro pins σ H s I;rw[I.len];decide):PUS X (.AugAssign (.Name x pos') op e pos) (bB8 i g te):=by
 intro pins s σ H D I q;refine ps_aug hN hi hx he ipAny hf pins s σ H D I ?_;obtain⟨C,ρ,D0,J,h,k⟩:=q;have go: ∀(d:M.D) (ρ0:Ev) (v:V),Frz ρ ρ0->σ[i]? =some (some v)->Rep X.K (Av C ρ0 σ) H d v->(te ρ0 λy ρ1=>g d y.d λb=>D0.nx (ρ1.set i<|some b))->
   tAug i (lE X.K te) (λx y H Q=> ∃r,PIp X op r/\r x y H Q) D σ H:=λd ρ0 v f0 h1 r0 h=>by
  have J0:=J.frz f0;refine⟨v,h1,C,ρ0,_,J0,h,λy ρ1 w H1 q1 f1 s1 r1=> ?_⟩
  have J1:=(J0.frz f1).same s1;refine ho (Av C ρ1 σ) H1 d y.d v w _ _ (λa z=>J1.avSome z) (r0.mono<|.sub s1 λa=>f1.av) (r1.rep λa z=>J0.avF f1 z) q1 λb v' H' q s r=> ?_
  exact k.nx _ _ _ q (J1.store s r<|hl pins σ _ _ I)
 unfold bB8 aF7 at h;split at h
 .rename_i d e
  obtain⟨v,h1,h2⟩:=J.pu i d e;exact go d ρ v (.refl _) h1 h2 h
 .rename_i l e
  obtain⟨_,_,v,h1,h2⟩:=J.freeze e;exact go (.lst l) _ v (.set e) h1 h2 h
 .exact h.elim
def aL7 (c:UT)(tb:US):US:=λD ρ=> ∃W:Nat->Ev->Prop,(∃m,W m ρ)/\ ∀m ρ,W m ρ->
 c ρ λb ρ1=>if b=true then tb {D with nx:=λρ'=> ∃m',m'<m/\W m' ρ',ct:=λρ'=> ∃m',m'<m/\W m' ρ',bk:=D.nx} ρ1 else D.nx ρ1
theorem a73 {tb:US}(hp:PassesOwn (model X.prog X.w) X.A X.env X.xe)(hc:PUT X c tc)(hb:mP X body tb):PUS X (.While c body [] pos) (aL7 tc tb):=
 tH (bG2 hp hc hb) λD σ H ⟨C,ρ,D0,I,⟨W,⟨m0,w0⟩,turn⟩,k⟩=>by
  refine⟨λm σ H=> ∃ρ,EOk X.K C ρ σ H/\W m ρ,⟨m0,ρ,I,w0⟩,?_⟩
  rintro m σ H ⟨ρ,I,w⟩;refine⟨C,ρ,_,I,turn m ρ w,λb ρ1 H1 q f s=> ?_⟩
  have I1:=(I.frz f).same s;cases b with
  | true=>
   refine⟨λσ' H'=> ∃m',m'<m/\ ∃ρ',EOk X.K C ρ' σ' H'/\W m' ρ',λσ' H' z=>z,C,ρ1,_,I1,q,⟨?_,k.rt,k.nx,?_⟩⟩
   .rintro ρ' σ' H' ⟨m',hm,w'⟩ I';exact⟨m',hm,ρ',I',w'⟩
   .rintro ρ' σ' H' ⟨m',hm,w'⟩ I';exact⟨m',hm,ρ',I',w'⟩
  | false=>
   exact k.nx _ _ _ q I1
end
abbrev UI:=Ev->(Nat->(Nat->D)->Ev->Prop)->Prop
structure aR6 (K:PySem.W.Frag)(A:AS)(H:Hp)(J:It)(n:Nat)(it:Nat->D):Prop where
 go: ∀A' H' i,jS A H A' H'->i<n->J.go i H'
 yld: ∀A' H' i x H'',jS A H A' H'->(∀a,A' a->H' a≠none)->i<n->J.yld i H' x H''->eE H' H''/\Rep K A' H'' (it i) x
 stop: ∀A' H',jS A H A' H'->J.stop n H'
def lI (K:PySem.W.Frag)(t:UI):TI:=λσ H R=> ∃C ρ Q0,EOk K C ρ σ H/\t ρ Q0/\
 ∀n it ρ' J H',Q0 n it ρ'->Frz ρ ρ'->eE H H'->aR6 K (Av C ρ' σ) H' J n it->R J H'
def PUI (X:Cx)(tg iter:Expr)(t:UI):Prop:=PI X tg iter (lI X.K t)
def tV (ui:UI)(g:UG)(tb:US):US:=λD ρ=>ui ρ λn it ρ1=> ∃Pv:Nat->Ev->Prop,Pv 0 ρ1/\
 (∀i ρ,i<n->Pv i ρ->g (.pu<|it i) ρ λρ2=>tb {D with nx:=Pv (i+1),ct:=Pv (i+1),bk:=D.nx} ρ2)/\ ∀ρ,Pv n ρ->D.nx ρ
nonrec def C0.rz (C:C0) (ρ:Ev) (σ:L2.St) (H:Hp):C0:=C.raise ρ σ H λ_=>Classical.propDecidable _
section
variable {X:Cx}{e:Expr}{pos:Pos}{te:UE}{K:PySem.W.Frag}{C:C0}{ρ ρ':Ev}{σ σ':L2.St}{H H':Hp}
theorem EOk.rz (I:EOk K C ρ σ H):EOk K (C.rz ρ σ H) ρ σ H/\eE C.H0 (C.rz ρ σ H).H0:=I.raise
theorem bX0 (I':EOk K (C.rz ρ σ H) ρ' σ' H'):jS (Av C ρ σ) H (Av (C.rz ρ σ H) ρ' σ') H':=λb o nb e=>by
 have e0:(C.rz ρ σ H).H0 b=some o:=by
  show @ite _ (Own ρ σ b) (Classical.propDecidable _) none (H b)=some o
  rw[a7 λz=>nb (.inr z)]
  exact e
 refine⟨?_,I'.ext b o e0⟩
 rintro(z| ⟨i,l,h1,h2⟩)
 .exact nb (.inl z)
 .obtain⟨a,vs,h3,h4,h5,_⟩:=I'.ow i l h1;rw[h2]at h3;cases h3;rw[e0]at h5;cases h5
theorem bI7 {ui:UI}{g:UG}{T:List Nat}{tb:US}(hp:PassesOwn (model X.prog X.w) X.A X.env X.xe)(hc:X.calm=true)(hi:PUI X tg iter ui)(hg:PUG X tg T g)(hb:mP X body tb)
  (hs: ∀x,foldedSetIterable iter X.env x=pure x:=by intro _;rfl):PUS X (.For tg iter body [] pos) (tV ui g tb):=
 tH (ps_for hp hc hi hg hb hs) λD σ H ⟨C,ρ,D0,I,h,k⟩=>⟨C,ρ,_,I,h,λn it ρ1 J H1 q f s ok=>by
  obtain⟨Pv,p0,turn,fin⟩:=q;have I1:=(I.frz f).same s;obtain⟨Ir,sub⟩:=I1.rz;refine⟨λi m σ' H'=>m=n-i/\i<=n/\ ∃ρ',EOk X.K (C.rz ρ1 σ H1) ρ' σ' H'/\Pv i ρ',⟨n,rfl,cK _,ρ1,Ir,p0⟩,?_⟩
  rintro i m σ' H' ⟨rfl,hi,ρ',I',p'⟩;have P:=bX0 I';have lo: ∀ρ2 σ2 H2,EOk X.K (C.rz ρ1 σ H1) ρ2 σ2 H2->EOk X.K C ρ2 σ2 H2:=λρ2 σ2 H2 J2=>J2.lower sub rfl I.a0
  by_cases hlt:i<n
  .refine .inr ⟨ok.go _ _ i P hlt,λσ2 H2=> ∃ρ2,EOk X.K (C.rz ρ1 σ H1) ρ2 σ2 H2/\Pv (i+1) ρ2,λσ2 H2 z=>⟨n-(i+1),aa,rfl,hlt,z⟩,λx H2 y=> ?_⟩
   obtain⟨s2,r2⟩:=ok.yld _ _ i x H2 P (λa z=>I'.avSome z) hlt y
   refine⟨C.rz ρ1 σ H1,ρ',.pu<|it i,H',_,I',s2,r2,turn i ρ' hlt p',λρ2 σ2 H3 q I3 _=>⟨C.rz ρ1 σ H1,ρ2,_,I3,q,⟨?_,?_,?_,?_⟩⟩⟩
   .exact λρ3 σ3 H4 q I4=>⟨ρ3,I4,q⟩
   .exact λb v H4 q s4 r4=>k.rt b v H4 q (sub.trans s4) (r4.from sub)
   .exact λρ3 σ3 H4 q I4=>k.nx ρ3 σ3 H4 q (lo _ _ _ I4)
   .exact λρ3 σ3 H4 q I4=>⟨ρ3,I4,q⟩
  .have e:i=n:=aa
   subst e;exact .inl ⟨ok.stop _ _ P,k.nx _ _ _ (fin ρ' p')<|lo _ _ _ I'⟩⟩
nonrec def oS:D->Option (List D)
 | .tup l=>some l
 | .lst l=>some l
 | .rol l=>some l
 | _=>none
def oU (t:UE):UI:=λρ Q=>t ρ λb ρ1=>match oS b.d with
 | some l=>Q l.length (λi=>l.getD i .non) ρ1
 | none=>False
theorem pi_any {l:Expr}{tl:TE}(hl:PE X l tl):PI X tg l (λσ H R=>tl σ H λx H1=> ∃a,x= .ref a/\((∃xs,SqL X.K H1 a xs/\R (Itl X.K a) H1)\/ ∃xs,SqT X.K H1 a xs/\R (Itt X.K a) H1)):=by
 intro pins s σ H R I h;refine thn (hl pins s σ H _ I h) λv s1 ⟨x,H1,I1,r1,q1⟩=> ?_
 obtain⟨a,e,q⟩:=q1;subst e;cases r1;rcases q with⟨xs,hq,q⟩| ⟨xs,hq,q⟩
 .obtain⟨its,rv,p,hz⟩:=I1.list hq;refine oA p.isList ?_;refine⟨s1.heap.objs.size,[s1.heap.objs.size],_,_,H1,rfl,I1.kept λb o e=>aJ _ e,bA6 a _,⟨_,aY _ rfl,rfl,rfl⟩,λb hb=> ?_,q⟩
  have e:b=s1.heap.objs.size:=by exists hb
  subst e;exact I1.fpOk (aC _) (I1.hok.fresh<|aC _)
 .obtain⟨its,rv,p,hz⟩:=I1.tuple hq;refine wpAny_pyIter_tuple (show s1.heap.IsTuple a its.toArray from p) ?_
  refine⟨s1.heap.objs.size,[s1.heap.objs.size],_,_,H1,rfl,I1.kept λb o e=>aJ _ e,aY5 a _,⟨_,aY _ rfl,rfl,rfl⟩,λb hb=> ?_,q⟩
  have e:b=s1.heap.objs.size:=by exists hb
  subst e;exact I1.fpOk (aC _) (I1.hok.fresh<|aC _)
theorem a74 {t t':TI}(h:PI X tg iter t)(i: ∀σ H R,t' σ H R->t σ H R):PI X tg iter t':=λpins s σ H R I q=>h pins s σ H R I (i σ H R q)
theorem aF9 {A:AS}{vs:List V}{l:List D}(c:(¬A a/\Rd H a (.lst vs))\/KL K a vs)(r:aV K A H l vs):aR6 K A H (Itl K a) l.length (λi=>l.getD i .non):=by
 have sq: ∀A' H',jS A H A' H'->SqL K H' a vs:=λA' H' P=>by
  rcases c with⟨n,c⟩|c
  .exact .inl (Rd.pres P n c).2
  .exact .inr c
 have get: ∀i,i<l.length-> ∃x,vs[i]? =some x/\Rep K A H (l.getD i .non) x:=λi hi=>r.get (by rw[bI,aW hi];rfl)
 refine⟨λA' H' i P hi=> ?_,λA' H' i x H'' P hA hi y=> ?_,λA' H' P=>⟨vs,sq _ _ P,by rw[r.length];exact aC _⟩⟩
 .obtain⟨x,e,_⟩:=get i hi;exact⟨vs,x,sq _ _ P,e⟩
 .obtain⟨x',e,r'⟩:=get i hi;obtain⟨rfl,y⟩:=y;have:=y vs (sq _ _ P);rw[e]at this;cases this;exact⟨.refl _,r'.mono P⟩
theorem bI8 {A:AS}{vs:List V}{l:List D}(c:(¬A a/\Rd H a (.tup vs))\/KT K a vs)(r:aV K A H l vs):aR6 K A H (Itt K a) l.length (λi=>l.getD i .non):=by
 have sq: ∀A' H',jS A H A' H'->SqT K H' a vs:=λA' H' P=>by
  rcases c with⟨n,c⟩|c
  .exact .inl (Rd.pres P n c).2
  .exact .inr c
 have get: ∀i,i<l.length-> ∃x,vs[i]? =some x/\Rep K A H (l.getD i .non) x:=λi hi=>r.get (by rw[bI,aW hi];rfl)
 refine⟨λA' H' i P hi=> ?_,λA' H' i x H'' P hA hi y=> ?_,λA' H' P=>⟨vs,sq _ _ P,by rw[r.length];exact aC _⟩⟩
 .obtain⟨x,e,_⟩:=get i hi;exact⟨vs,x,sq _ _ P,e⟩
 .obtain⟨x',e,r'⟩:=get i hi;obtain⟨rfl,y⟩:=y;have:=y vs (sq _ _ P);rw[e]at this;cases this;exact⟨.refl _,r'.mono P⟩
theorem pX (h:PU X e te):PUI X tg e (oU te):=a74 (pi_any h) λσ H R ⟨C,ρ,Q0,I,h,k⟩=>⟨C,ρ,_,I,h,λb ρ1 v H1 q f s r=>by
 have rr:=r.rep λa z=>I.avF f z
 generalize b.d=d at q rr;cases d with
 | tup l=>
  obtain⟨a,vs,rfl,c,rs⟩:=rr;exact⟨a,rfl,.inr ⟨vs,c.imp bZ id,k _ _ ρ1 _ H1 q f s<|bI8 c rs⟩⟩
 | lst l=>
  obtain⟨a,vs,rfl,n,c,rs⟩:=rr;exact⟨a,rfl,.inl ⟨vs,.inl<|.inl c,k _ _ ρ1 _ H1 q f s<|aF9 (.inl ⟨n,.inl c⟩) rs⟩⟩
 | rol l=>
  obtain⟨a,vs,rfl,c,rs⟩:=rr;exact⟨a,rfl,.inl ⟨vs,c.imp bZ id,k _ _ ρ1 _ H1 q f s<|aF9 c rs⟩⟩
 | _=>exact(show False from q).elim⟩
theorem a75 {A:AS}:aR6 K A H (Itr lo n) n (λi=> .int (lo+i)):=
 ⟨λ_ _ _ _ h=>h,λ_ _ i x H'' _ _ _ ⟨e,y⟩=>by subst e;subst y;exact⟨.refl _,by simp only[Rep]⟩,λ_ _ _=>aC n⟩
def tI (ta:UA):UI:=λρ Q=>ta ρ λds ρ1=>match ds with
 | [.int j]=>(-(2^62)<=j/\j<2^62)/\Q j.toNat (λi=> .int (0+i)) ρ1
 | _=>False
def b59 (ta:UA):UI:=λρ Q=>ta ρ λds ρ1=>match ds with
 | [.int i,.int j]=>(-(2^62)<=i/\i<2^62/\ -(2^62)<=j/\j<2^62)/\Q (j-i).toNat (λk=> .int (i+k)) ρ1
 | _=>False
theorem bJ {A:AS}{i:Int}{v:V}(h:Rep K A H (.int i) v):v= .int i:=by simpa only[Rep]using h
theorem jP {a:Expr}{ta:UA}(hg:Gl X "range")(hm:X.mg "range"=none)(ha:PUA X [a] ta)(hs:↥(starEach [a] X.env=[(false,eval a X.env)])):PUI X tg (.Call (.Name "range" p) [a] [] pos) (tI ta):=
 a74 (bA7 hg hm ha hs) λσ H R ⟨C,ρ,Q0,I,h,k⟩=>⟨C,ρ,_,I,h,λds ρ1 vs H1 q f s r=>by
  split at q
  .rename_i j
   obtain⟨v,vr,rfl,rv,rr⟩:=r.uncons;have:=rr.unnil;subst this;have:=bJ rv;subst this;obtain⟨⟨h1,h2⟩,q⟩:=q;exact⟨j,rfl,h1,h2,k _ _ ρ1 _ H1 q f s a75⟩
  .exact q.elim⟩
theorem aG0 {a b:Expr}{ta:UA}(hg:Gl X "range")(hm:X.mg "range"=none)(ha:PUA X [a,b] ta)(hs:↥(starEach [a,b] X.env=[(false,eval a X.env),(false,eval b X.env)]))(hs2:↥(starEach [b] X.env=[(false,eval b X.env)])) :
  PUI X tg (.Call (.Name "range" p) [a,b] [] pos) (b59 ta):=
 a74 (bA8 hg hm ha hs hs2) λσ H R ⟨C,ρ,Q0,I,h,k⟩=>⟨C,ρ,_,I,h,λds ρ1 vs H1 q f s r=>by
  split at q
  .rename_i i j
   obtain⟨v,vr,rfl,rv,rr⟩:=r.uncons;obtain⟨w,wr,rfl,rw',rr'⟩:=rr.uncons;have:=rr'.unnil;subst this;have:=bJ rv;subst this;have:=bJ rw';subst this;obtain⟨hb,q⟩:=q;exact⟨i,j,rfl,hb,k _ _ ρ1 _ H1 q f s a75⟩
  .exact q.elim⟩
end
section
variable {X:Cx}{a b e o:Expr}{es:List Expr}{pos:Pos}{ta tb te ti:UE}{K:PySem.W.Frag}{C:C0}{ρ ρ':Ev}{σ σ':L2.St}{H H':Hp}{A:AS}
theorem Frz.ow {l:List D}(f:Frz ρ ρ')(h:ρ'[i]? =some (some<|.ow l)):ρ[i]? =some (some<|.ow l):=by
 rcases f.2 i with q| ⟨l',_,q⟩
 .exact q▸h
 .rw[q]at h;cases h
def kB (ρ:Ev)(i:Nat)(Q:List D->Prop):Prop:=match ρ[i]? with
 | some (some<|.ow l)=>Q l
 | _=>False
theorem iR {Q:List D->Prop}(h:kB ρ i Q): ∃l,ρ[i]? =some (some<|.ow l)/\Q l:=by
 unfold kB at h;split at h
 .rename_i l e
  exact⟨l,e,h⟩
 .exact h.elim
def aL8 (i:Nat)(t:UE):US:=λD ρ=>kB ρ i λ_=>t ρ λb ρ1=>kB ρ1 i λl=>l.length<sizeLine/\D.nx (ρ1.set i<|some<|.ow<|l++[b.d])
theorem qG {apos:Pos}(i:Nat)(hx:PE X (.Name x p) (a34 i))(he:PU X e te)
  (hbase:↥(attributeBase (.Name x p) "append" X.env (eval (.Name x p) X.env)=eval (.Name x p) X.env))
  (hfew:↥(((backTo cpos<|starEach [e] X.env).all (λx=> !x.1)&&(backToKw cpos<|keywordEach [] X.env).all (λx=>x.1.isSome)
   &&decide ([e].length+([]:List Keyword).length+(if([]:List Keyword).isEmpty then 0 else 1)<30))=true))
  (hline:↥((apos.endLine==cpos.line)=true)) (hs:↥(starEach [e] X.env=(false,eval e X.env)::starEach [] X.env)) (hplain:↥((backTo cpos<|starEach [] X.env).any (·.1)=false))
  (hw:↥(swapsWith (.Call (.Attribute (.Name x p) "append" apos) [e] [] cpos) none pos.line X.env=pure false)) :
  PUS X (.Expr (.Call (.Attribute (.Name x p) "append" apos) [e] [] cpos) pos) (aL8 i te):=
 tH (bV3 (c45 PySem.F.plainAttrs_list PySem.F.slot_list_append PySem.F.type_list_append aF5 hx (aK4 he aY8 hs) hbase hfew hline hs hplain) hw) λD σ H ⟨C,ρ,D0,I,h,k⟩=>by
  obtain⟨l,hl,h⟩:=iR h;obtain⟨a,vs,h1,h2,h3,h4⟩:=I.ow i l hl;refine⟨.ref a,h1,.inl ⟨rfl,vs,SqL.of h2⟩,C,ρ,_,I,h,λb ρ1 v H1 q f s r=> ?_⟩
  obtain⟨l',hl',hz,q⟩:=iR q;have e:=f.ow hl';rw[hl]at e;cases e;have I1:=(I.frz f).same s;obtain⟨a',vs',g1,g2,g3,g4⟩:=I1.ow i l hl';rw[h1]at g1;cases g1;refine⟨a,vs',v,rfl,rfl,g2,by rw[<-g4.length];exact hz,k.nx _ _ _ q ?_⟩
  exact I1.write hl' h1 (g4.append<|.cons (r.rep λa z=>I.avF f z) .nil)
def b60 (i:Nat)(t ti:UE):US:=λD ρ=>t ρ λb ρ1=>kB ρ1 i λ_=>ti ρ1 λj ρ2=>kB ρ2 i λl=>match j.d with
 | .int k=>(match ixN l.length k with
  | some n=>D.nx (ρ2.set i<|some<|.ow<|l.set n b.d)
  | none=>False)
 | _=>False
theorem a76 {ix:Expr}(i:Nat)(hx:PE X (.Name x p) (a34 i))(he:PU X e te)(hi:PU X ix ti)
  (ha: ∀v,assign (.Subscript (.Name x p) ix tpos) X.env v=(do
   let ov<-holding [v] (eval (.Name x p) X.env)
   let iv<-holding [v,ov] (eval ix X.env)
   standAt tpos
   holding [v,ov,iv] (setItem ov iv v)
   release [v,ov,iv] []):=by intro _;rfl)
  (hs:↥(swapsWithSole [.Subscript (.Name x p) ix tpos] e pos.line X.env=pure false)) (hw:↥(swappedStores [.Subscript (.Name x p) ix tpos] e X.env=pure none))
  (h1:↥((assignEach [.Subscript (.Name x p) ix tpos] X.env).map (·.2)=[assign (.Subscript (.Name x p) ix tpos) X.env])):PUS X (.Assign [.Subscript (.Name x p) ix tpos] e pos) (b60 i te ti):=
 tH (bF9 he (pg_sub hx hi aR3 ha) hs hw h1) λD σ H ⟨C,ρ,D0,I,h,k⟩=>⟨C,ρ,_,I,h,λb ρ1 v H1 q f s r=>by
  obtain⟨l,hl,q⟩:=iR q;have I1:=(I.frz f).same s;obtain⟨a,vs,h1,h2,h3,h4⟩:=I1.ow i l hl;refine⟨.ref a,h1,C,ρ1,_,I1,q,λj ρ2 w H2 q2 f2 s2 r2=> ?_⟩
  obtain⟨l',hl',q2⟩:=iR q2;have e:=f2.ow hl';rw[hl]at e;cases e;have I2:=(I1.frz f2).same s2;obtain⟨a',vs',g1,g2,g3,g4⟩:=I2.ow i l hl';rw[h1]at g1;cases g1;have rj:=r2.rep λa z=>I1.avF f2 z
  generalize j.d=dj at q2 rj;split at q2
  .rename_i kk
   have:=bJ rj;subst this;split at q2
   .rename_i n hn
    refine⟨a,vs',kk,n,rfl,rfl,g2,by rw[<-g4.length];exact hn,k.nx _ _ _ q2 ?_⟩
    exact I2.write hl' h1 (g4.set n<|(r.rep λa z=>I.avF f z).mono<|.sub s2 λa=>f2.av)
   .exact q2.elim
  .exact q2.elim⟩
def gIx (d i:D)(Q:D->Prop):Prop:=match oS d,i with
 | some l,.int k=>(match atI l k with
  | some x=>Q x
  | none=>False)
 | _,_=>False
def uIx (t:UV)(ti:UE):UE:=λρ Q=>t ρ λd ρ1=>ti ρ1 λi ρ2=>gIx d i.d λx=>Q (.pu x) ρ2
theorem aV.atI {l:List D}{vs:List V}{k:Int}{x:D}(r:aV K A H l vs)(h:atI l k=some x): ∃v,L2.atI vs k=some v/\Rep K A H x v:=by
 unfold L2.atI at h⊢;cases e:ixN l.length k with
 | none=>rw[e]at h;cases h
 | some j=>
  rw[e]at h;rw[<-r.length,e];exact r.get h
theorem aZ3.mono {A':AS}(s:eE H H')(h: ∀a,A' a->A a): ∀{d:D} {v:V},aZ3 K A H d v->aZ3 K A' H' d v
 | .non,_,r=>Rep.mono (.sub s h) r
 | .bl _,_,r=>Rep.mono (.sub s h) r
 | .int _,_,r=>Rep.mono (.sub s h) r
 | .str _,_,r=>Rep.mono (.sub s h) r
 | .ty _,_,r=>Rep.mono (.sub s h) r
 | .tup _,_,⟨a,vs,e,c,r⟩=>⟨a,vs,e,c.imp (λc=>c.imp (s _ _) λ⟨o,z⟩=>⟨o,s _ _ z⟩) id,r.mono<|.sub s h⟩
 | .lst _,_,⟨a,vs,e,c,r⟩=>⟨a,vs,e,s _ _ c,r.mono<|.sub s h⟩
 | .rol _,_,⟨a,vs,e,c,r⟩=>⟨a,vs,e,s.seq c,r.mono<|.sub s h⟩
 | .obj _ _ _,_,r=>Rep.mono (.sub s h) r
 | .adr _,_,r=>Rep.mono (.sub s h) r
 | .xob _ _ _ _,_,r=>Rep.mono (.sub s h) r
theorem aZ3.seq {d:D}{v:V}{l:List D}(r:aZ3 K A H d v)(h:oS d=some l): ∃a vs,v= .ref a/\(SqL K H a vs\/SqT K H a vs)/\aV K A H l vs:=by
 cases d with
 | tup l'=>cases h;obtain⟨a,vs,e,c,r⟩:=r;exact⟨a,vs,e,.inr c,r⟩
 | lst l'=>cases h;obtain⟨a,vs,e,c,r⟩:=r;exact⟨a,vs,e,.inl<|SqL.of c,r⟩
 | rol l'=>cases h;obtain⟨a,vs,e,c,r⟩:=r;exact⟨a,vs,e,.inl c,r⟩
 | _=>cases h
theorem bX1 {d i:D}{Q:D->Prop}(h:gIx d i Q): ∃l k x,oS d=some l/\i= .int k/\atI l k=some x/\Q x:=by
 unfold gIx at h;split at h
 .rename_i l k e
  split at h
  .rename_i x ex
   exact⟨l,k,x,e,rfl,ex,h⟩
  .exact h.elim
 .exact h.elim
theorem bI9 {t:UV}(ha:PUV X a t)(hb:PU X b ti)(hs:aK5 b):PU X (.Subscript a b pos) (uIx t ti):=
 fE (pe_ix ix_seq ha hb hs) λσ H Q ⟨C,ρ,Q0,I,h,k⟩=>⟨C,ρ,_,I,h,λd ρ1 v H1 q f s r=>by
  have I1:=(I.frz f).same s;refine⟨C,ρ1,_,I1,q,λi ρ2 w H2 q2 f2 s2 r2=> ?_⟩
  obtain⟨l,kk,x,e1,e2,e3,q2⟩:=bX1 q2;have ri:=r2.rep λa z=>I1.avF f2 z
  rw[e2]at ri;have:=bJ ri;subst this;obtain⟨a,vs,rfl,c,rs⟩:=(r.mono s2 λa=>f2.av).seq e1
  obtain⟨u,e4,r4⟩:=rs.atI e3;have fin:=k (.pu x) ρ2 u H2 q2 (f.trans f2) (s.trans s2) r4;rcases c with c|c
  .exact .inl ⟨a,vs,kk,u,rfl,rfl,c,e4,fin⟩
  .exact .inr (.inl ⟨a,vs,kk,u,rfl,rfl,c,e4,fin⟩)⟩
abbrev UO:=Ev->(Option Int->Ev->Prop)->Prop
def lO (K:PySem.W.Frag)(t:UO):TO:=λσ H Q=> ∃C ρ Q0,EOk K C ρ σ H/\t ρ Q0/\ ∀i ρ' H',Q0 i ρ'->Frz ρ ρ'->eE H H'->Q i H'
def PUO (X:Cx)(e:Option Expr)(t:UO):Prop:=PO X e (lO X.K t)
theorem c49 {e:Option Expr}{t t':TO}(h:PO X e t)(i: ∀σ H Q,t' σ H Q->t σ H Q):PO X e t':=λpins s σ H Q I q=>h pins s σ H Q I (i σ H Q q)
def sN:UO:=λρ Q=>Q none ρ
def a77 (t:UE):UO:=λρ Q=>t ρ λb ρ1=>match b.d with
 | .int i=>Q (some i) ρ1
 | _=>False
theorem tZ:PUO X none sN:=c49 bW1 λσ H Q ⟨C,ρ,Q0,I,h,k⟩=>k _ _ _ h (.refl _) (.refl _)
theorem u4 (h:PU X e te):PUO X (some e) (a77 te):=c49 (bW2 h) λσ H Q ⟨C,ρ,Q0,I,h,k⟩=>⟨C,ρ,_,I,h,λb ρ1 v H1 q f s r=>by
 have r':=r.rep λa z=>I.avF f z
 generalize b.d=d at q r';split at q
 .exact⟨_,bJ r',k _ _ _ q f s⟩
 .exact q.elim⟩
nonrec def cutD (l:List D)(lo hi:Option Int):List D:=(l.drop<|HT.sIx l.length 0 lo).take (HT.sIx l.length l.length hi-HT.sIx l.length 0 lo)
theorem aV.cut {l:List D}{vs:List V}(r:aV K A H l vs)(lo hi:Option Int):aV K A H (cutD l lo hi) (bB4 vs lo hi):=by
 unfold cutD bB4;rw[r.length];exact(r.drop _).take _
def gSl (d:D)(lo hi:Option Int)(Q:B->Prop):Prop:=match d with
 | .tup l=> ¬(HT.sIx l.length 0 lo=0/\HT.sIx l.length l.length hi=l.length)/\Q (.pu<|.tup<|cutD l lo hi)
 | .lst l=>Q (.ow<|cutD l lo hi)
 | .rol l=>Q (.ow<|cutD l lo hi)
 | _=>False
def uSl (t:UV)(tl th:UO):UE:=λρ Q=>t ρ λd ρ1=>tl ρ1 λlo ρ2=>th ρ2 λhi ρ3=>gSl d lo hi λb=>Q b ρ3
theorem a78 {t:UV}{tl th:UO}{lo hi:Option Expr}{p2:Pos}(he:PUV X e t)(hl:PUO X lo tl)(hu:PUO X hi th):PU X (.Subscript e (.Slice lo hi none p2) pos) (uSl t tl th):=
 fE (aR2 (b55.or bH1) he hl hu) λσ H Q ⟨C,ρ,Q0,I,h,k⟩=>⟨C,ρ,_,I,h,λd ρ1 v H1 q f s r=>by
  have I1:=(I.frz f).same s;refine⟨C,ρ1,_,I1,q,λl2 ρ2 H2 q2 f2 s2=> ?_⟩
  have I2:=(I1.frz f2).same s2;refine⟨C,ρ2,_,I2,q2,λh3 ρ3 H3 q3 f3 s3=> ?_⟩
  have I3:=(I2.frz f3).same s3;have s13:=s2.trans s3;have sAll:=s.trans s13;have fAll:=f.trans (f2.trans f3);have r':=r.mono s13 λa z=>f2.av (f3.av z)
  cases d with
  | tup l=>
   obtain⟨hw,q3⟩:=q3;obtain⟨a,vs,rfl,c,rs⟩:=r';exact .inr ⟨a,vs,rfl,c,by rw[<-rs.length];exact hw,λp n=>k _ ρ3 _ _ q3 fAll (sAll.trans<|cV n _) (gE (λa z=>I3.avSome z) n<|rs.cut l2 h3)⟩
  | lst l=>
   obtain⟨a,vs,rfl,c,rs⟩:=r';exact .inl ⟨a,vs,rfl,SqL.of c,λp n=>k _ ρ3 _ _ q3 fAll (sAll.trans<|cV n _) (dU sAll n<|rs.cut l2 h3)⟩
  | rol l=>
   obtain⟨a,vs,rfl,c,rs⟩:=r';exact .inl ⟨a,vs,rfl,c,λp n=>k _ ρ3 _ _ q3 fAll (sAll.trans<|cV n _) (dU sAll n<|rs.cut l2 h3)⟩
  | _=>exact(show False from q3).elim⟩
def Sm (i:Int):Prop:=i.natAbs<2^9000
theorem Sm.log {i:Int}(h:Sm i):i.natAbs.log2<9000:=by
 by_cases z:i.natAbs=0
 .rw[z];decide
 .exact(Nat.log2_lt z).mpr h
def j0 (d e:D)(Q:B->Prop):Prop:=match d,e with
 | .int i,.int j=>Q (.pu<|.int<|i+j)
 | .lst l,.lst m=>l.length+m.length<=sizeLine/\Q (.ow<|l++m)
 | .tup l,.tup m=>l.length+m.length<=sizeLine/\Q (.pu<|.tup<|l++m)
 | _,_=>False
theorem bJ0:OpR X (binaryOp .Add) (λx y H Q=> ∃a b ys,x= .ref a/\y= .ref b/\SqT X.K H a []/\SqT X.K H b ys/\Q (.ref b) H):=by
 intro pins s σ H x y v u Q I rx ry h;obtain⟨a,b,ys,rfl,rfl,ha,hb,q⟩:=h;cases rx;cases ry;obtain⟨its,r1,p1,_⟩:=I.tuple ha;obtain⟨its2,r2,p2,_⟩:=I.tuple hb;have e:its=[]:=by
  have:=r1.length;exact wA.mp this.symm
 subst e;obtain⟨⟨cls,dd,data,sl⟩,ho,hc,n,hd⟩:=id p1;obtain⟨⟨cls2,dd2,data2,sl2⟩,ho2,hc2,n2,hd2⟩:=id p2;subst hc hd hc2 hd2;exact concat_meets ⟨_,ho,rfl⟩ ⟨_,ho2,rfl⟩ xA seq_tuple_add wG w8 (w4 _ _) (tuple_addW0 a b _ its2.toArray n n2 dd dd2 sl sl2 rfl) ⟨ho,ho2,⟨.ref b,H,I,rfl,q⟩⟩
theorem yA {i:Int}:lM K A H H' (.pu<|.int i) (.int i):=by
 show Rep K A H' (.int i) (.int i)
 simp only[Rep]
theorem dA:OpU X (binaryOp .Add) j0:=by
 intro A H d e v w Q0 Q hA r1 r2 g k;unfold j0 at g;split at g
 .rename_i i j
  exact⟨_,op_add,i,j,bJ r1,bJ r2,k _ _ H g (.refl _) yA⟩
 .rename_i l m
  obtain⟨a,vs,rfl,n1,c1,rs1⟩:=r1;obtain⟨b,ws,rfl,n2,c2,rs2⟩:=r2;exact⟨_,op_cat,a,b,vs,ws,rfl,rfl,c1,c2,by rw[<-rs1.length,<-rs2.length];exact g.1,λp n=>k _ _ _ g.2 (cV n _) (dU (.refl _) n<|rs1.append rs2)⟩
 .rename_i l m
  obtain⟨a,vs,rfl,c1,rs1⟩:=r1;obtain⟨b,ws,rfl,c2,rs2⟩:=r2;obtain⟨hz,g⟩:=g
  by_cases hn:l=[]
  .subst hn;have e1:vs=[]:=rs1.unnil;subst e1;refine⟨_,bJ0,a,b,ws,rfl,rfl,c1.imp bZ id,c2.imp bZ id,k _ _ H g (.refl _) ?_⟩;exact⟨b,ws,rfl,c2,rs2⟩
  refine⟨_,bW3,a,b,vs,ws,rfl,rfl,c1.imp bZ id,c2.imp bZ id,λz=>hn ?_,by rw[<-rs1.length,<-rs2.length];exact hz,λz=> ?_,λz p n=> ?_⟩
  .have:=rs1.length;rw[z]at this;exact wA.mp this
  .have e2:=rs2.length;rw[z]at e2;have e3:m=[]:=wA.mp e2;subst e3;rw[iB]at g;refine k _ _ H g (.refl _) ?_;exact⟨a,vs,rfl,c1,rs1⟩
  .exact k _ _ _ g (cV n _) (gE hA n<|rs1.append rs2)
 .exact g.elim
def gI2 (f:Int->Int->(B->Prop)->Prop)(d e:D)(Q:B->Prop):Prop:=match d,e with
 | .int i,.int j=>f i j Q
 | _,_=>False
theorem pN {f:Int->Int->(B->Prop)->Prop}{d e:D}{Q:B->Prop}(h:gI2 f d e Q): ∃i j,d= .int i/\e= .int j/\f i j Q:=by
 unfold gI2 at h;split at h
 .exact⟨_,_,rfl,rfl,h⟩
 .exact h.elim
def gSub:D->D->(B->Prop)->Prop:=gI2 λi j Q=>Q (.pu<|.int<|i-j)
theorem iI:OpU X (binaryOp .Sub) gSub:=by
 intro A H d e v w Q0 Q hA r1 r2 g k;obtain⟨i,j,rfl,rfl,g⟩:=pN g;exact⟨_,op_sub,i,j,bJ r1,bJ r2,k _ _ H g (.refl _) yA⟩
theorem b61 {i:Int}(h:Sm i):Builtin.Int.intBits i<=2^20:=aN (PyProof.Rows.intBits_le h) ac
def fT (d e:D)(Q:B->Prop):Prop:=match d,e with
 | .int i,.int j=>(aY7 i j\/(Sm i/\Sm j))/\Q (.pu<|.int<|i*j)
 | .lst l,.int k=>(-(2^63)<=k/\k<2^63/\l.length*k.toNat<=sizeLine)/\Q (.ow (replicate k.toNat l).flatten)
 | _,_=>False
theorem bX2:OpR X (binaryOp .Mult) (rI (λi j=>aY7 i j\/(Sm i/\Sm j)) λi j=> .int (i*j)):=opI λ_ _ _ _ _ _ _ hc q=>mul_int q (hc.elim aY7.ok λh=> .of_bits (b61 h.1) (b61 h.2))
theorem cA:OpU X (binaryOp .Mult) fT:=by
 intro A H d e v w Q0 Q hA r1 r2 g k;unfold fT at g;split at g
 .rename_i i j
  exact⟨_,bX2,i,j,bJ r1,bJ r2,g.1,k _ _ H g.2 (.refl _) yA⟩
 .rename_i l kk
  have:=bJ r2;subst this;obtain⟨a,vs,rfl,n1,c1,rs1⟩:=r1;obtain⟨⟨h1,h2,h3⟩,g⟩:=g;exact⟨_,op_rep,a,kk,vs,rfl,rfl,c1,h1,h2,by rw[<-rs1.length];exact h3,λp n=>k _ _ _ g (cV n _) (dU (.refl _) n<|rs1.rep _)⟩
 .exact g.elim
def bX3:D->D->(B->Prop)->Prop:=gI2 λi j Q=>(j≠0/\Sm j)/\Q (.pu<|.int<|i.fdiv j)
def iS:D->D->(B->Prop)->Prop:=gI2 λi j Q=>j≠0/\Q (.pu<|.int<|i.fmod j)
theorem bX4:OpR X (binaryOp .FloorDiv) (rI (λ_ j=>j≠0/\Sm j) λi j=> .int (i.fdiv j)):=opI λ_ _ _ _ _ _ _ hc q=>floordiv_int hc.1 q (.inl<|PyProof.noPylong_of_log2 hc.2.log)
theorem ou_div:OpU X (binaryOp .FloorDiv) bX3:=by
 intro A H d e v w Q0 Q hA r1 r2 g k;obtain⟨i,j,rfl,rfl,g⟩:=pN g;exact⟨_,bX4,i,j,bJ r1,bJ r2,g.1,k _ _ H g.2 (.refl _) yA⟩
theorem dH:OpU X (binaryOp .Mod) iS:=by
 intro A H d e v w Q0 Q hA r1 r2 g k;obtain⟨i,j,rfl,rfl,g⟩:=pN g;exact⟨_,bV7,i,j,bJ r1,bJ r2,g.1,k _ _ H g.2 (.refl _) yA⟩
def a36:D->D->(B->Prop)->Prop:=gI2 λi j Q=>bG3 i j/\Q (.pu<|.int<|i^j.toNat)
theorem pY:OpU X (binaryOp .Pow) a36:=by
 intro A H d e v w Q0 Q hA r1 r2 g k;obtain⟨i,j,rfl,rfl,g⟩:=pN g;exact⟨_,op_pow,i,j,bJ r1,bJ r2,g.1,k _ _ H g.2 (.refl _) yA⟩
def tW (p:Int->Int->Bool):D->D->(B->Prop)->Prop:=gI2 λi j Q=>Q (.pu<|.bl<|p i j)
theorem aL9 {p:Int->Int->Bool}(ho:OpR X (compareOp op) (rI0 λi j=> .bl (p i j))):OpU X (compareOp op) (tW p):=by
 intro A H d e v w Q0 Q hA r1 r2 g k;obtain⟨i,j,rfl,rfl,g⟩:=pN g;exact⟨_,ho,i,j,bJ r1,bJ r2,k _ _ H g (.refl _) iH⟩
theorem c50:OpU X (compareOp .Lt) (tW λi j=>decide (i<j)):=aL9 op_lt
theorem ou_le:OpU X (compareOp .LtE) (tW λi j=>decide (i<=j)):=aL9 op_le
theorem a79:OpU X (compareOp .Gt) (tW λi j=>decide (j<i)):=aL9 op_gt
theorem ou_ge:OpU X (compareOp .GtE) (tW λi j=>decide (j<=i)):=aL9 op_ge
def i5 (neg:Bool)(d e:D)(Q:B->Prop):Prop:=match d,e with
 | .int i,.int j=>Q (.pu<|.bl<|neg ^^ decide (i=j))
 | .bl i,.bl j=>Q (.pu<|.bl<|neg ^^ decide (i=j))
 | .str i,.str j=>Q (.pu<|.bl<|neg ^^ decide (i=j))
 | _,_=>False
theorem pO {b:Bool}{v:V}(h:Rep K A H (.bl b) v):v= .bl b:=by simpa only[Rep]using h
theorem yB {b:Str}{v:V}(h:Rep K A H (.str b) v):v= .str b:=by simpa only[Rep]using h
theorem fW:OpU X (compareOp .Eq) (i5 false):=by
 intro A H d e v w Q0 Q hA r1 r2 g k;unfold i5 at g;split at g
 .rw[bJ r1,bJ r2];exact⟨_,bG4,rfl,k _ _ H g (.refl _) (by rw[a54,jG];exact iH)⟩
 .rw[pO r1,pO r2];exact⟨_,bG4,rfl,k _ _ H g (.refl _) (by rw[aK2,jG];exact iH)⟩
 .rw[yB r1,yB r2];exact⟨_,bG4,rfl,k _ _ H g (.refl _) (by rw[a55,jG];exact iH)⟩
 .exact g.elim
theorem c51:OpU X (compareOp .NotEq) (i5 true):=by
 intro A H d e v w Q0 Q hA r1 r2 g k;unfold i5 at g;split at g
 .rw[bJ r1,bJ r2];exact⟨_,bG5,rfl,k _ _ H g (.refl _) (by rw[a54,oI];exact iH)⟩
 .rw[pO r1,pO r2];exact⟨_,bG5,rfl,k _ _ H g (.refl _) (by rw[aK2,oI];exact iH)⟩
 .rw[yB r1,yB r2];exact⟨_,bG5,rfl,k _ _ H g (.refl _) (by rw[a55,oI];exact iH)⟩
 .exact g.elim
end
section
variable {X:Cx}{a b e o:Expr}{es:List Expr}{pos:Pos}{ta tb te ti:UE}{K:PySem.W.Frag}{C:C0}{ρ ρ':Ev}{σ σ':L2.St}{H H':Hp}{A:AS}
def yC (t:UE):UE:=λρ Q=>t ρ λb ρ1=>match b.d with
 | .int i=>Q (.pu<|.int<|-i) ρ1
 | _=>False
theorem mQ (h:PU X a ta):PU X (.UnaryOp .USub a pos) (yC ta):=
 fE (pe_un un_neg h) λσ H Q ⟨C,ρ,Q0,I,h,k⟩=>⟨C,ρ,_,I,h,λb ρ1 v H1 q f s r=>by
  have r':=r.rep λa z=>I.avF f z
  generalize b.d=d at q r';split at q
  .exact⟨_,bJ r',k _ _ _ _ q f s yA⟩
  .exact q.elim⟩
theorem iu_add:IpU X .Add (gI2 λi j Q=>Q (.pu<|.int<|i+j)):=by
 intro A H d e v w Q0 Q hA r1 r2 g k;obtain⟨i,j,rfl,rfl,g⟩:=pN g;exact⟨_,ip_add,i,j,bJ r1,bJ r2,k _ _ H g (.refl _) yA⟩
theorem iu_sub:IpU X .Sub (gI2 λi j Q=>Q (.pu<|.int<|i-j)):=by
 intro A H d e v w Q0 Q hA r1 r2 g k;obtain⟨i,j,rfl,rfl,g⟩:=pN g;exact⟨_,bG1,i,j,bJ r1,bJ r2,k _ _ H g (.refl _) yA⟩
def g1 (f:D->(B->Prop)->Prop)(ds:List D)(Q:B->Prop):Prop:=match ds with
 | [d]=>f d Q
 | _=>False
def g2 (f:D->D->(B->Prop)->Prop)(ds:List D)(Q:B->Prop):Prop:=match ds with
 | [d,e]=>f d e Q
 | _=>False
theorem zH {f:D->(B->Prop)->Prop}{ds:List D}{Q:B->Prop}{vs:List V}(h:g1 f ds Q)(r:aV K A H ds vs): ∃d v,ds=[d]/\vs=[v]/\Rep K A H d v/\f d Q:=by
 unfold g1 at h;split at h
 .obtain⟨v,vr,rfl,rv,rr⟩:=r.uncons;have:=rr.unnil;subst this;exact⟨_,v,rfl,rfl,rv,h⟩
 .exact h.elim
theorem bJ1 {f:D->D->(B->Prop)->Prop}{ds:List D}{Q:B->Prop}{vs:List V}(h:g2 f ds Q)(r:aV K A H ds vs): ∃d e v w,ds=[d,e]/\vs=[v,w]/\Rep K A H d v/\Rep K A H e w/\f d e Q:=by
 unfold g2 at h;split at h
 .obtain⟨v,vr,rfl,rv,rr⟩:=r.uncons;obtain⟨w,wr,rfl,rw',rr'⟩:=rr.uncons;have:=rr'.unnil;subst this;exact⟨_,_,v,w,rfl,rfl,rv,rw',h⟩
 .exact h.elim
def bX5 (f:Int->(B->Prop)->Prop)(d:D)(Q:B->Prop):Prop:=match d with
 | .int i=>f i Q
 | _=>False
theorem bJ2 {f:Int->(B->Prop)->Prop}{d:D}{Q:B->Prop}(h:bX5 f d Q): ∃i,d= .int i/\f i Q:=by
 unfold bX5 at h;split at h
 .exact⟨_,rfl,h⟩
 .exact h.elim
def bX6:List D->(B->Prop)->Prop:=g1 (bX5 λi Q=>Q (.pu<|.int<|if i<0 then -i else i))
theorem bJ3:tG X (.builtin "abs") bX6:=by
 intro A H ds vs Q0 Q hA r g k;obtain⟨d,v,rfl,rfl,rv,g⟩:=zH g r;obtain⟨i,rfl,g⟩:=bJ2 g;exact⟨_,bG7,i,by rw[bJ rv],k _ _ H g (.refl _) yA⟩
def gMax:List D->(B->Prop)->Prop:=g2 (gI2 λi j Q=>Q (.pu<|.int<|if j>i then j else i))
theorem cu_max (hc:X.calm=true):tG X (.builtin "max") gMax:=by
 intro A H ds vs Q0 Q hA r g k;obtain⟨d,e,v,w,rfl,rfl,rv,rw',g⟩:=bJ1 g r;obtain⟨i,j,rfl,rfl,g⟩:=pN g;exact⟨_,bB0 hc,i,j,by rw[bJ rv,bJ rw'],k _ _ H g (.refl _) yA⟩
def gMin:List D->(B->Prop)->Prop:=g2 (gI2 λi j Q=>Q (.pu<|.int<|if j<i then j else i))
def aZ8:List D->(B->Prop)->Prop:=g1 λd Q=>match d with
 | .int i=>Q (.pu<|.int i)
 | .bl k=>Q (.pu<|.int<|if k then 1 else 0)
 | _=>False
theorem cu_int:tG X (.type "int") aZ8:=by
 intro A H ds vs Q0 Q hA r g k;obtain⟨d,v,rfl,rfl,rv,g⟩:=zH g r;cases d with
 | int i=>exact⟨_,aF0,.inl ⟨i,by rw[bJ rv],k _ _ H g (.refl _) yA⟩⟩
 | bl c=>exact⟨_,aF0,.inr ⟨c,by rw[pO rv],k _ _ H g (.refl _) yA⟩⟩
 | _=>exact(show False from g).elim
nonrec def lN:List D->(B->Prop)->Prop:=g1 λd Q=>match oS d with
 | some l=>Q (.pu<|.tup l)
 | none=>False
theorem qH:tG X (.type "tuple") lN:=by
 intro A H ds vs Q0 Q hA r g k;obtain⟨d,v,rfl,rfl,rv,g⟩:=zH g r;cases d with
 | tup l=>
  have rv':=rv;obtain⟨a,vs,rfl,c,rs⟩:=rv;exact⟨_,pW,a,vs,rfl,.inr ⟨c.imp bZ id,k _ _ H g (.refl _) rv'⟩⟩
 | lst l=>
  obtain⟨a,vs,rfl,n,c,rs⟩:=rv;exact⟨_,pW,a,vs,rfl,.inl ⟨SqL.of c,λp n=>k _ _ _ g (cV n _) (gE hA n rs)⟩⟩
 | rol l=>
  obtain⟨a,vs,rfl,c,rs⟩:=rv;exact⟨_,pW,a,vs,rfl,.inl ⟨c.imp bZ id,λp n=>k _ _ _ g (cV n _) (gE hA n rs)⟩⟩
 | _=>exact(show False from g).elim
nonrec def a58:List D->(B->Prop)->Prop:=g1 λd Q=>match oS d with
 | some l=>Q (.ow l)
 | none=>False
theorem b62:tG X (.type "list") a58:=by
 intro A H ds vs Q0 Q hA r g k;obtain⟨d,v,rfl,rfl,rv,g⟩:=zH g r;cases e:oS d with
 | none=>simp only[e]at g
 | some l=>
  simp only[e]at g;obtain⟨a,vs,rfl,c,rs⟩:=rv.one.seq e;exact⟨_,aL0,a,vs,rfl,c,λp n=>k _ _ _ g (cV n _) (dU (.refl _) n rs)⟩
def lQ (t:UV):UE:=λρ Q=>t ρ λd ρ1=>match oS d with
 | some l=>Q (.pu<|.int l.length) ρ1
 | none=>False
theorem eZ {t:UV}(ha:PUV X e t)(hg:Gl X "len")(hm:X.mg "len"=none)(hs:↥(starEach [e] X.env=(false,eval e X.env)::starEach [] X.env))
  (hpl:↥((backTo pos<|starEach [] X.env).any (·.1)=false)):PU X (.Call (.Name "len" p) [e] [] pos) (lQ t):=
 fE (aR1 aK9 hg hm PySem.boot_len (aK4 ha aY8 hs) ac ac hs hpl) λσ H Q ⟨C,ρ,Q0,I,h,k⟩=>⟨C,ρ,_,I,h,λd ρ1 v H1 q f s r=>by
  cases e:oS d with
  | none=>simp only[e]at q
  | some l=>
   simp only[e]at q;obtain⟨a,vs,rfl,c,rs⟩:=r.seq e;exact⟨a,vs,rfl,c,k _ _ _ _ q f s (by rw[rs.length];exact yA)⟩⟩
theorem xH {x:Value}{T:String}{prog:Program}{A:Around}
  {P:(Result->Shared->Prop)->Shared->Prop} (hm:Meets (Builtin.«isinstance» ⟨[x,.type T],[]⟩) (λ_ R s=>P R s)) (h:P (λr s'=>match r with| .ok (.ret v)=>Q v s'| .ok _=>False| .error e=>E e s') s) :
  wpAny (model prog w) A (call (.builtin "isinstance") [x,.type T]) Q E s:=
 call_function_any kind_isinstance plain_isinstance entry_isinstance (args_isinstance _ _) (hm _ _ _ _ _ h)
theorem rep_ty {T:String}{v:V}(h:Rep K A H (.ty T) v):v= .ty T:=by simpa only[Rep]using h
def rIsi (K:PySem.W.Frag):List V->Hp->VK->Prop:=λxs H Q=> ∃x T k,xs=[x,.ty T]/\Q (.bl k) H/\
 ((∃i,x= .int i/\((T="int"/\k=true)\/((T="bool"\/T="tuple"\/T="list")/\k=false)))\/(∃c,x= .bl c/\(T="int"\/T="bool")/\k=true)\/
  (∃a ys,x= .ref a/\SqT K H a ys/\((T="tuple"/\k=true)\/((T="int"\/T="list")/\k=false)))\/(∃a ys,x= .ref a/\SqL K H a ys/\((T="list"/\k=true)\/((T="int"\/T="tuple")/\k=false))))
theorem tyT (T:String)(h:T="int"\/T="bool"\/T="tuple"\/T="list"):typeOf (.type T)=pure (.type "type"):=by
 rcases h with rfl|rfl|rfl|rfl<;>first|rfl|decide
theorem oV:jV X (.builtin "isinstance") (rIsi X.K):=by
 intro pins s σ H xs us Q I r h;obtain⟨x,T,k,rfl,q,h⟩:=h;obtain⟨u,w',rfl,rx,ry⟩:=vals2 r;have e:w'=Value.type T:=ry;subst e;rcases h with⟨i,rfl,h⟩| ⟨c,rfl,h,rfl⟩| ⟨a,ys,rfl,hs,h⟩| ⟨a,ys,rfl,hs,h⟩
 .obtain⟨t,rfl⟩:=rx;rcases h with⟨rfl,rfl⟩| ⟨h,rfl⟩
  .exact o8 (typeIs_int s i t) (tyT _ ae) PyProof.Rows.sub_int_int ⟨.bl true,H,I,rfl,q⟩
  .rcases h with rfl|rfl|rfl
   .exact xH (wL ac (tyT _ ae) PyProof.Rows.sub_int_bool) ⟨.bl false,H,I.tok _,rfl,q⟩
   .exact xH (wL ac (tyT _ ae) PyProof.Rows.sub_int_tuple) ⟨.bl false,H,I.tok _,rfl,q⟩
   .exact xH (wL ac (tyT _ ae) PyProof.Rows.sub_int_list) ⟨.bl false,H,I.tok _,rfl,q⟩
 .cases rx;rcases h with rfl|rfl
  .exact o8 (PySem.typeIs_bool s c) (tyT _ ae) PyProof.Rows.sub_bool_int ⟨.bl true,H,I,rfl,q⟩
  .exact o8 (PySem.typeIs_bool s c) (tyT _ ae) PyProof.Rows.sub_bool_bool ⟨.bl true,H,I,rfl,q⟩
 .cases rx;obtain⟨its,rv,p,hz⟩:=I.tuple hs;obtain⟨o,ho,hc,_⟩:=id p;rcases h with⟨rfl,rfl⟩| ⟨h,rfl⟩
  .exact o8 p.typeIs (tyT _ ae) PyProof.Rows.sub_tuple_tuple ⟨.bl true,H,I,rfl,q⟩
  .rcases h with rfl|rfl
   .exact xH (isinstance_false_tuple ac (tyT _ ae) PyProof.Rows.sub_tuple_int) ⟨⟨o,ho,hc⟩,.bl false,H,I.tok _,rfl,q⟩
   .exact xH (isinstance_false_tuple ac (tyT _ ae) PyProof.Rows.sub_tuple_list) ⟨⟨o,ho,hc⟩,.bl false,H,I.tok _,rfl,q⟩
 .cases rx;obtain⟨its,rv,p,hz⟩:=I.list hs;obtain⟨o,n,ho,hc,_⟩:=id p;rcases h with⟨rfl,rfl⟩| ⟨h,rfl⟩
  .exact o8 p.isList.typeIs (tyT _ ae) PyProof.Rows.sub_list_list ⟨.bl true,H,I,rfl,q⟩
  .rcases h with rfl|rfl
   .exact xH (isinstance_false_list ac (tyT _ ae) PyProof.Rows.sub_list_int) ⟨⟨o,ho,hc⟩,.bl false,H,I.tok _,rfl,q⟩
   .exact xH (isinstance_false_list ac (tyT _ ae) PyProof.Rows.sub_list_tuple) ⟨⟨o,ho,hc⟩,.bl false,H,I.tok _,rfl,q⟩
def aR7:List D->(B->Prop)->Prop:=g2 λd e Q=>match e with
 | .ty T=>(match d with
  | .int _=>if T="int" then Q (.pu<|.bl true)else if T="bool"\/T="tuple"\/T="list" then Q (.pu<|.bl false)else False
  | .bl _=>if T="int"\/T="bool" then Q (.pu<|.bl true)else False
  | .tup _=>if T="tuple" then Q (.pu<|.bl true)else if T="int"\/T="list" then Q (.pu<|.bl false)else False
  | .lst _=>if T="list" then Q (.pu<|.bl true)else if T="int"\/T="tuple" then Q (.pu<|.bl false)else False
  | _=>False)
 | _=>False
theorem zJ:tG X (.builtin "isinstance") aR7:=by
 intro A H ds vs Q0 Q hA r g k;obtain⟨d,e,v,w,rfl,rfl,rv,rw',g⟩:=bJ1 g r;have no: ∀{c:Bool},Q0 (.pu<|.bl c)->Q (.bl c) H:=λz=>k _ _ H z (.refl _) iH
 cases e with
 | ty T=>
  rw[rep_ty rw'];cases d with
  | int i=>
   rw[bJ rv]
   by_cases h1:T="int"
   .simp only[h1]at g;exact⟨_,oV,_,T,true,rfl,no g,.inl ⟨i,rfl,.inl ⟨h1,rfl⟩⟩⟩
   .by_cases h2:T="bool"\/T="tuple"\/T="list"
    .simp only[h1,h2,dF]at g;exact⟨_,oV,_,T,false,rfl,no g,.inl ⟨i,rfl,.inr ⟨h2,rfl⟩⟩⟩
    .simp only[h1,h2,dF]at g
  | bl c=>
   rw[pO rv]
   by_cases h1:T="int"\/T="bool"
   .simp only[h1]at g;exact⟨_,oV,_,T,true,rfl,no g,.inr<|.inl ⟨c,rfl,h1,rfl⟩⟩
   .simp only[h1,dF]at g
  | tup l=>
   obtain⟨a,vs,rfl,c,rs⟩:=rv.one
   by_cases h1:T="tuple"
   .simp only[h1]at g;exact⟨_,oV,_,T,true,rfl,no g,.inr<|.inr<|.inl ⟨a,vs,rfl,c,.inl ⟨h1,rfl⟩⟩⟩
   .by_cases h2:T="int"\/T="list"
    .simp only[h1,h2,dF]at g;exact⟨_,oV,_,T,false,rfl,no g,.inr<|.inr<|.inl ⟨a,vs,rfl,c,.inr ⟨h2,rfl⟩⟩⟩
    .simp only[h1,h2,dF]at g
  | lst l=>
   obtain⟨a,vs,rfl,c,rs⟩:=rv.one
   by_cases h1:T="list"
   .simp only[h1]at g;exact⟨_,oV,_,T,true,rfl,no g,.inr<|.inr<|.inr ⟨a,vs,rfl,SqL.of c,.inl ⟨h1,rfl⟩⟩⟩
   .by_cases h2:T="int"\/T="tuple"
    .simp only[h1,h2,dF]at g;exact⟨_,oV,_,T,false,rfl,no g,.inr<|.inr<|.inr ⟨a,vs,rfl,SqL.of c,.inr ⟨h2,rfl⟩⟩⟩
    .simp only[h1,h2,dF]at g
  | _=>exact(show False from g).elim
 | _=>exact(show False from g).elim
theorem a80 {T:String}(hg:Gl X x)(hm:X.mg x=none)(hv:bootBuiltins x=some (.type T))(hn:⇑(x≠"__name__"))(hd:⇑(x∪0)):PU X (.Name x p) (uC<|.ty T):=
 aL1 (bV0 (v:= .ty T) hg hm hv rfl hn hd) λA H=>by simp only[Rep]
nonrec def init (N:List Str)(ds:List D):Ev:=ds.map (λd=>some (.pu d))++replicate (N.length-ds.length) none
theorem u5 {ds:List D}{z:B}(h:(init N ds)[i]? =some (some z)): ∃d,z= .pu d/\ds[i]? =some d:=by
 unfold init at h
 by_cases hi:i<ds.length
 .rw[rC<|by simpa using hi,bP]at h
  cases e:ds[i]? with
  | none=>rw[e]at h;cases h
  | some d=>rw[e]at h;cases h;exact⟨d,rfl,rfl⟩
 .rw[vV<|by simpa using hi,nV]at h
  split at h<;>cases h
theorem b63 {ds:List D}{vs:List V}(hA: ∀a,A a->H a≠none)(r:aV K A H ds vs):EOk K ⟨H,A⟩ (init N ds) (L2.start N vs) H:=by
 have own: ∀a,¬Own (init N ds) (L2.start N vs) a:=λa ⟨i,l,h1,_⟩=>by
  obtain⟨d,e,_⟩:=u5 h1;cases e
 refine⟨?_,λi d h=> ?_,λi l h=> ?_,λi j l l' a h=> ?_,λi l h=> ?_,.refl _,hA⟩
 .unfold init L2.start;simp[r.length]
 .obtain⟨d',e,e2⟩:=u5 h;cases e;obtain⟨v,h1,h2⟩:=r.get e2;refine⟨v,?_,h2.mono<|.sub (.refl _) λa z=>z.elim id λz=>absurd z (own a)⟩
  unfold L2.start;have hv:i<vs.length:=(dN.mp h1).1;rw[rC<|by simpa using hv,bP,h1]
  rfl
 .obtain⟨d',e,_⟩:=u5 h;cases e
 .obtain⟨d',e,_⟩:=u5 h;cases e
 .obtain⟨d',e,_⟩:=u5 h;cases e
theorem aM0 {K:PySem.W.Frag}{ps:List Str}(F:Fun K x qual st f fd)(S:bN N ps (aI st))
  (len: ∀ds Q,φ ds Q->ds.length=ps.length)
  (body: ∀(cdv:Value) (A:Around) (outer:List Env) (s:Shared) (H:Hp) (E:XK),gR k (A.deeper<|envOfC qual (aI st) s.heap.objs.size f cdv)->
   ∃t,mP (sM CX0 P w K mg base N qual (aI st) f cdv A outer s H E).nox (eY st) t/\ ∀ds Q,φ ds Q->t {Q with} (init N ds)) :
  pL P w K mg base CX0 (k+1) f fd ps (spP K φ):=by
 refine F.ok S (λvs H Q E h=> ?_) (λcdv A outer s H vs Q E hr h=> ?_)
 .obtain⟨A,ds,Q0,_,r,h,_⟩:=h;rw[<-r.length];exact len ds Q0 h
 .obtain⟨A',ds,Q0,hA,r,h,q⟩:=h;obtain⟨t,ht,hq⟩:=body cdv A outer s H E hr;refine⟨_,ht,⟨H,A'⟩,init N ds,_,b63 hA r,hq ds Q0 h,⟨λρ σ H' z I=> ?_,λb v H' z s r=>q b v H' z s r,λ_ _ _ z=>z.elim,λ_ _ _ z=>z.elim⟩⟩
  exact q _ _ H' z I.ext (show Rep _ _ _ _ _ by simp only[Rep])
end
structure Fn (P:Program)(w:World)(K:PySem.W.Frag)(mg:Str->Option Value)(base:Heap)(x:Str)(ps:List Str)(k:Nat)(φ:Φ):Prop where
 ex: ∃f fd,pL P w K mg base CX0 k f fd ps (spP K φ)/\Binds K fd ps []/\keepIn K (.ref f)=true/\mg x=some (.ref f)
section
variable {X:Cx}{e:Expr}{es:List Expr}{pos:Pos}
theorem b64 {ps:List Str}{t:UA}(F:Fn X.prog X.w X.K X.mg X.base x ps k φ)(hr:gR k' X.A)(hk:k<=k')(hg:Gl X x)(ha:PUA X (e::es) t)(hdb:⇑(x∪0))
  (he:↥(starEach (e::es) X.env=(false,eval e X.env)::starEach es X.env)) (hpl:↥((backTo pos<|starEach es X.env).any (·.1)=false)):PU X (.Call (.Name x p) (e::es) [] pos) (aX φ t):=by
 obtain⟨f,fd,G,b,kp,m⟩:=F.ex;exact bW9 (E:=E0) G (hr.mono hk) hg m kp b (λ_ _ _ _ _ _ _ h=>h.elim) ha hdb he hpl
theorem aM1 {ps:List Str}(F:Fn X.prog X.w X.K X.mg X.base x ps k φ)(hr:gR k' X.A)(hk:k<=k')(hg:Gl X x)(hdb:⇑(x∪0)):PU X (.Call (.Name x p) [] [] pos) (aX φ aP):=by
 obtain⟨f,fd,G,b,kp,m⟩:=F.ex;exact bH9 (E:=E0) G (hr.mono hk) hg m kp b (λ_ _ _ _ _ _ _ h=>h.elim) hdb
theorem il (hn:X.N.length=n)(h:i<n): ∀pins σ H s,Inv X pins σ H s->i<σ.length:=λ_ _ _ _ I=>by rw[I.len,hn];exact h
end
theorem Fn.mk' {ps:List Str}(F:Fun K x qual st f fd)(m:mg x=some (.ref f))(b:Binds K fd ps [])(S:bN N ps (aI st))
  (len: ∀ds Q,φ ds Q->ds.length=ps.length) {t:US}
  (der: ∀(cdv:Value) (A:Around) (outer:List Env) (s:Shared) (H:Hp) (E:XK),gR k (A.deeper<|envOfC qual (aI st) s.heap.objs.size f cdv)->mP (sM CX0 P w K mg base N qual (aI st) f cdv A outer s H E).nox (eY st) t)
  (rd: ∀ds Q,φ ds Q->t {Q with} (init N ds)):Fn<$>x ps (k+1) φ:=
 ⟨f,fd,aM0 F S len λcdv A outer s H E hr=>⟨t,der cdv A outer s H E hr,rd⟩,b,F.kp,m⟩
def aR8:Φ:=λds Q=> ∃ns:List Int,ds=[.rol<|ns.map .int]/\ns.length<=63/\Q (.pu<|.bl true)
theorem aG1 {K:PySem.W.Frag}{A:AS}{H:Hp}: ∀ns:List Int,aV K A H (ns.map .int) (ns.map V.int)
 | []=> .nil
 | n::ns=> .cons (by simp only[Rep]) (aG1 ns)
theorem law_sp {H:Hp}{ns:List Int}(hl:ns.length<=63)(hS:SqL K H a (ns.map V.int)):spP K aR8 [.ref a] H (λv _=>v= .bl true) (λ_ _ _=>False):=by
 refine⟨λ_=>False,[.rol<|ns.map .int],λb=>b= .pu (.bl true),λ_ z=>z.elim,.cons ?_ .nil,⟨ns,rfl,hl,rfl⟩,λb v H' q s r=> ?_⟩
 .simp only[Rep];exact⟨a,_,rfl,hS.imp (λz=>⟨λz=>z,z⟩) id,aG1 ns⟩
 .subst q;have r':Rep K (λ_=>False) H' (.bl true) v:=r
  exact pO r'
theorem walkM {l:PySem.W.OpenLaw}{XP:(Str->Option Value)->Heap->Prop}{d:DefRec}{K:Params->PySem.W.Frag}(hn:l.most=some 63)(hdf:d.params.defaults=[])(hr:gR k callerA)
  (hY: ∀(w:World) (h:Heap),YP w h->(K w.params).In h)
  (F: ∀(w:World) (mg:Str->Option Value) (fa:Addr) (h:Heap),(K w.params).In h->h.Ns mainGlobals mg->mg d.name=some (.ref fa)->
   ∃fd:FuncData,(∀(s:Shared) (u:Value),BindsTo s fd ⟨[u],[]⟩ [(x,u)])/\ ∀base:Heap,(K w.params).In base->base.Ns mainGlobals mg->pL l.prog w (K w.params) mg base CX0 k fa fd [x] (spP (K w.params) aR8)) :
  PySem.W.WalkO q loose XP YP l.row.toRowW d [] (λf vs=>PySem.call f vs):=
 L2.walk_of hn ac hdf hr hY F (λ_ _ a ns hl _ hS=>law_sp hl hS) λ_ _ _ _ _ z=>z
end M
section
namespace L2
nonrec def bF (X:Cx)(N:List Str)(scope:Scope)(cl:List (Str×Addr))(C:Addr)(s:Shared)(H:Hp)(fp:List Addr)(pins:List (Addr×Obj)):Cx where
 prog:=X.prog
 w:=X.w
 K:=X.K
 mg:=X.mg
 base:=X.base
 A:=X.A
 N:=N
 s₀:=s
 H₀:=H
 env:=compEnvC scope cl C X.env
 outer:=X.stack
 stack:=X.stack
 ex:=fp
 fn:=λx=>scope.names.lookup x==some .cell
 calm:=X.calm
 pn:=X.pn++pins
 xe:=λ_ _=>False
theorem sO {env:Env}: ∀(names:List (Str×NameKind)),(∀y∈names,y.2= .free-> ∃c,env.cells.lookup y.1=some c)-> ∀cs:List (Str×Addr),(∀x c,cs.lookup x=some c->env.cells.lookup x=some c)->
  ∃cl,(forIn names cs fun(x:Str×NameKind) r=>(do if(x.2==NameKind.free)=true then do let c<-cellOf env x.1;pure (ForInStep.yield ((x.1,c)::r))else pure (ForInStep.yield r)):Sem (List<|Str×Addr))=pure cl/\
   (∀x c,cl.lookup x=some c->env.cells.lookup x=some c)/\(∀x c,cs.lookup x=some c-> ∃c',cl.lookup x=some c')/\ ∀y∈names,y.2= .free-> ∃c,cl.lookup y.1=some c
 | [],_,cs,hcs=>⟨cs,rfl,hcs,λx c h=>⟨c,h⟩,λy hy=>by simp at hy⟩
 | (n,k)::r,h,cs,hcs=>by
  have hr: ∀y∈r,y.2= .free-> ∃c,env.cells.lookup y.1=some c:=λy hy=>h y (aU _ hy)
  by_cases hk:k= .free
  .subst hk;obtain⟨c,hc⟩:=h (n,.free) aL rfl;have e1:cellOf env n=pure c:=by unfold cellOf;rw[hc]
   have hcs': ∀x c',List.lookup x ((n,c)::cs)=some c'->env.cells.lookup x=some c':=λx c' q=>by
    rw[cF]at q;split at q
    .rename_i e
     have:x=n:=by exists e
     subst this;cases q;exact hc
    .exact hcs x c' q
   obtain⟨cl,h1,h2,h3,h4⟩:=sO r hr ((n,c)::cs) hcs';have hn: ∃c',cl.lookup n=some c':=h3 n c (by rw[cF];simp)
   refine⟨cl,?_,h2,λx c' q=> ?_,λy hy hf=> ?_⟩
   .rw[rT];rw[e1];exact h1
   .by_cases z:x=n
    .subst z;exact hn
    .refine h3 x c' ?_
     rw[cF];have:(x==n)=false:=by exists z
     rw[this];exact q
   .rcases aG.mp hy with rfl|hy
    .exact hn
    .exact h4 y hy hf
  .obtain⟨cl,h1,h2,h3,h4⟩:=sO r hr cs hcs;refine⟨cl,?_,h2,h3,λy hy hf=> ?_⟩
   .rw[rT];have:(k==NameKind.free)=false:=by exists hk
    rw[this];exact h1
   .rcases aG.mp hy with rfl|hy
    .exact absurd hf hk
    .exact h4 y hy hf
structure d5 (env:Env)(XN N:List Str)(cap:List (Option Nat))(scope:Scope):Prop where
 kind:scope.kind= .function
 owns: ∀y∈scope.names,y.2= .cell->scope.names.lookup y.1=some .cell
 freeK: ∀y∈scope.names,y.2= .free->scope.names.lookup y.1=some .free
 names: ∀y∈scope.names,y.2= .local->scope.names.lookup y.1=some .local
 frees: ∀y∈scope.names,y.2= .free->env.kindOf y.1=some .cell\/env.kindOf y.1=some .free
 caps: ∀(i j:Nat) (x:Str),N[i]? =some x->cap[i]? =some (some j)->XN[j]? =some x/\(x,NameKind.free)∈scope.names/\scope.names.lookup x=some .free
 len:cap.length=N.length
nonrec def tJ (σ:L2.St)(cap:List (Option Nat))(last:Nat)(D:Addr):L2.St:=(cap.map λc=>c.bind λj=>(σ[j]?).join).set last (some<|.ref D)
theorem u6 {env:Env}{x:Str}{k:NameKind}: ∀{names:List (Str×NameKind)},names.lookup x=some k->
  (names.map fun(n,k)=>if(k==NameKind.free&&env.scope.kind== .function&&env.kindOf n==some .cell)then(n,NameKind.cell)else(n,k)).lookup x=
   some (if(k==NameKind.free&&env.scope.kind== .function&&env.kindOf x==some .cell)then NameKind.cell else k)
 | [],h=>by simp at h
 | (n,k')::r,h=>by
  rw[bX];rw[cF]at h;right
  by_cases e:(x==n)=true
  .have e':x=n:=by exists e
   subst e';rw[e]at h;cases h;split<;>simp
  .have e2:(x==n)=false:=by exists e
   rw[e2]at h;have ih:=u6 (env:=env) h;split
   .rw[cF,e2];exact ih
   .rw[cF,e2];exact ih
theorem jX {env:Env}{x:Str}{k:NameKind}: ∀{names:List (Str×NameKind)},(names.map fun(n,k)=>if(k==NameKind.free&&env.scope.kind== .function&&env.kindOf n==some .cell)then(n,NameKind.cell)else(n,k)).lookup x=some k->
  ∃k',names.lookup x=some k'/\(x,k')∈names/\(k=k'\/k'= .free)
 | [],h=>by simp at h
 | (n,k')::r,h=>by
  rw[bX]at h;dsimp only at h
  by_cases e:(x==n)=true
  .have e':x=n:=by exists e
   subst e';refine⟨k',by rw[cF,e],aL,?_⟩
   split at h
   .rename_i c
    refine .inr ?_
    simp only[bK,jL]at c;exact c.1.1
   .rw[cF,e]at h;cases h;exact .inl rfl
  .have e2:(x==n)=false:=by exists e
   have h':(r.map fun(n,k)=>if(k==NameKind.free&&env.scope.kind== .function&&env.kindOf n==some .cell)then(n,NameKind.cell)else(n,k)).lookup x=some k:=by
    split at h
    .rw[cF,e2]at h;exact h
    .rw[cF,e2]at h;exact h
   obtain⟨k2,h1,h2,h3⟩:=jX h';exact⟨k2,by rw[cF,e2];exact h1,aU _ h2,h3⟩
theorem zK {x:Str}{c:Addr}: ∀(names:List (Str×NameKind)) (h:Heap) (acc:List (Str×Addr)),(cellsFrom h.objs.size names acc).lookup x=some c->
  acc.lookup x=some c\/(h.objs.size<=c/\(x,NameKind.cell)∈names/\(pushCells h names).IsCell c none)
 | [],_,_,e=> .inl e
 | (y,k)::r,h,acc,e=>by
  unfold cellsFrom at e;unfold pushCells
  by_cases hk:(k==NameKind.cell)=true
  .rw[a8 hk]at e⊢;have hk':k= .cell:=by exists hk
   have sz:(h.push {cls:= .type "cell",data:= .cell none}).objs.size=h.objs.size+1:=dD ..;rw[<-sz]at e;rcases zK r _ _ e with q| ⟨q1,q2,q3⟩
   .rw[cF]at q;split at q
    .rename_i e1
     have:x=y:=by exists e1
     subst this;cases q;exact .inr ⟨aC _,by rw[hk'];exact aL,⟨_,xD _ _ _ _<|aY _ rfl,rfl⟩⟩
    .exact .inl q
   .exact .inr ⟨ad,aU _ q2,q3⟩
  .rw[a7 hk]at e⊢;rcases zK r h acc e with q| ⟨q1,q2,q3⟩
   .exact .inl q
   .exact .inr ⟨q1,aU _ q2,q3⟩
theorem zL: ∀(names:List (Str×NameKind)) (n:Nat) (acc:List (Str×Addr)),(∀x c,acc.lookup x=some c->c<n)->(∀x y c,acc.lookup x=some c->acc.lookup y=some c->x=y)->
  ∀x y c,(cellsFrom n names acc).lookup x=some c->(cellsFrom n names acc).lookup y=some c->x=y
 | [],_,_,_,hi=>hi
 | (z,k)::r,n,acc,hl,hi=>by
  unfold cellsFrom
  by_cases hk:(k==NameKind.cell)=true
  .rw[a8 hk];refine zL r (n+1) _ (λx c e=> ?_) (λx y c e1 e2=> ?_)
   .rw[cF]at e;split at e
    .cases e;exact jC n
    .exact cW (hl x c e)
   .rw[cF]at e1 e2;split at e1
    .rename_i q1
     cases e1;split at e2
     .rename_i q2
      exact(by simpa using q1:x=z).trans (by simpa using q2:y=z).symm
     .exact absurd (hl y _ e2) (cZ _)
    .split at e2
     .cases e2;exact absurd (hl x _ e1) (cZ _)
     .exact hi x y c e1 e2
  .rw[a7 hk];exact zL r n acc hl hi
theorem nQ {x:Str}{c:Addr}: ∀(names:List (Str×NameKind)) (n:Nat) (acc:List (Str×Addr)),((x,NameKind.cell)∈names\/ ∀c,acc.lookup x=some c->n<=c)->(cellsFrom n names acc).lookup x=some c->n<=c
 | [],_,_,h,e=>by
  rcases h with h|h
  .simp at h
  .exact h c e
 | (z,k)::r,n,acc,h,e=>by
  unfold cellsFrom at e
  by_cases hk:(k==NameKind.cell)=true
  .rw[a8 hk]at e;rcases h with h|h
   .rcases aG.mp h with h|h
    .cases h;have:n<=c:=by
      by_cases q: ∃c',(cellsFrom (n+1) r ((x,n)::acc)).lookup x=some c'/\(x,NameKind.cell)∈r
      .obtain⟨c',e',m⟩:=q;have:=nQ r (n+1) _ (.inl m) e
       lia
      .have nm:(x,NameKind.cell) ∉ r:=λm=>q ⟨c,e,m⟩
       have:=cells_keep r (n+1) ((x,n)::acc) nm;rw[this]at e;simp at e;exact le_of_eq e
     exact this
    .have:=nQ r (n+1) _ (.inl h) e
     lia
   .by_cases q:(x,NameKind.cell)∈r
    .have:=nQ r (n+1) _ (.inl q) e
     lia
    .have:=cells_keep r (n+1) ((z,n)::acc) q;rw[this,cF]at e;split at e
     .cases e;exact aC _
     .exact h c e
  .rw[a7 hk]at e;refine nQ r n acc (h.imp (λm=> ?_) id) e
   rcases aG.mp m with m|m
   .cases m;exact absurd ac hk
   .exact m
where
 cells_keep {x:Str}: ∀(names:List (Str×NameKind)) (n:Nat) (acc:List (Str×Addr)),(x,NameKind.cell) ∉ names->(cellsFrom n names acc).lookup x=acc.lookup x
 | [],_,_,_=>rfl
 | (z,k)::r,n,acc,h=>by
  unfold cellsFrom
  by_cases hk:(k==NameKind.cell)=true
  .rw[a8 hk];have hk':k= .cell:=by exists hk
   rw[cells_keep r (n+1) _ λm=>h (aU _ m),cF]
   split
   .rename_i e
    have:x=z:=by exists e
    subst this;exact absurd (by rw[hk'];exact aL) h
   .rfl
  .rw[a7 hk];exact cells_keep r n acc λm=>h (aU _ m)
theorem cells_keep (names:List (Str×NameKind))(n:Nat)(acc:List (Str×Addr))(h:(x,NameKind.cell) ∉ names):(cellsFrom n names acc).lookup x=acc.lookup x:=nQ.cells_keep names n acc h
theorem aM2 {M:Model}{globals:Addr}{env0:Env}{Q:Env->Shared->Prop}
  (hQ:Q {scope:=scope,locals:=s.heap.objs.size,globals:=globals,cells:=cellsFrom (s.heap.objs.size+1) scope.names cl,qual:=qual,func:=none,code:=env0.code,frame:=env0.frame,builtins:=env0.builtins} {s with heap:=pushCells (s.heap.push {cls:= .type "dict",data:= .dict #[]}) scope.names}) :
  wpAny M A (newFunctionEnv scope globals cl [] qual none .none<|some env0) Q E s:=by
 simp only[newFunctionEnv,Option.isSome_some,fS];refine a6 (wpAny_alloc ?_);refine a6 (wpAny_layCells _ (λname kind cells=>by cases hkc:kind==NameKind.cell<;>simp[hkc]) _ _ _ _ ?_)
 rw[show({s with heap:=s.heap.push {cls:= .type "dict",data:= .dict #[]}}:Shared).heap.objs.size=s.heap.objs.size+1 from dD ..]
 exact a6 (aA<|aA hQ)
section
variable {X:Cx}{pins:List (Addr×Obj)}{σ:L2.St}{H:Hp}{s:Shared}{N:List Str}{cap:List (Option Nat)}{scope:Scope}
theorem aR9 {D:Addr}{cl0:List (Str×Addr)}{h1:Heap}{m0:Str->Option Value}{tk:Nat}(S:d5 X.env X.N N cap scope)(I:Inv X pins σ H s)(hf: ∀b∈fp,zF X pins H b)(hfs: ∀b∈fp,b<s.heap.objs.size)
  (hcl: ∀x c,cl0.lookup x=some c->X.env.cells.lookup x=some c) (hcl2: ∀y∈scope.names,y.2= .free-> ∃c,cl0.lookup y.1=some c) (hN: ∀x,N[last]? =some x->scope.names.lookup x=none)
  (hns:h1.Ns s.heap.objs.size m0) (hk: ∀b o,s.heap.get? b=some o->h1.get? b=some o)
  (c1: ∀x c,cl.lookup x=some c->cl0.lookup x=some c\/(s.heap.objs.size<c/\h1.IsCell c none)) (c2: ∀x y c,cl.lookup x=some c->cl.lookup y=some c->x=y)
  (c3: ∀x,(x,NameKind.free)∈scope.names->cl.lookup x=cl0.lookup x) (c4: ∀x,scope.names.lookup x=some .cell-> ∃c,cl.lookup x=some c) (c5: ∀x c,scope.names.lookup x=some .cell->cl.lookup x=some c->s.heap.objs.size<=c) :
  Inv (bF X N scope cl s.heap.objs.size s H fp pins) [] (tJ σ cap last D) H {s with heap:=h1,toks:=tk}:=by
 have sz:X.base.objs.size<=s.heap.objs.size:=aN I.ok.bsz I.sz;have kindF: ∀x,(bF X N scope cl s.heap.objs.size s H fp pins).env.kindOf x=some .cell\/(bF X N scope cl s.heap.objs.size s H fp pins).env.kindOf x=some .free->(x,NameKind.free)∈scope.names\/scope.names.lookup x=some .cell:=λx h=>by
  have: ∃k,(k= .cell\/k= .free)/\(relabel scope X.env).names.lookup x=some k:=by
   rcases h with h|h
   .exact⟨_,.inl rfl,h⟩
   .exact⟨_,.inr rfl,h⟩
  obtain⟨k,hk,h⟩:=this;obtain⟨k',h1,h2,h3⟩:=jX h;rcases h3 with rfl|rfl
  .rcases hk with rfl|rfl
   .exact .inr (S.owns _ h2 rfl)
   .exact .inl h2
  .exact .inl h2
 have cne: ∀x c,cl.lookup x=some c-> ∀b∈fp,c≠b:=λx c h b hb=>by
  rcases c1 x c h with q| ⟨q,_⟩
  .exact(hf b hb).2.2.2.2.1 x c (hcl x c q)
  .exact λz=>by subst z;exact absurd (Nat.lt_trans q<|hfs c hb) (cZ _)
 refine⟨⟨I.ok.mod,S.kind,I.ok.glob,I.ok.blt,aC _,c2,λx h=> ?_,λx c h e=> ?_,I.ok.hd,I.ok.frames,.inl rfl,λb hb=> ?_,I.bs,sz,λb o e hb=> ?_,λb hb=> ?_,I.stack,I.stkFree⟩,
  rfl,I.bare,Un.kept hk,⟨m0,hns,λi x v e1 e2 e3=> ?_⟩,λx c h=> ?_,I.hok.fresh<|aC _,λx c h=> ?_,λp hp=> ?_,I.hok.kept hk,?_⟩
 .rcases kindF x h with q|q
  .obtain⟨c,e⟩:=hcl2 _ q rfl;exact⟨c,(c3 x q).trans e⟩
  .exact c4 x q
 .exact c5 x c (by simpa using(show(scope.names.lookup x==some NameKind.cell)=true from h)) e
 .exact⟨aO<|hfs b hb,λx c h=>cne x c h b hb⟩
 .rcases(hf b hb).2.2.2.1 with z|z
  .exact I.ok.noex b o e z
  .have:=aH e;exact absurd (b7 this<|aN I.ok.bsz z) (cZ _)
 .intro z;rcases aG.mp (I.stkSub b z)with z|z
  .exact(hf b hb).2.1 z
  .exact(hf b hb).2.2.1 z
 .have e1':N[i]? =some x:=e1;unfold tJ at e2
  by_cases hl:last=i
  .subst hl;have z:=hN x e1';rcases e3 with e3|e3|e3
   .obtain⟨k',h1,_⟩:=jX (show(relabel scope X.env).names.lookup x=_ from e3)
    rw[z]at h1;cases h1
   .obtain⟨k',h1,_⟩:=jX (show(relabel scope X.env).names.lookup x=_ from e3)
    rw[z]at h1;cases h1
   .obtain⟨k',h1,_⟩:=jX (show(relabel scope X.env).names.lookup x=_ from e3)
    rw[z]at h1;cases h1
  .rw[M.get_set_ne hl,bP]at e2;cases e4:cap[i]? with
   | none=>rw[e4]at e2;cases e2
   | some c=>
    rw[e4]at e2;cases c with
    | none=>cases e2
    | some j=>
     have e2':(σ[j]?).join=some v:=by exists e2
     have e5:σ[j]? =some (some v):=by
      cases q:σ[j]? with
      | none=>rw[q]at e2';cases e2'
      | some w=>rw[q]at e2';cases w with
       | none=>cases e2'
       | some w'=>cases e2';rfl
     obtain⟨a1,a2,a3⟩:=S.caps i j x e1' e4;have kx:=S.frees _ a2 rfl;obtain⟨m,hn,hl'⟩:=I.loc;have vis:Vis X.env.scope x:=by
      rcases kx with kx|kx
      .exact .inr (.inl kx)
      .exact .inr (.inr kx)
     obtain⟨u,r,l⟩:=hl' j x v a1 e5 vis;refine⟨u,r,.inr ⟨?_,?_⟩⟩
     .have q:=u6 (env:=X.env) a3;show(relabel scope X.env).names.lookup x=_\/(relabel scope X.env).names.lookup x=_;unfold relabel;right;rw[q];split
      .exact .inl rfl
      .exact .inr rfl
     .rcases l with⟨l,_⟩| ⟨_,c,hc,hcell⟩
      .rcases kx with kx|kx<;>·rw[kx]at l;cases l
      .obtain⟨c',hc'⟩:=hcl2 _ a2 rfl;have:=hcl x c' hc';rw[hc]at this;cases this;obtain⟨o,ho,hd⟩:=hcell;exact⟨c,(c3 x a2).trans hc',o,hk _ _ ho,hd⟩
 .rcases c1 x c h with q| ⟨_,q⟩
  .obtain⟨v,o,ho,hd⟩:=I.cell x c (hcl x c q);exact⟨v,o,hk _ _ ho,hd⟩
  .exact⟨_,q⟩
 .rcases c1 x c h with q| ⟨q,_⟩
  .exact I.freeC x c (hcl x c q)
  .exact I.hok.fresh (jI q)
 .have hp':p∈X.pn++pins:=by
   have:p∈(X.pn++pins)++[]:=hp
   exists this
  obtain⟨a1,a2,a3,a4,a5⟩:=I.pin p hp';refine⟨hk _ _ a1,a2,aO<|aH a1,λz=> ?_,a5⟩
  rcases aG.mp (I.stkSub p.1 z)with z|z
  .exact a3 z
  .exact a4 z
 .unfold tJ;rw[cS,aK];exact S.len
theorem aG2 {σ':L2.St}{H':Hp}{h2:Heap}{pins':List (Addr×Obj)}(I:Inv X pins σ H s)(hf: ∀b∈fp,zF X pins H b)(hC:s.heap.objs.size<=C)
  (I':Inv (bF X N scope cl C s H fp pins) pins' σ' H' s') (hs:SameBut C s'.heap h2):Inv X pins σ H' {s' with heap:=h2}:=by
 have nC: ∀b o,s.heap.get? b=some o->b≠C:=λb o e z=>by
  subst z;exact absurd (b7 (aH e) hC) (cZ _)
 have get: ∀b,b≠C->h2.get? b=s'.heap.get? b:=λb hb=>hs.2 b hb
 have U:=I'.base;have u:Un (frs X.stack) fp H H' s.heap h2:=by
  refine⟨λb o e n h1 hx=> ?_,λb o e n h1 hx=> ?_,U.free,λb o e hx=> ?_,U.tups,U.frzs,U.tbls⟩
  .rw[get b<|nC b o e];exact U.keep b o e n h1 hx
  .rw[get b<|nC b o e];exact U.slot b o e n h1 hx
  .rw[get b<|nC b o e];exact U.there b o e hx
 have fC:H' C=none:=I'.free;have hok:HOk X.prog X.w H' h2:=λa o e=>by
  have na:a≠C:=λz=>by subst z;rw[fC]at e;cases e
  refine(I'.hok a o e).stay (λb u hb q=> ?_) (λ_ q=>q) λ_ _ q=>q
  have nb:b≠C:=by
   rcases hb with rfl|hb
   .exact na
   .exact λz=>by subst z;rw[fC]at hb;cases hb
  rw[get b nb];exact q
 obtain⟨hh,gg,dd,tt,oo⟩:=s';have eo:oo=s.os:=I'.os;subst eo;have fin:=I.call (h':=h2) (g':=gg) (d':=dd) (t':=tt) (ch:=fp) u hok I'.bare λb hb=>⟨(hf b hb).2.2.2.1,(hf b hb).2.1,(hf b hb).2.2.2.2.1,(hf b hb).2.2.2.2.2⟩
 exact fin
end
def zM (e:Expr)(d:Nat)(target:Expr)(p0:Pos)(ifs:List Expr)(em:Sem Unit)(it acc:Value)(env:Env):Sem Fin:=do
 standAt p0
 match<-pyNext it with
 | none=>pure (.done .next)
 | some v=>
  letOwnedTupleGo target it v
  assign target env v
  let mut ok:=true
  for c in ifs do
   if ok then ok<-isTrue c env (eval c env)
  if ok then em
  again (.compLoop e d it acc env)
theorem u7 {prog:Program}{w:World}{A:Around}{R:Result->Shared->Prop}{s:Shared}{elt target:Expr}{gens:List Comprehension}{ifs:List Expr}{scope:Scope}{pos p0:Pos}{d:Nat}{it acc:Value}{env:Env}{em:Sem Unit}(I:Nat->Shared->Prop)
  (hturn:compTurn (.ListComp elt gens scope pos) d it acc env=zM (.ListComp elt gens scope pos) d target p0 ifs em it acc env)
  (turn: ∀n s,I n s->wpAny (model prog w) A (pyNext it) (λr s₁=>match r with
   | none=>R (.ok .next) s₁
   | some v=>wpAny (model prog w) A (letOwnedTupleGo target it v) (λ_ s₂=>wpAny (model prog w) A (assign target env v) (λ_ s₂=>
     wpAny (model prog w) A (forIn ifs true λc r=>if r=true then do let ok<-isTrue c env (eval c env);pure (ForInStep.yield ok)else pure (ForInStep.yield r)) (λok s₃=>
      if ok=true then wpAny (model prog w) A em (λ_ s₅=> ∃m,m<n/\I m s₅) (notedBy (model prog w) A env λe s'=>R (.error e) s') s₃
      else ∃m,m<n/\I m s₃) (notedBy (model prog w) A env λe s'=>R (.error e) s') s₂) (notedBy (model prog w) A env λe s'=>R (.error e) s') s₂) (notedBy (model prog w) A env λe s'=>R (.error e) s') s₁) (notedBy (model prog w) A env λe s'=>R (.error e) s') s)
  (n:Nat) (h:I n s):codeAny (model prog w) A (.compLoop (.ListComp elt gens scope pos) d it acc env) R s:=by
 refine codeAny_loop rfl I (λn s hI=> ?_) n h
 refine wpAny_noted ?_
 rw[hturn];refine a6 (rY<|a6<|aS (turn n s hI) (λr s₁ h₁=> ?_) λ_ _ h'=>h')
 cases r with
 | none=>exact aA h₁
 | some v=>
  refine a6 (aS h₁ (λ_ s₂ h₂=>a6 (aS h₂ (λ_ s₂ h₂=>a6 (aS h₂ (λok s₃ h₃=> ?_) λ_ _ h'=>h')) λ_ _ h'=>h')) λ_ _ h'=>h')
  cases ok with
  | false=>exact aA ⟨rfl,h₃⟩
  | true=>exact a6 (aS h₃ (λ_ s₅ h₅=>aA ⟨rfl,h₅⟩) λ_ _ h'=>h')
def PTs (X:Cx)(ifs:List Expr)(t:TT):Prop:=
 ∀(pins:List (Addr×Obj)) (s:Shared) (σ:L2.St) (H:Hp) (Q:Bool->Hp->Prop),Inv X pins σ H s->t σ H Q->
  X∩(forIn ifs true λc r=>if r=true then do let ok<-isTrue c X.env (eval c X.env);pure (ForInStep.yield ok)else pure (ForInStep.yield r)) (TP X pins σ Q) X.xe s
theorem bX7 {X:Cx}:PTs X [] (λ_ H Q=>Q true H):=λpins s σ H Q I h=>wpAny_tests_nil ⟨H,I,h⟩
theorem bX8 {X:Cx}{t:TT}(h:PT X c t):PTs X [c] t:=λpins s σ H Q I q=>wpAny_tests_one (h pins s σ H Q I q)
def a81 (cap:List (Option Nat))(last:Nat)(wi:TI)(g:TG)(tt:TT)(tem:Addr->L2.St->Hp->(L2.St->Hp->Prop)->Prop):TE:=λσ H Q=>wi σ H λJ H1=> ∀D,H1 D=none-> ∃W:Nat->Nat->L2.St->Hp->Prop,(∃m,W 0 m (tJ σ cap last D)<|upd H1 D<|.lst [])/\ ∀i m σ' H',W i m σ' H'->
 (J.stop i H'/\Q (.ref D) H')\/(J.go i H'/\ ∃Nx:L2.St->Hp->Prop,(∀σ2 H2,Nx σ2 H2-> ∃m',m'<m/\W (i+1) m' σ2 H2)/\ ∀x H2,J.yld i H' x H2->g x σ' H2 λσ3 H3=>tt σ3 H3 λc H4=>
  if c=true then tem D σ3 H4 Nx else Nx σ3 H4)
def tPut (te:TE)(D:Addr)(σ:L2.St)(H:Hp)(Nx:L2.St->Hp->Prop):Prop:=te σ H λy H5=> ∃ys,H5 D=some (.lst ys)/\ys.length<sizeLine/\Nx σ (upd H5 D<|.lst<|ys++[y])
def putOf (elt:Expr)(acc:Value)(env:Env):Sem Unit:=do let _<-call (.builtin "list.append") [acc,<-eval elt env]
def PEm (X:Cx)(em:Value->Env->Sem Unit)(tem:Addr->L2.St->Hp->(L2.St->Hp->Prop)->Prop):Prop:= ∀(D:Addr) (pins:List (Addr×Obj)) (s:Shared) (σ:L2.St) (H:Hp) (Nx:L2.St->Hp->Prop),Inv X pins σ H s->tem D σ H Nx->X∩(em (.ref D) X.env) (λ_ s'=> ∃σ' H',Inv X pins σ' H' s'/\Nx σ' H') X.xe s
theorem b65 {X:Cx}{te:TE}(he:PE X elt te):PEm X (putOf elt) (tPut te):=by
 intro D pins s σ H Nx I h;refine a6 (aS (he pins s σ H _ I h) (λv s1 h1=> ?_) λ_ _ z=>z)
 obtain⟨y,H1,I1,r1,ys,e1,z1,q1⟩:=h1;refine a6 (aS (aF5 _ s1 σ H1 (.ref D) [y] (.ref D) [v] (λv H=>v= .non/\Nx σ H) I1 rfl (.cons r1 .nil) ⟨_,ys,y,rfl,rfl,e1,z1,rfl,q1⟩) (λ_ s2 h2=> ?_) λ_ _ z=>z)
 obtain⟨_,H2,I2,_,_,q2⟩:=h2;exact aA ⟨σ,H2,I2,q2⟩
theorem aG3 {X:Cx}{RR:Value->Addr->Result->Shared->Prop}{dJ:List Comprehension}{wi:TI}{g:TG}{tt:TT}{tem:Addr->L2.St->Hp->(L2.St->Hp->Prop)->Prop}(hem: ∀it acc env,compTurn (.ListComp elt (⟨tg,iter,ifs,0⟩::dJ) scope pos) 0 it acc env=zM (.ListComp elt (⟨tg,iter,ifs,0⟩::dJ) scope pos) 0 tg iter.pos ifs (em acc env) it acc env)(hc:X.calm=true)(hi:PI X tg iter wi)(S:d5 X.env X.N N cap scope)
  (hN: ∀x,N[last]? =some x->scope.names.lookup x=none)
  (hg: ∀cl C s H fp pins,PG (bF X N scope cl C s H fp pins) tg g) (ht: ∀cl C s H fp pins,PTs (bF X N scope cl C s H fp pins) ifs tt) (he: ∀cl C s H fp pins,PEm (bF X N scope cl C s H fp pins) em tem)
  {pins:List (Addr×Obj)} {s:Shared} {σ:L2.St} {H:Hp} {Q:VK} {cl:List (Str×Addr)} (I:Inv X pins σ H s) (h:a81 cap last wi g tt tem σ H Q) (hcl: ∀x c,cl.lookup x=some c->X.env.cells.lookup x=some c) (hcl2: ∀y∈scope.names,y.2= .free-> ∃c,cl.lookup y.1=some c)
  (fin: ∀(D:Addr) (fp:List Addr) (H3:Hp) (s3:Shared) (σ':L2.St) (H':Hp) (s':Shared),Inv X pins σ H3 s3->(∀b∈fp,zF X pins H3 b)->Inv (bF X N scope (cellsFrom (s3.heap.objs.size+1) scope.names cl) s3.heap.objs.size s3 H3 fp pins) [] σ' H' s'->Q (.ref D) H'->RR (.ref D) s3.heap.objs.size (.ok .next) s') :
  X∩(eval iter X.env) (λx s₁=>X∩(pyIter x) (λit s₂=>X∩(newList []) (λacc s₃=>
   X∩(newFunctionEnv scope X.env.globals cl [] X.env.qual none .none<|some X.env) (λcenv s₄=>
    codeAny (model X.prog X.w) X.A (.compStart (.ListComp elt (⟨tg,iter,ifs,0⟩::dJ) scope pos) 0 it acc {cenv with scope:=relabel scope X.env}) (RR acc cenv.locals) s₄) X.xe s₃) X.xe s₂) X.xe s₁) X.xe s:=by
 refine thn (hi pins s σ H _ I h) λxv s1 h1=>thn h1 λit s2 h2=> ?_
 obtain⟨ita,fp,tn,J,H2,rfl,I2,T,st2,f2,q⟩:=h2;refine dZ ?_ (by show 0<=sizeLine;decide)
 have fD:H2 s2.heap.objs.size=none:=I2.hok.fresh (aC _);obtain⟨W,⟨m0,w0⟩,turn⟩:=q s2.heap.objs.size fD;have I3:Inv X pins σ (upd H2 s2.heap.objs.size<|.lst []) {s2 with heap:=s2.heap.push {cls:= .type "list",data:= .seq ([]:List Value).toArray}}:=I2.lnew .nil (cK _);have fpne: ∀b∈fp,b≠s2.heap.objs.size:=λb hb=>by
  obtain⟨o,ho,_⟩:=T.obj 0 _ st2 b hb;exact aO (aH ho)
 have f3: ∀b∈fp,zF X pins (upd H2 s2.heap.objs.size<|.lst []) b:=λb hb=>⟨by rw[cG<|fpne b hb];exact(f2 b hb).1,(f2 b hb).2⟩
 have k23: ∀b o,s2.heap.get? b=some o->(s2.heap.push {cls:= .type "list",data:= .seq ([]:List Value).toArray}).get? b=some o:=λb o e=>aJ _ e
 have st3:tn 0 (s2.heap.push {cls:= .type "list",data:= .seq ([]:List Value).toArray}):=T.keep 0 _ _ st2 λb hb o e=>k23 b o e
 have fps: ∀b∈fp,b< (s2.heap.push {cls:= .type "list",data:= .seq ([]:List Value).toArray}).objs.size:=λb hb=>by
  obtain⟨o,ho,_⟩:=T.obj 0 _ st3 b hb;exact aH ho
 generalize hS3:({s2 with heap:=s2.heap.push {cls:= .type "list",data:= .seq ([]:List Value).toArray}}:Shared)=s3 at I3;have hh3:s3.heap=s2.heap.push {cls:= .type "list",data:= .seq ([]:List Value).toArray}:=by rw[<-hS3]
 rw[<-hh3]at st3 fps;refine aM2 ?_;have sz3:(s3.heap.push {cls:= .type "dict",data:= .dict #[]}).objs.size=s3.heap.objs.size+1:=dD ..;have hns₁:(pushCells (s3.heap.push {cls:= .type "dict",data:= .dict #[]}) scope.names).Ns s3.heap.objs.size (λ_=>none):=(Heap.Ns.new s3.heap<|.type "dict").keeps (xD _ _)
 have k34: ∀b o,s3.heap.get? b=some o->(pushCells (s3.heap.push {cls:= .type "dict",data:= .dict #[]}) scope.names).get? b=some o:=λb o e=>xD _ _ _ _ (aJ _ e)
 have I4:=aR9 (tk:=s3.toks) (D:=s2.heap.objs.size) (cl:=cellsFrom (s3.heap.objs.size+1) scope.names cl) S I3 f3 fps hcl hcl2 hN hns₁ k34
  (λx c e=>by
   rw[<-sz3]at e;rcases zK _ _ _ e with q| ⟨q1,_,q3⟩
   .exact .inl q
   .exact .inr ⟨ad,q3⟩)
  (zL _ _ _ (λx c e=>by
   obtain⟨v,q⟩:=I3.cell x c (hcl x c e);exact cW q.lt) λx y c e1 e2=>I3.ok.inj x y c (hcl x c e1) (hcl y c e2))
  (λx m=>cells_keep _ _ _ λm'=>by
   have h1:=S.owns _ m' rfl;have h2:=S.freeK _ m rfl;rw[h1]at h2;cases h2)
  (λx e=>rE.mp (wF _ _ _<|.inl e))
  (λx c e1 e2=>by
   have:=nQ scope.names (s3.heap.objs.size+1) cl (.inl<|kJ e1) e2
   lia)
 have st4:tn 0 (pushCells (s3.heap.push {cls:= .type "dict",data:= .dict #[]}) scope.names):=T.keep 0 _ _ st3 λb hb o e=>k34 b o e
 generalize hcl':cellsFrom (s3.heap.objs.size+1) scope.names cl=cl' at I4;have loop:codeAny (model X.prog X.w) X.A (.compLoop (.ListComp elt (⟨tg,iter,ifs,0⟩::dJ) scope pos) 0 (.ref ita) (.ref s2.heap.objs.size)<|compEnvC scope cl' s3.heap.objs.size X.env)
   (RR (.ref s2.heap.objs.size) s3.heap.objs.size) {s3 with heap:=pushCells (s3.heap.push {cls:= .type "dict",data:= .dict #[]}) scope.names,toks:=s3.toks}:=by
  have stat: ∀{H':Hp},(∀b∈fp,H' b=none)-> ∀b∈fp,zF (bF X N scope cl' s3.heap.objs.size s3 (upd H2 s2.heap.objs.size<|.lst []) fp pins) [] H' b:=λ{H'} hn b hb=>by
   refine⟨hn b hb,aO<|fps b hb,λz=> ?_,.inl hb,λx c e=>(I4.ok.exf b hb).2 x c e,λp hp=> ?_⟩
   .rcases aG.mp (I3.stkSub b z)with z|z
    .exact(f3 b hb).2.1 z
    .exact(f3 b hb).2.2.1 z
   .have:p∈(X.pn++pins)++[]:=hp;exact(f3 b hb).2.2.2.2.2 p (by exists this)
  have hcb:(bF X N scope cl' s3.heap.objs.size s3 (upd H2 s2.heap.objs.size<|.lst []) fp pins).calm=true:=hc;refine u7 (λn s'=> ∃i σ' H',Inv (bF X N scope cl' s3.heap.objs.size s3 (upd H2 s2.heap.objs.size<|.lst []) fp pins) [] σ' H' s'/\tn i s'.heap/\(∀b∈fp,H' b=none)/\W i n σ' H') (hem _ _ _) ?_ m0 ⟨0,_,_,I4,st4,λb hb=>(f3 b hb).1,w0⟩
  rintro n s5 ⟨i,σ5,H5,I5,st5,fr5,w5⟩;rcases turn i n σ5 H5 w5 with⟨stop,qn⟩| ⟨go,Nx,hNx,step⟩
  .refine aS (T.done (bF X N scope cl' s3.heap.objs.size s3 (upd H2 s2.heap.objs.size<|.lst []) fp pins) rfl rfl rfl hcb i [] s5 σ5 H5 (λ_ _=>False) I5 (stat fr5) st5 stop) (λr s6 hr=> ?_) (λ_ _ z=>z.elim)
   obtain⟨rfl,I6⟩:=hr;exact fin _ fp _ s3 σ5 H5 s6 I3 f3 (hcl'▸I6) qn
  .refine aS (T.item (bF X N scope cl' s3.heap.objs.size s3 (upd H2 s2.heap.objs.size<|.lst []) fp pins) rfl rfl rfl hcb i [] s5 σ5 H5 (λ_ _=>False) I5 (stat fr5) st5 go) (λr s6 hr=> ?_) (λ_ _ z=>z.elim)
   obtain⟨u,rfl,h6⟩:=hr;refine aS h6 (λ_ s7 h7=> ?_) (λ_ _ z=>z.elim)
   obtain⟨x,H7,I7,r7,y7,st7,fr7⟩:=h7;have I7':=I7.pinned (stat fr7) (T.obj _ _ st7);refine aS (hg _ _ _ _ _ _ _ s7 σ5 H7 x u _ I7' r7<|step x H7 y7) (λ_ s8 h8=> ?_) (λ_ _ z=>False.elim z)
   obtain⟨σ8,H8,I8,q8⟩:=h8;have again: ∀{σ9:L2.St} {H9:Hp} {s9:Shared},Inv (bF X N scope cl' s3.heap.objs.size s3 (upd H2 s2.heap.objs.size<|.lst []) fp pins) ([]++a68 fp s7.heap) σ9 H9 s9->Nx σ9 H9-> ∃m,m<n/\ ∃i σ' H',Inv (bF X N scope cl' s3.heap.objs.size s3 (upd H2 s2.heap.objs.size<|.lst []) fp pins) [] σ' H' s9/\tn i s9.heap/\(∀b∈fp,H' b=none)/\W i m σ' H':=λ{σ9 H9 s9} I9 n9=>by
    obtain⟨m',hm,w9⟩:=hNx σ9 H9 n9;refine⟨m',hm,i+1,σ9,H9,I9.unpinned,T.keep _ _ _ st7 λb hb o e=>(I9.pin (b,o)<|cI _<|cI _<|sL hb e).1,λb hb=> ?_,w9⟩
    obtain⟨o,e,d⟩:=T.obj _ _ st7 b hb;exact(I9.pin (b,o)<|cI _<|cI _<|sL hb e).2.1
   refine aS (ht _ _ _ _ _ _ _ s8 σ8 H8 _ I8 q8) (λc s9 h9=> ?_) (λ_ _ z=>False.elim z)
   obtain⟨H9,I9,q9⟩:=h9;cases c with
   | false=>exact again I9 q9
   | true=>
    refine aS (he _ _ _ _ _ _ _ _ s9 σ8 H9 _ I9 q9) (λ_ s10 h10=> ?_) (λ_ _ z=>False.elim z)
    obtain⟨σ10,H10,I10,q10⟩:=h10;exact again I10 q10
 exact codeAny_compStart_list loop (T.self _ 0 _ _ _ st4 loop)
theorem vI {X:Cx}{σ:L2.St}{H:Hp}(S:d5 X.env X.N N cap scope)(I:Inv X pins σ H s) :
  ∃cl,closureFor scope X.env=pure cl/\(∀x c,cl.lookup x=some c->X.env.cells.lookup x=some c)/\ ∀y∈scope.names,y.2= .free-> ∃c,cl.lookup y.1=some c:=by
 obtain⟨cl,h1,h2,_,h4⟩:=sO scope.names (λy hy hf=>I.ok.has y.1 (S.frees y hy hf)) [] (λx c q=>by simp at q)
 refine⟨cl,?_,h2,h4⟩
 have e:closureFor scope X.env=(forIn scope.names [] fun(x:Str×NameKind) r=>(do if(x.2==NameKind.free)=true then do let c<-cellOf X.env x.1;pure (ForInStep.yield ((x.1,c)::r))else pure (ForInStep.yield r)):Sem (List<|Str×Addr)) >>= λr=>pure r:=by
  rfl
 rw[e,h1];rfl
theorem bX9 {X:Cx}{dJ:List Comprehension}{wi:TI}{g:TG}{tt:TT}{tem:Addr->L2.St->Hp->(L2.St->Hp->Prop)->Prop}(hem: ∀it acc env,compTurn (.ListComp elt (⟨tg,iter,ifs,0⟩::dJ) scope pos) 0 it acc env=zM (.ListComp elt (⟨tg,iter,ifs,0⟩::dJ) scope pos) 0 tg iter.pos ifs (em acc env) it acc env)(hc:X.calm=true)(hi:PI X tg iter wi)(S:d5 X.env X.N N cap scope)
  (hN: ∀x,N[last]? =some x->scope.names.lookup x=none)
  (hg: ∀cl C s H fp pins,PG (bF X N scope cl C s H fp pins) tg g) (ht: ∀cl C s H fp pins,PTs (bF X N scope cl C s H fp pins) ifs tt) (he: ∀cl C s H fp pins,PEm (bF X N scope cl C s H fp pins) em tem)
  (hs: ∀x,foldedSetIterable iter X.env x=pure x:=by intro _;rfl):PE X (.ListComp elt (⟨tg,iter,ifs,0⟩::dJ) scope pos) (a81 cap last wi g tt tem):=by
 intro pins s σ H Q I h;obtain⟨cl,hcl0,hcl,hcl2⟩:=vI S I;refine wpAny_comprehension_free rfl hs hcl0 S.kind S.names ?_;refine aG3 hem hc hi S hN hg ht he I h hcl hcl2 λD fp H3 s3 σ' H' s' I3 f3 I' q=> ?_
 obtain⟨m6,hn6,_⟩:=I'.loc;exact⟨m6,hn6,λh' hs'=>⟨.ref D,H',aG2 I3 f3 (aC _) I' hs',rfl,q⟩⟩
theorem aZ9 {X:Cx}{dJ:List Comprehension}{wi:TI}{g:TG}{tt:TT}{tem:Addr->L2.St->Hp->(L2.St->Hp->Prop)->Prop}(hem: ∀it acc env,compTurn (.ListComp elt (⟨tg,iter,ifs,0⟩::dJ) scope pos) 0 it acc env=zM (.ListComp elt (⟨tg,iter,ifs,0⟩::dJ) scope pos) 0 tg iter.pos ifs (em acc env) it acc env)(hc:X.calm=true)(hi:PI X tg iter wi)(S:d5 X.env X.N N cap scope)
  (hN: ∀x,N[last]? =some x->scope.names.lookup x=none)
  (hg: ∀cl C s H fp pins,PG (bF X N scope cl C s H fp pins) tg g) (ht: ∀cl C s H fp pins,PTs (bF X N scope cl C s H fp pins) ifs tt) (he: ∀cl C s H fp pins,PEm (bF X N scope cl C s H fp pins) em tem)
  (hy:PG X (.Name y py) (vG i)) (hsw:↥(swapsWith (.ListComp elt (⟨tg,iter,ifs,0⟩::dJ) scope pos) (some<|.Name y py) spos.line X.env=pure true))
  (hs: ∀x,foldedSetIterable iter X.env x=pure x:=by intro _;rfl):PS X (.Assign [.Name y py] (.ListComp elt (⟨tg,iter,ifs,0⟩::dJ) scope pos) spos) (tAsg (a81 cap last wi g tt tem)<|vG i):=by
 intro pins s σ H D I h;rw[exec_Assign_Name_used _ _ _ _ hsw];refine a6 (rY<|a6 ?_);obtain⟨cl,hcl0,hcl,hcl2⟩:=vI S I;show wpAny _ X.A (do let _<-comprehension (.ListComp elt (⟨tg,iter,ifs,0⟩::dJ) scope pos) scope X.env _ (newList []) false (eval iter X.env) (some<|assign (.Name y py) X.env)) _ _ s
 refine a6 (aS (wpAny_comprehension_free (use:=some (assign (.Name y py) X.env)) (Q:=λ_ s'=>SP X pins D .next s') rfl hs hcl0 S.kind S.names ?_) (λ_ s' hq=>aA (aA hq)) λ_ _ e=>e)
 refine aG3 (RR:=λacc C=>compPost (model X.prog X.w) X.A X.xe (some<|assign (.Name y py) X.env) (λ_ s'=>SP X pins D .next s') acc C) hem hc hi S hN hg ht he I (show a81 cap last wi g tt tem σ H (λx H1=>vG i x σ H1 D.nx)from h) hcl hcl2 λD' fp H3 s3 σ' H' s' I3 f3 I' q=> ?_
 obtain⟨m6,hn6,_⟩:=I'.loc;obtain⟨o6,es6,ep6,ho6,rest6⟩:=id hn6;have J:Inv X pins σ H' s':=aG2 (h2:=s'.heap) I3 f3 (aC _) I' (.refl ..);have fC:H' s3.heap.objs.size=none:=I'.free;have neL:s3.heap.objs.size≠X.env.locals:=gP I3.lt;have neF:s3.heap.objs.size ∉ X.fs:=I3.nofs (aC _);have neC: ∀x c,X.env.cells.lookup x=some c->c≠s3.heap.objs.size:=λx c e z=>by
  obtain⟨v,qq⟩:=I3.cell x c e;exact absurd (b7 qq.lt (by rw[z];exact aC _)) (cZ _)
 have neP: ∀p∈X.pn++pins,p.1≠s3.heap.objs.size:=λp hp z=>by
  have:=aH (I3.pin p hp).1;rw[z]at this;exact cZ _ this
 have nd: ∀v,o6.data≠ .cell v:=λv z=>by
  have:o6.data= .dict es6 ep6:=rest6.1;rw[this]at z;cases z
 have J':Inv X (pins++[(s3.heap.objs.size,o6)]) σ H' s':=J.pins_of λp hp=>(bH.mp hp).elim (λz=>J.pin p (cI _ z)) λz=>by
  have e:p=(s3.heap.objs.size,o6):=by exists z
  subst e;exact⟨ho6,fC,neL,neF,nd⟩
 show wpAny _ X.A (assign (.Name y py) X.env<|.ref D') _ _ _
 refine thn (hy _ s' σ H' (.ref D') (.ref D') D.nx J' rfl q) λ_ s7 ⟨σ7,H7,I7,q7⟩=> ?_
 obtain⟨e7,n7,_⟩:=I7.pin (s3.heap.objs.size,o6) (cI _<|cI _ ae)
 refine⟨m6,⟨o6,es6,ep6,e7,rest6⟩,λh' hs'=> ?_⟩
 have I8:=I7.unpinned;exact⟨σ7,H7,I8.turned (t':=s7.toks) (λb o hb e=>(hs'.2 b hb).trans e) n7 neL (.inr<|aN I3.sz<|aC _) neC neP,q7⟩
end L2
namespace M
nonrec def bY0:B->B
 | .pu d=> .pu d
 | .ow l=> .bo l
 | .bo l=> .bo l
nonrec def pP (ρ:Ev)(cap:List (Option Nat))(last:Nat):Ev:=(cap.map λc=>c.bind λj=>((ρ[j]?).join).map bY0).set last (some<|.ow [])
nonrec def bY1 (ρ:Ev)(j:Nat):Ev:=match ρ[j]? with
 | some (some<|.ow l)=>ρ.set j (some<|.pu<|.lst l)
 | _=>ρ
nonrec def xI:Ev->List Nat->Ev
 | ρ,[]=>ρ
 | ρ,j::js=>xI (bY1 ρ j) js
theorem bJ4 (ρ:Ev)(j:Nat):Frz ρ (bY1 ρ j):=by
 unfold bY1;split
 .rename_i l e
  exact .set e
 .exact .refl _
theorem aS0: ∀(js:List Nat) (ρ:Ev),Frz ρ (xI ρ js)
 | [],ρ=> .refl _
 | j::js,ρ=>(bJ4 ρ j).trans (aS0 js _)
def hZ (js:List Nat)(cap:List (Option Nat))(last:Nat)(ui:UI)(g:UG)(tt:UT)(te:UE):UE:=λρ Q=>ui ρ λn it ρ1=> ∃Pv:Nat->Ev->Prop,Pv 0 (pP (xI ρ1 js) cap last)/\
 (∀i ρ',i<n->Pv i ρ'->g (.pu<|it i) ρ' λρ2=>tt ρ2 λc ρ3=>if c=true then te ρ3 λb ρ4=>kB ρ4 last λl=>l.length<sizeLine/\Pv (i+1) (ρ4.set last<|some<|.ow<|l++[b.d])else Pv (i+1) ρ3)/\
 ∀ρ',Pv n ρ'->kB ρ' last λl=>Q (.ow l) (xI ρ1 js)
def b00 (js:List Nat)(cap:List (Option Nat))(last:Nat)(ui:UI)(g:UG)(tt:UT)(uem:(Ev->Prop)->Ev->Prop):UE:=λρ Q=>ui ρ λn it ρ1=> ∃Pv:Nat->Ev->Prop,Pv 0 (pP (xI ρ1 js) cap last)/\
 (∀i ρ',i<n->Pv i ρ'->g (.pu<|it i) ρ' λρ2=>tt ρ2 λc ρ3=>if c=true then uem (Pv<|i+1) ρ3 else Pv (i+1) ρ3)/\
 ∀ρ',Pv n ρ'->kB ρ' last λl=>Q (.ow l) (xI ρ1 js)
def uPut (last:Nat)(te:UE)(Nx:Ev->Prop)(ρ:Ev):Prop:=te ρ λb ρ4=>kB ρ4 last λl=>l.length<sizeLine/\Nx (ρ4.set last<|some<|.ow<|l++[b.d])
def bY2 (K:PySem.W.Frag)(last:Nat)(uem:(Ev->Prop)->Ev->Prop)(tem:Addr->L2.St->Hp->(L2.St->Hp->Prop)->Prop):Prop:= ∀(C:C0) (ρ:Ev) (σ:L2.St) (H:Hp) (Dn:Addr) (Nx:Ev->Prop) (NX:L2.St->Hp->Prop),EOk K C ρ σ H->σ[last]? =some (some<|.ref Dn)->uem Nx ρ->(∀ρ2 σ2 H2,EOk K C ρ2 σ2 H2->σ2[last]? =some (some<|.ref Dn)->Nx ρ2->NX σ2 H2)->tem Dn σ H NX
section
variable {X:Cx}{K:PySem.W.Frag}{C:C0}{ρ ρ':Ev}{σ σ':L2.St}{H H':Hp}
theorem cap_ok {Dn:Addr}(I:EOk K C ρ σ H)(hl:last<cap.length)(n:H Dn=none) :
  EOk K ⟨H,Av C ρ σ⟩ (pP ρ cap last) (tJ σ cap last Dn) (upd H Dn<|.lst []):=by
 have pu: ∀(i:Nat) (z:B),last≠i->(pP ρ cap last)[i]? =some (some z)-> ∃(j:Nat) (z':B),cap[i]? =some (some j)/\z=bY0 z'/\ρ[j]? =some (some z'):=λi z ne h=>by
  unfold pP at h;rw[get_set_ne ne,bP]at h;cases e4:cap[i]? with
  | none=>rw[e4]at h;cases h
  | some c=>
   rw[e4]at h;cases c with
   | none=>cases h
   | some j=>
    have h':((ρ[j]?).join).map bY0=some z:=by exists h
    cases q:ρ[j]? with
    | none=>rw[q]at h';cases h'
    | some w=>
     rw[q]at h';cases w with
     | none=>cases h'
     | some w'=>cases h';exact⟨j,w',rfl,rfl,q⟩
 have sgm: ∀(i j:Nat) (v:V),last≠i->cap[i]? =some (some j)->σ[j]? =some (some v)->(tJ σ cap last Dn)[i]? =some (some v):=λi j v e e1 h1=>by
  unfold tJ;rw[get_set_ne e,bP,e1];show some ((σ[j]?).join)=_;rw[h1];rfl
 have atl:(pP ρ cap last)[last]? =some (some<|.ow []):=by
  exact eF (by rw[aK];exact hl)
 have sal:(tJ σ cap last Dn)[last]? =some (some<|.ref Dn):=by
  exact eF (by rw[aK];exact hl)
 have noOw: ∀(i:Nat) (l:List D),last≠i->(pP ρ cap last)[i]? ≠some (some<|.ow l):=λi l e h=>by
  obtain⟨j,z',_,z,_⟩:=pu i _ e h;cases z'<;>cases z
 have own: ∀a,Own (pP ρ cap last) (tJ σ cap last Dn) a->a=Dn:=λa ⟨i,l,h1,h2⟩=>by
  by_cases e:last=i
  .subst e;rw[sal]at h2;cases h2;rfl
  .exact absurd h1 (noOw i l e)
 have P:jS (Av C ρ σ) H (Av ⟨H,Av C ρ σ⟩ (pP ρ cap last)<|tJ σ cap last Dn) (upd H Dn<|.lst []):=λb o nb e=>by
  have ne:b≠Dn:=λz=>by subst z;rw[n]at e;cases e
  refine⟨?_,by rw[cG ne];exact e⟩
  rintro(z|z)
  .exact nb z
  .exact ne (own b z)
 refine⟨by unfold pP tJ;rw[cS,cS,aK,aK],λi d h=> ?_,λi l h=> ?_,λi j l l' a h1 h2 h3 h4=> ?_,λi l h=> ?_,cV n _,λa z=>I.avSome z⟩
 .by_cases e:last=i
  .subst e;rw[atl]at h;cases h
  .obtain⟨j,z',e1,z,e2⟩:=pu i _ e h;cases z' with
   | pu d'=>
    cases z;obtain⟨v,h1,h2⟩:=I.pu j d e2;exact⟨v,sgm i j v e e1 h1,h2.mono P⟩
   | ow l=>cases z
   | bo l=>cases z
 .by_cases e:last=i
  .subst e;rw[atl]at h;cases h;exact⟨Dn,[],sal,jU,n,.nil⟩
  .exact absurd h (noOw i l e)
 .have e1:last=i:=rD λe=>absurd h1 (noOw i l e)
  have e2:last=j:=rD λe=>absurd h2 (noOw j l' e)
  exact e1.symm.trans e2
 .by_cases e:last=i
  .subst e;rw[atl]at h;cases h
  .obtain⟨j,z',e1,z,e2⟩:=pu i _ e h;cases z' with
   | pu d'=>cases z
   | ow l'=>
    cases z;obtain⟨a,vs,h1,h2,h3,h4⟩:=I.ow j l e2;exact⟨a,vs,sgm i j _ e e1 h1,.inr ⟨j,l,e2,h1⟩,h2,h4.mono P⟩
   | bo l'=>
    cases z;obtain⟨a,vs,h1,h2,h3,h4⟩:=I.bo j l e2;exact⟨a,vs,sgm i j _ e e1 h1,.inl h2,I.ext _ _ h3,h4.mono P⟩
theorem bJ5 {te:UE}:bY2 K last (uPut last te) (tPut<|lE K te):=λC ρ σ H Dn Nx NX J l3 q nx=>⟨C,ρ,_,J,q,λb ρ5 v H5 q5 f5 s5 r5=>by
 have J5:=(J.frz f5).same s5;obtain⟨l,hl5,hz,q5⟩:=iR q5;obtain⟨a,vs,g1,g2,g3,g4⟩:=J5.ow last l hl5;rw[l3]at g1;cases g1;exact⟨vs,g2,by rw[<-g4.length];exact hz,nx _ _ _ (J5.write hl5 l3<|g4.append<|.cons (r5.rep λa z=>J.avF f5 z) .nil) l3 q5⟩⟩
theorem c52 {ui:UI}{g:UG}{T:List Nat}{tt:UT}{uem:(Ev->Prop)->Ev->Prop}{tem:Addr->L2.St->Hp->(L2.St->Hp->Prop)->Prop}(em:bY2 K last uem tem)(hl:last<cap.length)(hT:last ∉ T)(σ:L2.St)(H:Hp)(Q:VK)(h:lE K (b00 js cap last ui g tt uem) σ H Q) :
  a81 cap last (lI K ui) (lG K T g) (lT K tt) tem σ H Q:=by
 obtain⟨C,ρ,Q0,I,h,k⟩:=h;refine⟨C,ρ,_,I,h,λn it ρ1 J H1 q f s ok Dn nD=> ?_⟩
 obtain⟨Pv,p0,turn,fin⟩:=q;have fz:=aS0 js ρ1;have I1:EOk K C (xI ρ1 js) σ H1:=((I.frz f).same s).frz fz;generalize xI ρ1 js=ρ2 at fz I1 p0 fin;have P12: ∀{A':AS} {H':Hp},jS (Av C ρ2 σ) H1 A' H'->jS (Av C ρ1 σ) H1 A' H':=λp b o nb e=>p b o (λz=>nb (fz.av z)) e
 have I2:=cap_ok I1 hl nD;have own0: ∀{ρ':Ev} {σ':L2.St} {H':Hp},EOk K ⟨H1,Av C ρ2 σ⟩ ρ' σ' H'->jS (Av C ρ2 σ) H1 (Av ⟨H1,Av C ρ2 σ⟩ ρ' σ') H':=λ{ρ' σ' H'} J' b o nb e=>by
  refine⟨?_,J'.ext b o e⟩
  rintro(z| ⟨i,l,h1,h2⟩)
  .exact nb z
  .obtain⟨a,vs,h3,h4,h5,_⟩:=J'.ow i l h1;rw[h2]at h3;cases h3;have e':(⟨H1,Av C ρ2 σ⟩:C0).H0 b=some o:=e;rw[h5]at e';cases e'
 have sal:(tJ σ cap last Dn)[last]? =some (some<|.ref Dn):=by
  exact eF (by rw[aK];exact hl)
 refine⟨λi m σ' H'=>m=n-i/\i<=n/\σ'[last]? =some (some<|.ref Dn)/\ ∃ρ',EOk K ⟨H1,Av C ρ2 σ⟩ ρ' σ' H'/\Pv i ρ',⟨n,rfl,cK _,sal,_,I2,p0⟩,?_⟩
 rintro i m σ' H' ⟨rfl,hi,hlast,ρ',J',p'⟩;have P:=P12 (own0 J')
 by_cases hlt:i<n
 .refine .inr ⟨ok.go _ _ i P hlt,λσ2 H2=>σ2[last]? =some (some<|.ref Dn)/\ ∃ρ3,EOk K ⟨H1,Av C ρ2 σ⟩ ρ3 σ2 H2/\Pv (i+1) ρ3,λσ2 H2 z=>⟨n-(i+1),aa,rfl,hlt,z⟩,λx H2 y=> ?_⟩
  obtain⟨s2,r2⟩:=ok.yld _ _ i x H2 P (λa z=>J'.avSome z) hlt y
  refine⟨_,ρ',.pu<|it i,H',_,J',s2,r2,turn i ρ' hlt p',λρ3 σ3 H3 q3 J3 same3=> ?_⟩
  have l3:σ3[last]? =some (some<|.ref Dn):=(same3 last hT).trans hlast;refine⟨_,ρ3,_,J3,q3,λc ρ4 H4 q4 f4 s4=> ?_⟩
  have J4:=(J3.frz f4).same s4;cases c with
  | false=>
   exact⟨l3,ρ4,J4,q4⟩
  | true=>
   exact em _ ρ4 _ _ Dn _ _ J4 l3 q4 λρ5 σ5 H5 J5 l5 q5=>⟨l5,ρ5,J5,q5⟩
 .have e:i=n:=aa
  subst e;obtain⟨l,hl5,q5⟩:=iR (fin ρ' p');obtain⟨a,vs,g1,g2,g3,g4⟩:=J'.ow last l hl5;rw[hlast]at g1;cases g1;refine .inl ⟨ok.stop _ _ P,k _ _ _ _ q5 (f.trans fz) (s.trans J'.ext) ⟨Dn,vs,rfl,s.free nD,g2,?_⟩⟩;refine g4.mono λb o nb e=>⟨?_,e⟩
  rintro(z|z)
  .exact nb (.inl z)
  .subst z;exact nb (.inr ⟨last,l,hl5,hlast⟩)
theorem lH: ∀{X:Cx},PTs X [] (lT X.K λρ Q=>Q true ρ):=λ{X} pins s σ H Q I ⟨C,ρ,Q0,J,h,k⟩=>bX7 pins s σ H Q I (k _ ρ H h (.refl _)<|.refl _)
theorem b66 {t:UT}(h:PUT X c t):PTs X [c] (lT X.K t):=bX8 h
theorem bJ6 {dJ:List Comprehension}{ui:UI}{g:UG}{T:List Nat}{tt:UT}{uem:(Ev->Prop)->Ev->Prop}{tem:Addr->L2.St->Hp->(L2.St->Hp->Prop)->Prop}(ek:bY2 X.K last uem tem)(hem: ∀it acc env,compTurn (.ListComp elt (⟨tg,iter,ifs,0⟩::dJ) scope pos) 0 it acc env=zM (.ListComp elt (⟨tg,iter,ifs,0⟩::dJ) scope pos) 0 tg iter.pos ifs (em acc env) it acc env)(hc:X.calm=true)(hi:PUI X tg iter ui)(S:d5 X.env X.N N cap scope)
  (hN: ∀x,N[last]? =some x->scope.names.lookup x=none) (hl:last<cap.length) (hT:last ∉ T)
  (hg: ∀cl C s H fp pins,PUG (bF X N scope cl C s H fp pins) tg T g) (ht: ∀cl C s H fp pins,PTs (bF X N scope cl C s H fp pins) ifs<|lT X.K tt) (he: ∀cl C s H fp pins,PEm (bF X N scope cl C s H fp pins) em tem)
  (hs: ∀x,foldedSetIterable iter X.env x=pure x:=by intro _;rfl):PU X (.ListComp elt (⟨tg,iter,ifs,0⟩::dJ) scope pos) (b00 js cap last ui g tt uem):=
 fE (bX9 (g:=lG X.K T g) hem hc hi S hN hg ht he hs) (c52 ek hl hT)
theorem bY3 {ui:UI}{g:UG}{T:List Nat}{tt:UT}{te:UE}(hc:X.calm=true)(hi:PUI X tg iter ui)(S:d5 X.env X.N N cap scope)
  (hN: ∀x,N[last]? =some x->scope.names.lookup x=none) (hl:last<cap.length) (hT:last ∉ T)
  (hg: ∀cl C s H fp pins,PUG (bF X N scope cl C s H fp pins) tg T g) (ht: ∀cl C s H fp pins,PTs (bF X N scope cl C s H fp pins) ifs<|lT X.K tt) (he: ∀cl C s H fp pins,PU (bF X N scope cl C s H fp pins) elt te)
  (hs: ∀x,foldedSetIterable iter X.env x=pure x:=by intro _;rfl):PU X (.ListComp elt [⟨tg,iter,ifs,0⟩] scope pos) (hZ js cap last ui g tt te):=
 bJ6 (bJ5) (λ_ _ _=>rfl) hc hi S hN hl hT hg ht (λcl C s H fp pins=>b65 (he cl C s H fp pins)) hs
theorem aS1 {dJ:List Comprehension}{ui:UI}{g:UG}{T:List Nat}{tt:UT}{uem:(Ev->Prop)->Ev->Prop}{tem:Addr->L2.St->Hp->(L2.St->Hp->Prop)->Prop}(i:Nat)(ek:bY2 X.K last uem tem)(hem: ∀it acc env,compTurn (.ListComp elt (⟨tg,iter,ifs,0⟩::dJ) scope pos) 0 it acc env=zM (.ListComp elt (⟨tg,iter,ifs,0⟩::dJ) scope pos) 0 tg iter.pos ifs (em acc env) it acc env)(hc:X.calm=true)(hi:PUI X tg iter ui)(S:d5 X.env X.N N cap scope)
  (hN: ∀x,N[last]? =some x->scope.names.lookup x=none) (hl:last<cap.length) (hT:last ∉ T)
  (hg: ∀cl C s H fp pins,PUG (bF X N scope cl C s H fp pins) tg T g) (ht: ∀cl C s H fp pins,PTs (bF X N scope cl C s H fp pins) ifs<|lT X.K tt) (he: ∀cl C s H fp pins,PEm (bF X N scope cl C s H fp pins) em tem)
  (hy:PG X (.Name y py) (vG i)) (hi': ∀pins σ H s,Inv X pins σ H s->i<σ.length) (hsw:↥(swapsWith (.ListComp elt (⟨tg,iter,ifs,0⟩::dJ) scope pos) (some<|.Name y py) spos.line X.env=pure true))
  (hs: ∀x,foldedSetIterable iter X.env x=pure x:=by intro _;rfl):PUS X (.Assign [.Name y py] (.ListComp elt (⟨tg,iter,ifs,0⟩::dJ) scope pos) spos) (cN i<|b00 js cap last ui g tt uem):=by
 intro pins s σ H D I q;refine aZ9 (g:=lG X.K T g) hem hc hi S hN hg ht he hy hsw hs pins s σ H D I ?_;obtain⟨C,ρ,D0,J,h,k⟩:=q;exact c52 ek hl hT σ H _ ⟨C,ρ,_,J,h,λb ρ1 v H1 q f s1 r=>k.nx _ _ _ q ((J.frz f).store s1 r<|hi' pins σ H s I)⟩
theorem b01 {ui:UI}{g:UG}{T:List Nat}{tt:UT}{te:UE}(i:Nat)(hc:X.calm=true)(hi:PUI X tg iter ui)(S:d5 X.env X.N N cap scope)
  (hN: ∀x,N[last]? =some x->scope.names.lookup x=none) (hl:last<cap.length) (hT:last ∉ T)
  (hg: ∀cl C s H fp pins,PUG (bF X N scope cl C s H fp pins) tg T g) (ht: ∀cl C s H fp pins,PTs (bF X N scope cl C s H fp pins) ifs<|lT X.K tt) (he: ∀cl C s H fp pins,PU (bF X N scope cl C s H fp pins) elt te)
  (hy:PG X (.Name y py) (vG i)) (hi': ∀pins σ H s,Inv X pins σ H s->i<σ.length) (hsw:↥(swapsWith (.ListComp elt [⟨tg,iter,ifs,0⟩] scope pos) (some<|.Name y py) spos.line X.env=pure true))
  (hs: ∀x,foldedSetIterable iter X.env x=pure x:=by intro _;rfl):PUS X (.Assign [.Name y py] (.ListComp elt [⟨tg,iter,ifs,0⟩] scope pos) spos) (cN i<|hZ js cap last ui g tt te):=
 aS1 i (bJ5) (λ_ _ _=>rfl) hc hi S hN hl hT hg ht (λcl C s H fp pins=>b65 (he cl C s H fp pins)) hy hi' hsw hs
end
end M
end
section
namespace L2
section
variable {X:Cx}
theorem bY4 {bs:List Bool}: ∀{its:List Value},Vals (bs.map V.bl) its->LSm.BoolsAre its bs:=by
 induction bs with
 | nil=>intro its r;cases r;exact .nil
 | cons b bs ih=>
  intro its r;cases r with
  | cons r1 r2=>
   cases r1;exact .cons b (ih r2)
theorem b02 (hc:X.calm=true):jV X (.builtin "all") (λxs H Q=> ∃(p:Addr) (bs:List Bool),xs=[.ref p]/\SqL X.K H p (bs.map V.bl)/\Q (.bl<|bs.all id) H):=by
 intro pins s σ H xs us Q I r h;obtain⟨p,bs,rfl,hq,q⟩:=h;obtain⟨u,rfl,rx⟩:=vals1 r;cases rx;obtain⟨its,rv,pl,hz⟩:=I.list hq;have ba:=bY4 rv;refine call_all_walk (oA pl.isList ?_);have hne:p≠s.heap.objs.size:=by
  obtain⟨o,n,e,_⟩:=pl;exact aO (aH e)
 refine⟨s.heap.objs.size,_,_,_,_,_,λi=>(bs[i]?).getD true,rfl,Walks.list (A:=X.A.in1) (I.ok.hd hc) s.heap.objs.size p (λz=>hne z) its.toArray,⟨⟨_,aY _ rfl,rfl,rfl⟩,pl.isList.push _⟩,?_,λh' tk hk=> ?_⟩
 .intro i v s' Q' E' hP hQ;obtain⟨b,hb,rfl⟩:=ba.get i v (by exists hP)
  refine jB ?_
  dsimp only at hQ;rw[hb]at hQ;exact hQ
 .have e:=LSm.range_all bs;have hl:=ba.length;have e2:its.toArray.size=bs.length:=by rw[aZ,hl]
  rw[e2,e];exact⟨.bl<|bs.all id,H,I.kept λb o e=>hk b o (by simpa using aO (aH e)) (aJ _ e),rfl,q⟩
nonrec def qI (esc:List (Str×NameKind))(XN N:List Str)(cap:List (Option Nat))(scope:Scope)(last:Nat):Bool:=
 (scope.kind== .function)&&scope.names.all (λy=>y.2 != .cell||scope.names.lookup y.1==some .cell)&&scope.names.all (λy=>y.2 != .free||scope.names.lookup y.1==some .free)&&scope.names.all (λy=>y.2 != .local||scope.names.lookup y.1==some .local)&&
 scope.names.all (λy=>y.2 != .free||esc.lookup y.1==some .cell||esc.lookup y.1==some .free)&&
 (N.zip cap).all (λz=>match z.2 with|none=>true|some j=>XN[j]? ==some z.1&&scope.names.contains (z.1,.free)&&scope.names.lookup z.1==some .free)&&
 (cap.length==N.length)&&(match N[last]? with|some x=>(scope.names.lookup x).isNone|none=>true)
theorem d5.of {env:Env}(he:env.scope.names=esc)(h:qI esc XN N cap scope last=true) :
  d5 env XN N cap scope/\ ∀x,N[last]? =some x->scope.names.lookup x=none:=by
 unfold qI at h;simp only[bK,cJ,jL]at h;obtain⟨⟨⟨⟨⟨⟨⟨h1,h2⟩,h2'⟩,h3⟩,h4⟩,h5⟩,h6⟩,h7⟩:=h;have hk: ∀x,env.kindOf x=esc.lookup x:=λx=>by unfold Env.kindOf;rw[he]
 refine⟨⟨h1,λy hy hl=>by have:=h2 y hy;rw[hl]at this;simpa using this,λy hy hl=>by have:=h2' y hy;rw[hl]at this;simpa using this,λy hy hl=> ?_,λy hy hf=> ?_,λi j x e1 e2=> ?_,h6⟩,λx e=> ?_⟩
 .have:=h3 y hy;rw[hl]at this
  exists this
 .have:=h4 y hy;rw[hf]at this;rw[hk]
  exists this
 .have hm:(x,some j)∈N.zip cap:=by
   refine wK (i:=i) ?_
   rw[List.getElem?_zip_eq_some];exact⟨e1,e2⟩
  have:=h5 _ hm;simp only[bK,jL]at this;obtain⟨⟨a,b⟩,c⟩:=this;exact⟨a,by simpa using b,c⟩
 .rw[e]at h7
  exists h7
end
end L2
namespace M
section
variable {X:Cx}{K:PySem.W.Frag}{A:AS}{H:Hp}
nonrec def sP:List D->Option (List Bool)
 | []=>some []
 | .bl b::r=>(sP r).map (b::·)
 | _=>none
nonrec def bJ7:List D->Option (List Int)
 | []=>some []
 | .int b::r=>(bJ7 r).map (b::·)
 | _=>none
theorem oW (bs:List Bool):sP (bs.map .bl)=some bs:=by
 induction bs with
 | nil=>rfl
 | cons b bs ih=>rw[bX];show(sP<|bs.map .bl).map _=_;rw[ih];rfl
theorem a82: ∀{l:List D} {bs:List Bool} {vs:List V},sP l=some bs->aV K A H l vs->vs=bs.map V.bl
 | [],bs,vs,h,r=>by cases h;exact r.unnil
 | d::r,bs,vs,h,q=>by
  obtain⟨v,vr,rfl,rv,rr⟩:=q.uncons;cases d with
  | bl b=>
   have h':(sP r).map (b::·)=some bs:=h;cases e:sP r with
   | none=>rw[e]at h';cases h'
   | some bs'=>
    rw[e]at h';cases h';rw[pO rv,a82 e rr];rfl
  | _=>cases h
nonrec def aM3:List D->(B->Prop)->Prop:=g1 λd Q=>match d with
 | .lst l=>(match sP l with
  | some bs=>Q (.pu<|.bl<|bs.all id)
  | none=>False)
 | _=>False
theorem a83 (hc:X.calm=true):tG X (.builtin "all") aM3:=by
 intro A H ds vs Q0 Q hA r g k;obtain⟨d,v,rfl,rfl,rv,g⟩:=zH g r;cases d with
 | lst l=>
  dsimp only at g;cases e:sP l with
  | none=>rw[e]at g;exact g.elim
  | some bs=>
   rw[e]at g;obtain⟨a,vs,rfl,n,c,rs⟩:=rv;rw[a82 e rs]at c;exact⟨_,b02 hc,a,bs,rfl,SqL.of c,k _ _ H g (.refl _) iH⟩
 | _=>exact(show False from g).elim
nonrec def gSum:List D->(B->Prop)->Prop:=g1 λd Q=>match d with
 | .lst l=>(match bJ7 l with
  | some ns=>Q (.pu<|.int ns.sum)
  | none=>False)
 | _=>False
theorem a84:bootBuiltins "all"=some (.builtin "all"):=af
theorem aS2 {ui:UI}{g:UG}{T:List Nat}{tt:UT}{te:UE}(he0:X.env.scope.names=esc)(hx0:X.N=XN)(lk:qI esc XN N cap scope last=true)(hl:last<cap.length)(hT:last ∉ T)(hc:X.calm=true)(hi:PUI X tg iter ui)
  (hg: ∀cl C s H fp pins,PUG (bF X N scope cl C s H fp pins) tg T g) (ht: ∀cl C s H fp pins,PTs (bF X N scope cl C s H fp pins) ifs<|lT X.K tt) (he: ∀cl C s H fp pins,PU (bF X N scope cl C s H fp pins) elt te)
  (hs: ∀x,foldedSetIterable iter X.env x=pure x:=by intro _;rfl):PU X (.ListComp elt [⟨tg,iter,ifs,0⟩] scope pos) (hZ js cap last ui g tt te):=
 bY3 hc hi (d5.of he0<|hx0▸lk).1 (d5.of he0<|hx0▸lk).2 hl hT hg ht he hs
theorem aS3 {ui:UI}{g:UG}{T:List Nat}{tt:UT}{te:UE}(i:Nat)(he0:X.env.scope.names=esc)(hx0:X.N=XN)(lk:qI esc XN N cap scope last=true)(hl:last<cap.length)(hT:last ∉ T)(hc:X.calm=true)(hi:PUI X tg iter ui)
  (hg: ∀cl C s H fp pins,PUG (bF X N scope cl C s H fp pins) tg T g) (ht: ∀cl C s H fp pins,PTs (bF X N scope cl C s H fp pins) ifs<|lT X.K tt) (he: ∀cl C s H fp pins,PU (bF X N scope cl C s H fp pins) elt te)
  (hy:PG X (.Name y py) (vG i)) (hi': ∀pins σ H s,Inv X pins σ H s->i<σ.length) (hsw:↥(swapsWith (.ListComp elt [⟨tg,iter,ifs,0⟩] scope pos) (some<|.Name y py) spos.line X.env=pure true))
  (hs: ∀x,foldedSetIterable iter X.env x=pure x:=by intro _;rfl):PUS X (.Assign [.Name y py] (.ListComp elt [⟨tg,iter,ifs,0⟩] scope pos) spos) (cN i<|hZ js cap last ui g tt te):=
 b01 i hc hi (d5.of he0<|hx0▸lk).1 (d5.of he0<|hx0▸lk).2 hl hT hg ht he hy hi' hsw hs
def b67 (te:UE):US:=λD ρ=>te ρ λ_ ρ1=>D.nx ρ1
theorem qJ: ∀ds ρ Q,vH ds ρ Q->ds.length=0:=λds ρ Q h=>by rw[h.1];rfl
theorem dY {u:UGs}(h: ∀ds ρ Q,u ds ρ Q->ds.length=n): ∀ds ρ Q,gT i u ds ρ Q->ds.length=n+1:=λds ρ Q q=>by
 cases ds with
 | nil=>exact(show False from q).elim
 | cons d r=>rw[gK,h r _ Q q.2]
end
end M
end
section
namespace HT
open PySem PyProof.Rows
end HT
namespace L2
end L2
namespace M
section
variable {X:Cx}{K:PySem.W.Frag}{A:AS}{H:Hp}{e e3:Expr}{t3:UE}{pos p2:Pos}
def gRev (d:D)(Q:B->Prop):Prop:=match d with
 | .tup l=>Q (.pu<|.tup l.reverse)
 | _=>False
def uRev (t:UV)(t3:UE):UE:=λρ Q=>t ρ λd ρ1=>t3 ρ1 λb ρ2=>b.d= .int (-1)/\gRev d λb=>Q b ρ2
def gIn (neg:Bool)(d e:D)(Q:B->Prop):Prop:= ∃(i:Int) (js:List Int),d= .int i/\(e= .tup (js.map D.int)\/e= .lst (js.map D.int)\/e= .rol (js.map D.int))/\Q (.pu<|.bl<|neg ^^ decide (i∈js))
theorem aV.unints: ∀{js:List Int} {vs:List V},aV K A H (js.map D.int) vs->vs=js.map V.int
 | [],_,h=>by simp only[iG,aV]at h;exact h
 | j::js,vs,h=>by
  simp only[bX,aV]at h;obtain⟨v,vr,rfl,r,rs⟩:=h;rw[bJ r,aV.unints rs];rfl
theorem bJ8 (i:Int)(js:List Int):inV (.int i) (js.map V.int)=decide (i∈js):=by
 unfold inV
 induction js with
 | nil=>rfl
 | cons j js ih=>
  rw[bX,any_cons,ih];show((j==i)||decide (i∈js))=decide (i∈j::js)
  by_cases h:j=i
  .subst h;simp
  .have h': ¬i=j:=λz=>h z.symm
   simp[h,h']
theorem zN (js:List Int):(js.map V.int).all y4=true:=by
 induction js with
 | nil=>rfl
 | cons j js ih=>rw[bX,all_cons,ih];rfl
theorem ou_inG {neg:Bool}{op:Value->Value->Sem Value}(ho:OpR X op (rIn X.K neg)):OpU X op (gIn neg):=by
 intro A H d e v w Q0 Q hA r1 r2 g k;obtain⟨i,js,rfl,he,g⟩:=g;have e1:=bJ r1;subst e1;have fin:Q (.bl<|if neg=true then !inV (.int i) (js.map V.int)else inV (.int i) (js.map V.int)) H:=by
  rw[bJ8];refine k _ _ H g (.refl _) ?_;cases neg
  .rw[a7 ac,jG];exact iH
  .rw[a8 rfl,oI];exact iH
 rcases he with rfl|rfl|rfl
 .simp only[Rep]at r2;obtain⟨a,vs,rfl,c,rs⟩:=r2;have:=rs.unints;subst this;exact⟨_,ho,a,_,rfl,.inr<|c.imp bZ id,rfl,zN js,fin⟩
 .simp only[Rep]at r2;obtain⟨a,vs,rfl,n,c,rs⟩:=r2;have:=rs.unints;subst this;exact⟨_,ho,a,_,rfl,.inl<|SqL.of c,rfl,zN js,fin⟩
 .simp only[Rep]at r2;obtain⟨a,vs,rfl,c,rs⟩:=r2;have:=rs.unints;subst this;exact⟨_,ho,a,_,rfl,.inl<|c.imp bZ id,rfl,zN js,fin⟩
theorem aS4:OpU X (compareOp .NotIn) (gIn true):=ou_inG aK8
end
end M
end
section
namespace L2
nonrec def Itd (lo:Int)(n:Nat):It:={go:=λi _=>i<n,yld:=λi H x H'=>H'=H/\x=V.int (lo-(i:Int)),stop:=λi _=>n<=i}
theorem bB9 (it:Addr)(lo:Int)(n:Nat):aQ7 P w K tg (Itd lo n) [it] it (λi h=>IsRangeIter h it (lo+(i:Nat)*(-1)) ((n:Int)-(i:Nat)) (-1)) where
 mem:=ae
 obj:=λi h st b hb=>by
  have e:b=it:=by exists hb
  subst e;exact⟨_,st,λv z=>by
   have z':Data.fields _=Data.cell v:=z;cases z'⟩
 keep:=λi h h' st k=>k it ae _ st
 item:=by
  intro X hP hw hK hc i pins s σ H E I hf st hg;subst hP hw hK;obtain⟨f0,f1,f2,f3,f4,f5⟩:=hf it ae
  have W:=Walks.range (prog:=X.prog) (w:=X.w) (I.ok.hd hc) it lo (-1) n;refine W.item i s _ _ hg st λv h' tk hv st' kk=> ?_
  obtain⟨t,rfl⟩:=hv;have I1:Inv X pins σ H {s with heap:=h',toks:=tk}:=I.turned (λb o hb e=>kk b o (by exists hb) e) f0 f1 f3 f4 f5
  refine⟨_,rfl,aQ8 (s:={s with heap:=h',toks:=tk}) (n:="range_iterator") st' rfl rfl ac ⟨.int<|lo-i,H,I1,⟨t,?_⟩,⟨rfl,rfl⟩,st',λb hb=>(hf b hb).1⟩⟩
  rw[show lo+((i:Nat):Int)*(-1)=lo-(i:Int)by lia]
 done:=by
  intro X hP hw hK hc i pins s σ H E I hf st hg;subst hP hw hK;obtain⟨f0,f1,f2,f3,f4,f5⟩:=hf it ae
  exact wpAny_pyNext_range_end (I.ok.hd hc) st (by have:n<=i:=hg;lia) λh' eb=>⟨rfl,I.turned (t':=s.toks) (λb o hb e=>eb b o hb e) f0 f1 f3 f4 f5⟩
 self:=λ_ _ _ _ _ st h=>wE st h
end L2
namespace M
section
variable {X:Cx}{K:PySem.W.Frag}{H:Hp}{pos:Pos}
theorem bC0 {A:AS}:aR6 K A H (Itd lo n) n (λi=> .int (lo-i)):=
 ⟨λ_ _ _ _ h=>h,λ_ _ i x H'' _ _ _ ⟨e,y⟩=>by subst e;subst y;exact⟨.refl _,by simp only[Rep]⟩,λ_ _ _=>aC n⟩
def uRngD (ta:UA):UI:=λρ Q=>ta ρ λds ρ1=>match ds with
 | [.int i,.int j,.int m]=>m= -1/\(-(2^31)<=i/\i<2^31/\ -(2^31)<=j/\j<2^31)/\Q (i-j).toNat (λk=> .int (i-k)) ρ1
 | _=>False
end
end M
end
section
namespace L2
section
variable {X:Cx}{pins:List (Addr×Obj)}{σ:St}{H:Hp}{s:Shared}{h':Heap}
theorem Inv.turnedNew {o:HO}(I:Inv X pins σ H s)(k: ∀b u,b ∉ ch->s.heap.get? b=some u->h'.get? b=some u)(hf: ∀b∈ch,zF X pins H b)
  (hp:s.heap.objs.size<=a) (new:nA X.prog X.w (upd H a o) h' a o):Inv X pins σ (upd H a o) {s with heap:=h',toks:=t'}:=by
 have hn:H a=none:=I.hok.fresh hp;have nch: ∀b u,H b=some u->b ∉ ch:=λb u e z=>by have:=(hf b z).1;rw[e]at this;cases this
 refine I.step (g':=s.gens) (d':=s.drawn) (ch:=ch) (λb hb=>⟨(hf b hb).2.2.2.1,(hf b hb).2.1,(hf b hb).2.2.2.2.1,(hf b hb).2.2.2.2.2⟩) (λb u _ _ hc e _=>k b u hc e) (λb u _ _ hc e _=>⟨u.slots,k b u hc e⟩)
  (λb u _ e n=>by rw[cG<|aO<|b7 (aH e) hp];exact n) (λb u hc e=>⟨u,k b u hc e⟩)
  (λb xs e=>by rw[cG<|eT e hn];exact e) (λb ob u e=>by rw[cG<|eT e hn];exact e) (λb ps e=>⟨#[],by rw[cG<|eT e hn,e];simp⟩) (λm hm=> ?_) (λb u e=> ?_) I.bare
 .obtain⟨ob,es,ep,ho,r⟩:=hm;exact⟨ob,es,ep,k _ ob (λz=>(hf _ z).2.1 rfl) ho,r⟩
 .by_cases hb:b=a
  .subst hb;rw[jU]at e;cases e;exact new
  .rw[cG hb]at e;refine(I.hok b u e).stay (λc v hc q=>k c v ?_ q) (λc q=>by rw[cG<|eT q hn];exact q) λc xs q=>by rw[cG<|eT q hn];exact q
   rcases hc with z|z
   .rw[z];exact nch b u e
   .exact nch c _ z
theorem Inv.turnedL (I:Inv X pins σ H s)(k: ∀b u,b ∉ ch->s.heap.get? b=some u->h'.get? b=some u)(hf: ∀b∈ch,zF X pins H b):Inv X pins σ H {s with heap:=h',toks:=t'}:=by
 have nch: ∀b u,H b=some u->b ∉ ch:=λb u e z=>by have:=(hf b z).1;rw[e]at this;cases this
 refine I.step (λb hb=>⟨(hf b hb).2.2.2.1,(hf b hb).2.1,(hf b hb).2.2.2.2.1,(hf b hb).2.2.2.2.2⟩) (λb u _ _ hc e _=>k b u hc e) (λb u _ _ hc e _=>⟨u.slots,k b u hc e⟩)
  (λb u _ e n=>n) (λb u hc e=>⟨u,k b u hc e⟩) (λb xs e=>e) (λb ob u e=>e) (λb ps e=>⟨#[],by rw[e];simp⟩) (λm hm=> ?_) (λb u e=> ?_) I.bare
 .obtain⟨ob,es,ep,ho,r⟩:=hm;exact⟨ob,es,ep,k _ ob (λz=>(hf _ z).2.1 rfl) ho,r⟩
 .refine(I.hok b u e).stay (λc v hc q=>k c v ?_ q) (λc q=>q) λc xs q=>q
  rcases hc with z|z
  .rw[z];exact nch b u e
  .exact nch c _ z
end
def pM (T:Bool)(h:Heap)(a:Addr)(xs:Array Value):Prop:=match T with
 | false=>h.IsList a xs
 | true=>h.IsTuple a xs
def nK (T:Bool)(h:Heap)(it a:Addr)(i:Nat):Prop:=match T with
 | false=>h.IsListIter it a i
 | true=>h.IsTupleIter it a i
nonrec def u8 (T:Bool)(a:Addr):Obj:=match T with
 | false=>{cls:= .type "list_iterator",data:= .fields #[.ref a,.int 0 0]}
 | true=>{cls:= .type "tuple_iterator",data:= .fields #[.ref a,.int 0 0]}
def SqV (K:PySem.W.Frag)(T:Bool)(H:Hp)(a:Addr)(xs:List V):Prop:=match T with
 | false=>SqL K H a xs
 | true=>SqT K H a xs
theorem pM.at (x:pM T h a xs)(e: ∀o,h.get? a=some o->h'.get? a=some o):pM T h' a xs:=by
 cases T<;>(obtain⟨o,ho,r⟩:=x;exact⟨o,e o ho,r⟩)
theorem nK.at (x:nK T h it a i)(e: ∀o,h.get? it=some o->h'.get? it=some o):nK T h' it a i:=by
 cases T<;>(obtain⟨o,ho,r⟩:=x;exact⟨o,e o ho,r⟩)
theorem pM.lt (x:pM T h a xs):a<h.objs.size:=by
 cases T<;>(obtain⟨o,ho,r⟩:=x;exact aH ho)
theorem nK.lt (x:nK T h it a i):it<h.objs.size:=by
 cases T<;>(obtain⟨o,ho,r⟩:=x;exact aH ho)
theorem nK.rec' (x:nK T h it a i): ∃o,h.get? it=some o/\ ∀v,o.data≠ .cell v:=by
 cases T<;>(obtain⟨o,ho,hc,hd⟩:=x;exact⟨o,ho,λv z=>by rw[hd]at z;cases z⟩)
theorem nK.new (h:Heap)(a:Addr):nK T (h.push<|u8 T a) h.objs.size a 0:=by
 cases T<;>exact⟨_,aY _ rfl,rfl,rfl⟩
section
variable {X:Cx}{pins:List (Addr×Obj)}{σ:St}{H:Hp}{s:Shared}
theorem Inv.sq {xs:List V}(I:Inv X pins σ H s)(h:SqV X.K T H a xs): ∃its:List Value,Vals xs its/\pM T s.heap a its.toArray/\xs.length<=sizeLine:=by
 cases T with
 | false=>obtain⟨its,rv,p,hz⟩:=I.list h;exact⟨its,rv,p.isList,hz⟩
 | true=>obtain⟨its,rv,p,hz⟩:=I.tuple h;exact⟨its,rv,p,hz⟩
theorem Inv.sq_inj {xs ys:List V}(I:Inv X pins σ H s)(h:SqV X.K T H a xs)(h':SqV X.K T H a ys):xs=ys:=by
 cases T with
 | false=>exact I.list_inj h h'
 | true=>exact I.tuple_inj h h'
end
section
variable {prog:Program}{w:World}{A:Around}{E:Value->Shared->Prop}{s:Shared}
theorem v8 (hl:pM T s.heap a xs)(hQ:Q (.ref s.heap.objs.size) {s with heap:=s.heap.push (u8 T a)}) :
  wpAny (model prog w) A (pyIter<|.ref a) Q E s:=by
 cases T with
 | false=>exact oA hl hQ
 | true=>exact wpAny_pyIter_tuple hl hQ
theorem bJ9 {x:Value}(hit:s.heap.IsTupleIter it t i)(ht:s.heap.IsTuple t items)(hx:items[i]? =some x)
  (hQ: ∀h',h'.IsTupleIter it t (i+1)->SameBut it s.heap h'->Q x {s with heap:=h'}):wpAny (model prog w) A (Builtin.SmallTypes.nextOf<|.ref it) Q E s:=by
 obtain⟨oi,hoi,hci,hdi⟩:=id hit;obtain⟨ot,hot,_,nt,hdt⟩:=ht;unfold Builtin.SmallTypes.nextOf;refine a6 (fK hit.typeIs r8<|cX r8 hit.typeIs PySem.F.entry_tuple_iterator_next ?_<|PySem.F.args_tuple_iterator_next_1 _);show wpAny _ _ (field (.ref it) 0 >>= _) _ _ s;refine a6 (bY hoi hdi rfl ?_);show wpAny _ _ (field (.ref it) 1 >>= _) _ _ s;refine a6 (bY hoi hdi rfl ?_)
 show wpAny _ _ (seqItems? (.ref t) >>= _) _ _ s;refine a6 (iE hot hdt ?_)
 simp only[bB,hx];refine a6 (iF hoi hdi ae<|aA ⟨x,rfl,aA<|hQ _ ⟨_,i6 _ hoi<|nY<|fL hdi _,(rO ..).trans hci,?_⟩<|gI ..⟩)
 rw[fL hdi];simp[rawInt]
theorem bC1 (hh:A.handled=none)(hit:s.heap.IsTupleIter it t i)(ht:s.heap.IsTuple t items)(hx:items[i]? =none)
  (hE: ∀h' e,ExtBut it s.heap h'->(∃o,h'.get? e=some o/\o.cls= .type "StopIteration")->E (.ref e) {s with heap:=h'}):wpAny (model prog w) A (Builtin.SmallTypes.nextOf<|.ref it) Q E s:=by
 obtain⟨oi,hoi,hci,hdi⟩:=id hit;obtain⟨ot,hot,_,nt,hdt⟩:=ht;unfold Builtin.SmallTypes.nextOf;refine a6 (fK hit.typeIs r8<|cX r8 hit.typeIs PySem.F.entry_tuple_iterator_next ?_<|PySem.F.args_tuple_iterator_next_1 _);show wpAny _ _ (field (.ref it) 0 >>= _) _ _ s;refine a6 (bY hoi hdi rfl ?_);show wpAny _ _ (field (.ref it) 1 >>= _) _ _ s;refine a6 (bY hoi hdi rfl ?_)
 show wpAny _ _ (seqItems? (.ref t) >>= _) _ _ s;refine a6 (iE hot hdt ?_)
 simp only[bB,hx];refine a6 (jM<|a6<|iF hoi hdi ae ?_)
 show wpAny _ _ (newExc (.type "StopIteration") [] >>= _) _ _ _;refine a6 ?_;simp only[newExc];refine a6 (dZ ?_<|by size_fits)
 refine a6 (eB (by first|rfl| (simp only[firstArgMember];rfl)) ?_);refine dZ ?_ (by size_fits)
 simp only[raiseNew];refine a6 (wpAny_handled ?_);first|rw[show A.in1.handled=none from hh]|rw[hh]
 exact a6 (aA<|wpAny_throw<|hE _ _ (((gI ..).extBut.push _).push _) ⟨_,aY _ rfl,rfl⟩)
theorem a59 {T:Bool}{it a:Addr}{i:Nat}{xs:Array Value}{x:Value}{Q:Value->Shared->Prop}(hit:nK T s.heap it a i)(hl:pM T s.heap a xs)(hx:xs[i]? =some x)
  (hQ: ∀h',nK T h' it a (i+1)->SameBut it s.heap h'->Q x {s with heap:=h'}):wpAny (model prog w) A (Builtin.SmallTypes.nextOf<|.ref it) Q E s:=by
 cases T with
 | false=>exact wpAny_nextOf_list_item hit hl hx hQ
 | true=>exact bJ9 hit hl hx hQ
theorem a85 {T:Bool}{it a:Addr}{i:Nat}{xs:Array Value}{Q:Value->Shared->Prop}(hh:A.handled=none)(hit:nK T s.heap it a i)(hl:pM T s.heap a xs)(hx:xs[i]? =none)
  (hE: ∀h' e,ExtBut it s.heap h'->(∃o,h'.get? e=some o/\o.cls= .type "StopIteration")->E (.ref e) {s with heap:=h'}):wpAny (model prog w) A (Builtin.SmallTypes.nextOf<|.ref it) Q E s:=by
 cases T with
 | false=>exact wpAny_nextOf_list_end hh hit hl hx hE
 | true=>exact bC1 hh hit hl hx hE
end
structure ZSt (T1 T2:Bool)(z TI TO i1 i2 l1 l2:Addr)(f0:Value)(i:Nat)(h:Heap):Prop where
 hz:IsZip h z TI TO f0
 hI:IsPair h TI (.ref i1) (.ref i2)
 hO: ∃a b,IsPair h TO a b
 h1:nK T1 h i1 l1 i
 h2:nK T2 h i2 l2 i
structure ZAp (z TI TO i1 i2:Addr):Prop where
 a:TI≠z
 b:TO≠z
 c:i1≠z
 d:i2≠z
 e:TI≠TO
 f:TI≠i1
 g:TI≠i2
 h:TO≠i1
 i:TO≠i2
 j:i1≠i2
section
variable {prog:Program}{w:World}{A:Around}{E:Value->Shared->Prop}{s:Shared}{T1 T2:Bool}{z TI TO i1 i2 l1 l2:Addr}{k:Nat}{xs ys:Array Value}
theorem bK0 {x y:Value}(D:ZAp z TI TO i1 i2)(n1:l1 ∉ [z,TI,TO,i1,i2])(n2:l2 ∉ [z,TI,TO,i1,i2])(st:ZSt T1 T2 z TI TO i1 i2 l1 l2 .none k s.heap)
  (hl1:pM T1 s.heap l1 xs) (hl2:pM T2 s.heap l2 ys) (hx:xs[k]? =some x) (hy:ys[k]? =some y)
  (hQ: ∀h',ZSt T1 T2 z TI TO i1 i2 l1 l2 (rawInt s.heap.objs.size) (k+1) h'->IsPair h' s.heap.objs.size x y->(∀c o,c ∉ [z,TI,TO,i1,i2]->s.heap.get? c=some o->h'.get? c=some o)->Q (.ref s.heap.objs.size) {s with heap:=h'}) :
  wpAny (model prog w) A (Builtin.«zip.__next__» ⟨[.ref z],[]⟩) (λfin s'=> ∃v,fin= .done (.ret v)/\Q v s') E s:=by
 obtain⟨hz,hI,⟨a0,b0,hO⟩,h1,h2⟩:=st;simp only[aG,cL,eS]at n1 n2;show wpAny _ _ (field (.ref z) 2 >>= _) _ _ _;refine a6 (bY hz rfl (x:= .bool false) rfl ?_);show wpAny _ _ (field (.ref z) 3 >>= _) _ _ _;refine a6 (bY hz rfl rfl ?_);refine a6 (iE hI rfl ?_);show wpAny _ _ (Builtin.SmallTypes.ownedTupleIsFree (.ref z) >>= _) _ _ _
 refine a6 ?_;unfold Builtin.SmallTypes.ownedTupleIsFree;refine a6 (bY hz rfl rfl (aA ?_))
 simp only[fS];refine a6 (jM ?_);refine a6 (bY hz rfl rfl ?_);refine a6 (kN hz ae λg1 z1 m1=> ?_);replace z1:IsZip g1 z TI TO .ellipsis:=z1
 refine a6 ?_;simp only[List.zipIdx_cons,rT,List.forIn_nil]
 refine a6 (a6<|rZ ?_);show wpAny _ _ (Builtin.SmallTypes.nextOf (.ref i1) >>= _) _ _ _
 refine a6 (a59 (h1.at λo e=>m1.extBut _ _ D.c e) (hl1.at λo e=>m1.extBut _ _ n1.1 e) hx λg2 p2 m2=>aA ?_)
 have o2:IsPair g2 TO a0 b0:=m2.extBut _ _ D.h (m1.extBut _ _ D.b hO);refine a6 (iE o2 rfl ?_);refine a6 (wM o2 λg3 o3 m3=> ?_);replace o3:IsPair g3 TO x b0:=o3
 refine a6 (wpAny_letGo<|aA ?_)
 refine a6 (a6<|rZ ?_);show wpAny _ _ (Builtin.SmallTypes.nextOf (.ref i2) >>= _) _ _ _
 refine a6 (a59 (s:={s with heap:=g3}) (h2.at λo e=>m3.extBut _ _ D.i.symm (m2.extBut _ _ D.j.symm<|m1.extBut _ _ D.d e)) (hl2.at λo e=>m3.extBut _ _ n2.2.2.1 (m2.extBut _ _ n2.2.2.2.1<|m1.extBut _ _ n2.1 e)) hy λg4 p4 m4=>aA ?_)
 have o4:IsPair g4 TO x b0:=m4.extBut _ _ D.i o3;refine a6 (iE o4 rfl ?_);refine a6 (wM o4 λg5 o5 m5=> ?_);replace o5:IsPair g5 TO x y:=o5
 refine a6 (wpAny_letGo<|aA<|aA ?_)
 refine a6 (iE o5 rfl ?_);refine a6 (wpAny_newTuple ?_)
 have sz:g5.objs.size=s.heap.objs.size:=by rw[m5.1,m4.1,m3.1,m2.1,m1.1]
 have z5:IsZip g5 z TI TO .ellipsis:=m5.extBut _ _ D.b.symm (m4.extBut _ _ D.d.symm<|m3.extBut _ _ D.b.symm<|m2.extBut _ _ D.c.symm z1);have keep5: ∀c o,c≠z->c≠TO->c≠i1->c≠i2->s.heap.get? c=some o->g5.get? c=some o:=λc o c1 c2 c3 c4 e=>m5.extBut _ _ c2 (m4.extBut _ _ c4<|m3.extBut _ _ c2<|m2.extBut _ _ c3<|m1.extBut _ _ c1 e)
 have q1:nK T1 g5 i1 l1 (k+1):=p2.at λo e=>m5.extBut _ _ D.h.symm (m4.extBut _ _ D.j<|m3.extBut _ _ D.h.symm e)
 have q2:nK T2 g5 i2 l2 (k+1):=p4.at λo e=>m5.extBut _ _ D.i.symm e
 have zl:z<g5.objs.size:=aH z5;show wpAny _ _ (Builtin.SmallTypes.ownedTupleHandOut (.ref z) (.ref g5.objs.size) >>= _) _ _ _;refine a6 ?_;unfold Builtin.SmallTypes.ownedTupleHandOut;have z6:IsZip (g5.push {cls:= .type "tuple",data:= .seq #[x,y]}) z TI TO .ellipsis:=aJ _ z5;refine a6 (kN z6 ae λg7 z7 m7=> ?_);replace z7:IsZip g7 z TI TO (rawInt g5.objs.size):=z7
 refine kN z7 ae λg8 z8 m8=> ?_;replace z8:IsZip g8 z TI TO (rawInt g5.objs.size):=z8
 have up: ∀c o,c≠z->g5.get? c=some o->g8.get? c=some o:=λc o c1 e=>m8.extBut _ _ c1 (m7.extBut _ _ c1<|aJ _ e)
 have t8:IsPair g8 g5.objs.size x y:=m8.extBut _ _ (gP zl) (m7.extBut _ _ (gP zl)<|aY _ rfl);rw[sz]at z8 t8;refine aA ⟨_,rfl,?_⟩;rw[sz];refine hQ g8 ⟨z8,up _ _ D.a<|keep5 _ _ D.a D.e D.f D.g hI,⟨x,y,up _ _ D.b o5⟩,q1.at λo e=>up _ _ D.c e,q2.at λo e=>up _ _ D.d e⟩ t8 λc o nc e=> ?_
 simp only[aG,cY,cL,eS]at nc;exact up c o nc.1 (keep5 c o nc.1 nc.2.2.1 nc.2.2.2.1 nc.2.2.2.2 e)
theorem bC2 {Q:Fin->Shared->Prop}(hh:A.handled=none)(D:ZAp z TI TO i1 i2)(n1:l1 ∉ [z,TI,TO,i1,i2])(n2:l2 ∉ [z,TI,TO,i1,i2])(st:ZSt T1 T2 z TI TO i1 i2 l1 l2 .none k s.heap)
  (hl1:pM T1 s.heap l1 xs) (hl2:pM T2 s.heap l2 ys) (hend:xs[k]? =none\/ys[k]? =none)
  (hE: ∀h' e,(∀c o,c ∉ [z,TI,TO,i1,i2]->s.heap.get? c=some o->h'.get? c=some o)->(∃o,h'.get? e=some o/\o.cls= .type "StopIteration")->E (.ref e) {s with heap:=h'}) :
  wpAny (model prog w) A (Builtin.«zip.__next__» ⟨[.ref z],[]⟩) Q E s:=by
 obtain⟨hz,hI,⟨a0,b0,hO⟩,h1,h2⟩:=st;simp only[aG,cL,eS]at n1 n2;have nin: ∀c,c ∉ [z,TI,TO,i1,i2]->c≠z/\c≠TI/\c≠TO/\c≠i1/\c≠i2:=λc h=>by simpa only[aG,cY,cL,eS]using h
 show wpAny _ _ (field (.ref z) 2 >>= _) _ _ _;refine a6 (bY hz rfl (x:= .bool false) rfl ?_)
 show wpAny _ _ (field (.ref z) 3 >>= _) _ _ _;refine a6 (bY hz rfl rfl ?_)
 refine a6 (iE hI rfl ?_);show wpAny _ _ (Builtin.SmallTypes.ownedTupleIsFree (.ref z) >>= _) _ _ _
 refine a6 ?_;unfold Builtin.SmallTypes.ownedTupleIsFree;refine a6 (bY hz rfl rfl (aA ?_))
 simp only[fS];refine a6 (jM ?_);refine a6 (bY hz rfl rfl ?_);refine a6 (kN hz ae λg1 z1 m1=> ?_);replace z1:IsZip g1 z TI TO .ellipsis:=z1
 refine a6 ?_;simp only[List.zipIdx_cons,rT,List.forIn_nil]
 refine a6 (a6<|rZ ?_);show wpAny _ _ (Builtin.SmallTypes.nextOf (.ref i1) >>= _) _ _ _
 cases hx:xs[k]? with
 | none=>
  refine a6 (a85 hh (h1.at λo e=>m1.extBut _ _ D.c e) (hl1.at λo e=>m1.extBut _ _ n1.1 e) hx λg2 e m2 he=> ?_)
  obtain⟨oe,hoe,hce⟩:=he;have z2:IsZip g2 z TI TO .ellipsis:=m2 _ _ D.c.symm z1;have ez:e≠z:=λq=>by subst q;rw[z2]at hoe;cases hoe;simp at hce
  refine kN z2 ae λg3 _ m3=>hE g3 e (λc o nc q=> ?_) ⟨oe,m3.extBut _ _ ez hoe,hce⟩
  obtain⟨c1,c2,c3,c4,c5⟩:=nin c nc;exact m3.extBut _ _ c1 (m2 _ _ c4<|m1.extBut _ _ c1 q)
 | some x=>
  have hy:ys[k]? =none:=by rcases hend with q|q;(rw[hx]at q;cases q);exact q
  refine a6 (a59 (h1.at λo e=>m1.extBut _ _ D.c e) (hl1.at λo e=>m1.extBut _ _ n1.1 e) hx λg2 p2 m2=>aA ?_)
  have o2:IsPair g2 TO a0 b0:=m2.extBut _ _ D.h (m1.extBut _ _ D.b hO);refine a6 (iE o2 rfl ?_);refine a6 (wM o2 λg3 o3 m3=> ?_)
  refine a6 (wpAny_letGo<|aA ?_);refine a6 (a6<|rZ ?_);show wpAny _ _ (Builtin.SmallTypes.nextOf (.ref i2) >>= _) _ _ _
  refine a6 (a85 hh (h2.at λo e=>m3.extBut _ _ D.i.symm (m2.extBut _ _ D.j.symm<|m1.extBut _ _ D.d e)) (hl2.at λo e=>m3.extBut _ _ n2.2.2.1 (m2.extBut _ _ n2.2.2.2.1<|m1.extBut _ _ n2.1 e)) hy λg4 e m4 he=> ?_)
  obtain⟨oe,hoe,hce⟩:=he;have z4:IsZip g4 z TI TO .ellipsis:=m4 _ _ D.d.symm (m3.extBut _ _ D.b.symm<|m2.extBut _ _ D.c.symm z1);have ez:e≠z:=λq=>by subst q;rw[z4]at hoe;cases hoe;simp at hce
  refine kN z4 ae λg5 _ m5=>hE g5 e (λc o nc q=> ?_) ⟨oe,m5.extBut _ _ ez hoe,hce⟩
  obtain⟨c1,c2,c3,c4,c5⟩:=nin c nc;exact m5.extBut _ _ c1 (m4 _ _ c5<|m3.extBut _ _ c3<|m2.extBut _ _ c4<|m1.extBut _ _ c1 q)
end
nonrec def Itz (K:PySem.W.Frag)(T1 T2:Bool)(l1 l2:Addr):It where
 go:=λi H=> ∃xs ys x y,SqV K T1 H l1 xs/\SqV K T2 H l2 ys/\xs[i]? =some x/\ys[i]? =some y
 yld:=λi H v H'=> ∃T x y,v= .ref T/\H T=none/\H'=upd H T (.tup [x,y])/\(∀xs,SqV K T1 H l1 xs->xs[i]? =some x)/\ ∀ys,SqV K T2 H l2 ys->ys[i]? =some y
 stop:=λi H=> ∃xs ys,SqV K T1 H l1 xs/\SqV K T2 H l2 ys/\(xs.length<=i\/ys.length<=i)
theorem ZSt.objs {z TI TO i1 i2:Addr}{f0:Value}(st:ZSt T1 T2 z TI TO i1 i2 l1 l2 f0 i h): ∀b∈[z,TI,TO,i1,i2],∃o,h.get? b=some o/\ ∀v,o.data≠ .cell v:=λb hb=>by
 obtain⟨hz,hI,⟨a,c,hO⟩,h1,h2⟩:=st;simp only[aG,cY,cL]at hb;rcases hb with rfl|rfl|rfl|rfl|rfl
 .exact⟨_,hz,λv q=>by cases q⟩
 .exact⟨_,hI,λv q=>by cases q⟩
 .exact⟨_,hO,λv q=>by cases q⟩
 .exact h1.rec'
 .exact h2.rec'
theorem aS5:2<=sizeLine:=ac
theorem bK1 {z TI TO i1 i2:Addr}(D:ZAp z TI TO i1 i2)(n1:l1 ∉ [z,TI,TO,i1,i2])(n2:l2 ∉ [z,TI,TO,i1,i2]) :
  aQ7 P w K (.Tuple elts kt tp) (Itz K T1 T2 l1 l2) [z,TI,TO,i1,i2] z (ZSt T1 T2 z TI TO i1 i2 l1 l2 .none) where
 mem:=ae
 obj:=λi h st b hb=>st.objs b hb
 keep:=λi h h' st k=>by
  obtain⟨hz,hI,⟨a,c,hO⟩,h1,h2⟩:=st;exact⟨k z ae _ hz,k TI ae _ hI,⟨a,c,k TO ae _ hO⟩,h1.at λo e=>k i1 ae o e,h2.at λo e=>k i2 ae o e⟩
 item:=by
  intro X hP hw hK hc i pins s σ H E I hf st hg;subst hP hw hK;obtain⟨xs,ys,x,y,q1,q2,e1,e2⟩:=hg;obtain⟨is1,r1,p1,_⟩:=I.sq q1;obtain⟨is2,r2,p2,_⟩:=I.sq q2;obtain⟨u1,hu1,ru1⟩:=r1.get e1;obtain⟨u2,hu2,ru2⟩:=r2.get e2;have hT:s.TypeIs (.ref z) "zip":=⟨_,st.hz,rfl⟩
  refine a6 (gN<|fK hT rJ<|cX rJ hT PySem.F.entry_zip_next (bK0 D n1 n2 st p1 p2 (by exists hu1) (by exists hu2) λh' st' ht k=>aA ?_)<|PySem.F.args_zip_next_1 _)
  refine⟨_,rfl,wpAny_letOwnedTupleGo_zip st'.hz λh2 hz2 m=> ?_⟩
  have kk: ∀b u,b ∉ [z,TI,TO,i1,i2]->s.heap.get? b=some u->h2.get? b=some u:=λb u nb e=>m.extBut _ _ (λq=>nb (by simp[q])) (k b u nb e)
  have hne:s.heap.objs.size≠z:=gP (aH st.hz);have ht2:IsPair h2 s.heap.objs.size u1 u2:=m.extBut _ _ hne ht;obtain⟨a',c',hO'⟩:=st'.hO;refine⟨.ref s.heap.objs.size,upd H s.heap.objs.size<|.tup [x,y],I.turnedNew kk hf (aC _) ⟨aS5,[u1,u2],.cons ru1<|.cons ru2 .nil,⟨_,ht2,rfl,_,rfl⟩⟩,rfl,
   ⟨_,x,y,rfl,I.hok.fresh<|aC _,rfl,λxs' q=>by rw[I.sq_inj q q1];exact e1,λys' q=>by rw[I.sq_inj q q2];exact e2⟩,⟨hz2,m.extBut _ _ D.a st'.hI,⟨a',c',m.extBut _ _ D.b hO'⟩,st'.h1.at λo e=>m.extBut _ _ D.c e,st'.h2.at λo e=>m.extBut _ _ D.d e⟩,λb hb=> ?_⟩
  obtain⟨o,ho,_⟩:=st.objs b hb;rw[cG<|aO<|aH ho];exact(hf b hb).1
 done:=by
  intro X hP hw hK hc i pins s σ H E I hf st hg;subst hP hw hK;obtain⟨xs,ys,q1,q2,hs⟩:=hg;obtain⟨is1,r1,p1,_⟩:=I.sq q1;obtain⟨is2,r2,p2,_⟩:=I.sq q2;have l1':=r1.length;have l2':=r2.length;have hT:s.TypeIs (.ref z) "zip":=⟨_,st.hz,rfl⟩;refine a6 (gN<|fK hT rJ<|cX rJ hT PySem.F.entry_zip_next (bC2 (I.ok.hd hc) D n1 n2 st p1 p2 (by simp;omega) λh' e k he=> ?_)<|PySem.F.args_zip_next_1 _)
  obtain⟨o,ho,hc'⟩:=he;exact a6 (rQ ⟨o,ho,hc'⟩ isSubtype_stop<|aA ⟨rfl,I.turnedL k hf⟩)
 self:=λ_ _ _ _ _ st h=>wpAny_pyIter_zip st.hz h
noncomputable abbrev zg1 (T1:Bool)(h:Heap)(l1:Addr):Heap:=h.push (u8 T1 l1)
noncomputable abbrev zg2 (T1 T2:Bool)(h:Heap)(l1 l2:Addr):Heap:=(zg1 T1 h l1).push (u8 T2 l2)
noncomputable abbrev zg3 (T1 T2:Bool)(h:Heap)(l1 l2:Addr):Heap:=(zg2 T1 T2 h l1 l2).push {cls:= .type "tuple",data:= .seq #[.ref h.objs.size,.ref (zg1 T1 h l1).objs.size]}
noncomputable abbrev zg4 (T1 T2:Bool)(h:Heap)(l1 l2:Addr):Heap:=(zg3 T1 T2 h l1 l2).push {cls:= .type "tuple",data:= .seq #[.none,.none]}
noncomputable abbrev zg5 (T1 T2:Bool)(h:Heap)(l1 l2:Addr):Heap:=(zg4 T1 T2 h l1 l2).push {cls:= .type "zip",data:= .fields #[.none,.bool false,.bool false,.ref (zg2 T1 T2 h l1 l2).objs.size,.ref (zg3 T1 T2 h l1 l2).objs.size]}
theorem bY5 (T1 T2:Bool)(l1 l2:Addr)(xs ys:Array Value):Meets (Builtin.«zip.__new__» ⟨[.type "zip",.ref l1,.ref l2],[]⟩) (λ_ R s=>pM T1 s.heap l1 xs/\pM T2 s.heap l2 ys/\
  R (.ok<|.ret<|.ref (zg4 T1 T2 s.heap l1 l2).objs.size) {s with heap:=zg5 T1 T2 s.heap l1 l2}):= .of_wp λprog w A R s h=>by
 obtain⟨hp,g,d,tk,os⟩:=s;obtain⟨hl1,hl2,h⟩:=h;have hsub:=sub_zip;have e1:pM T1 (Shared.heap ⟨hp,g,d,tk,os⟩) l1 xs:=hl1;have e2:pM T2 (Shared.heap ⟨hp.push<|u8 T1 l1,g,d,tk,os⟩) l2 ys:=hl2.at λo e=>aJ _ e
 wp_walk using v8 e1,v8 e2
 exact⟨_,rfl,h⟩
section
variable {prog:Program}{w:World}{A:Around}{E:Value->Shared->Prop}{s:Shared}
theorem bK2 {ys:Array Value}(hl1:pM T1 s.heap l1 xs)(hl2:pM T2 s.heap l2 ys)
  (h: ∀h' z TI TO i1 i2,ZAp z TI TO i1 i2->(∀b∈[z,TI,TO,i1,i2],s.heap.objs.size<=b)->ZSt T1 T2 z TI TO i1 i2 l1 l2 .none 0 h'->(∀c o,s.heap.get? c=some o->h'.get? c=some o)->Q (.ref z) {s with heap:=h'}) :
  wpAny (model prog w) A (call (.type "zip") [.ref l1,.ref l2]) Q E s:=by
 refine callType_new PySem.F.called_zip ac (PySem.F.typeCall_zip_2 _ _) (PySem.F.newCall_zip_2 _ _) (λobj=>PySem.F.args_object_init_3 obj _ _) PySem.F.entry_zip_new (bY5 T1 T2 l1 l2 xs ys) ⟨hl1,hl2,?_⟩
 have z1:(zg1 T1 s.heap l1).objs.size=s.heap.objs.size+1:=dD ..;have z2:(zg2 T1 T2 s.heap l1 l2).objs.size=s.heap.objs.size+2:=by rw[dD,z1]
 have z3:(zg3 T1 T2 s.heap l1 l2).objs.size=s.heap.objs.size+3:=by rw[dD,z2]
 have z4:(zg4 T1 T2 s.heap l1 l2).objs.size=s.heap.objs.size+4:=by rw[dD,z3]
 have g5:(zg5 T1 T2 s.heap l1 l2).get? (zg4 T1 T2 s.heap l1 l2).objs.size=some _:=aY _ rfl;have g4:(zg5 T1 T2 s.heap l1 l2).get? (zg3 T1 T2 s.heap l1 l2).objs.size=some _:=aJ _ (aY _ rfl);have g3:(zg5 T1 T2 s.heap l1 l2).get? (zg2 T1 T2 s.heap l1 l2).objs.size=some _:=aJ _ (aJ _<|aY _ rfl)
 have s2:nK T2 (zg5 T1 T2 s.heap l1 l2) (zg1 T1 s.heap l1).objs.size l2 0:=(nK.new (zg1 T1 s.heap l1) l2).at λo e=>aJ _ (aJ _<|aJ _ e)
 have s1:nK T1 (zg5 T1 T2 s.heap l1 l2) s.heap.objs.size l1 0:=(nK.new s.heap l1).at λo e=>aJ _ (aJ _<|aJ _<|aJ _ e)
 have ap:ZAp (zg4 T1 T2 s.heap l1 l2).objs.size (zg2 T1 T2 s.heap l1 l2).objs.size (zg3 T1 T2 s.heap l1 l2).objs.size s.heap.objs.size (zg1 T1 s.heap l1).objs.size:=by
  rw[z1,z2,z3,z4];have k: ∀n a b:Nat,a≠b->n+a≠n+b:=λn a b h=>aa
  exact⟨k _ 2 4 ac,k _ 3 4 ac,k _ 0 4 ac,k _ 1 4 ac,k _ 2 3 ac,k _ 2 0 ac,k _ 2 1 ac,k _ 3 0 ac,k _ 3 1 ac,k _ 0 1 ac⟩
 refine⟨⟨_,g5,rfl⟩,h _ _ _ _ _ _ ap (λb hb=> ?_) ⟨g5,g3,⟨_,_,g4⟩,s1,s2⟩ λc o e=>aJ _ (aJ _<|aJ _<|aJ _<|aJ _ e)⟩
 simp only[aG,cY,cL]at hb;rcases hb with rfl|rfl|rfl|rfl|rfl<;>omega
end
section
variable {X:Cx}
def iZip (K:PySem.W.Frag)(ta:TA):TI:=λσ H R=>ta σ H λvs H1=> ∃l1 l2 T1 T2 xs ys,vs=[.ref l1,.ref l2]/\SqV K T1 H1 l1 xs/\SqV K T2 H1 l2 ys/\R (Itz K T1 T2 l1 l2) H1
theorem pi_zip {a b:Expr}{ta:TA}(hg:Gl X "zip")(hm:X.mg "zip"=none)(ha:PA X [a,b] ta)(hs:↥(starEach [a,b] X.env=[(false,eval a X.env),(false,eval b X.env)]))(hs2:↥(starEach [b] X.env=[(false,eval b X.env)])) :
  PI X (.Tuple elts kt tp) (.Call (.Name "zip" p) [a,b] [] pos) (iZip X.K ta):=by
 intro pins s σ H R I h;refine Call_ (mM I hg hm PyProof.Rows.boot_zip<|gH (thn (ha pos pins s σ H _ I h) λus s1 ⟨vs,H1,I1,r1,q1⟩=> ?_) (by rw[hs,hs2]) (by rw[hs2];rfl))
 obtain⟨l1,l2,T1,T2,xs,ys,e,q1,q2,q⟩:=q1;subst e;obtain⟨u,v,rfl,r,r'⟩:=Vals.two r1;cases r;cases r';obtain⟨is1,_,p1,_⟩:=I1.sq q1;obtain⟨is2,_,p2,_⟩:=I1.sq q2;refine bK2 p1 p2 λh' z TI TO i1 i2 ap fr st k=>wpAny_pyIter_zip st.hz ?_
 have nl: ∀l,l<s1.heap.objs.size->l ∉ [z,TI,TO,i1,i2]:=λl hl hb=>absurd (b7 hl<|fr l hb) (cZ _)
 exact⟨z,[z,TI,TO,i1,i2],_,_,H1,rfl,I1.kept k,bK1 ap (nl l1 p1.lt)<|nl l2 p2.lt,st,λb hb=>I1.fpOk (fr b hb) (I1.hok.fresh<|fr b hb),q⟩
end
theorem aS6 {prog:Program}(hh:A.handled=none)(it a:Addr)(hne:a≠it)(xs:Array Value):Draws prog w A it [it,a] xs.size (λi v=>xs[i]? =some v) (λi h=>nK T h it a i/\pM T h a xs) where
 live:=λ_ _ st=>let ⟨o,ho,_⟩:=st.1.rec';⟨o,ho⟩
 frame:=λ_ _ _ st k=>⟨st.1.at λo e=>k it ae o e,st.2.at λo e=>k a ae o e⟩
 item:=λi s Q E hi st hQ=>a59 st.1 st.2 (x:=xs[i]) (by simp[hi]) λh' hit' m=>hQ _ h' s.toks (by simp[hi]) ⟨hit',st.2.at λo e=>m.extBut _ _ hne e⟩ m
 done:=λs Q E st hE=>a85 hh st.1 st.2 ae hE
nonrec def Ite (K:PySem.W.Frag)(T:Bool)(l:Addr):It where
 go:=λi H=> ∃xs x,SqV K T H l xs/\xs[i]? =some x
 yld:=λi H v H'=> ∃Tn x,v= .ref Tn/\H Tn=none/\H'=upd H Tn (.tup [.int (i:Int),x])/\ ∀xs,SqV K T H l xs->xs[i]? =some x
 stop:=λi H=> ∃xs,SqV K T H l xs/\xs.length=i
def ESt (T:Bool)(e it l:Addr)(i:Nat)(h:Heap):Prop:=(∃old,IsEnum h e it i old)/\nK T h it l i
theorem ESt.objs {e:Addr}(st:ESt T e it l i h): ∀b∈[e,it],∃o,h.get? b=some o/\ ∀v,o.data≠ .cell v:=λb hb=>by
 obtain⟨⟨old,he⟩,h1⟩:=st;simp only[aG,cY,cL]at hb;rcases hb with rfl|rfl
 .exact⟨_,he,λv q=>by cases q⟩
 .exact h1.rec'
theorem bC3 {e:Addr}(hei:e≠it)(nl:l ∉ [e,it]):aQ7 P w K (.Tuple elts kt tp) (Ite K T l) [e,it] e (ESt T e it l) where
 mem:=ae
 obj:=λi h st b hb=>st.objs b hb
 keep:=λi h h' st k=>by
  obtain⟨⟨old,he⟩,h1⟩:=st;exact⟨⟨old,k e ae _ he⟩,h1.at λo q=>k it ae o q⟩
 item:=by
  intro X hP hw hK hc i pins s σ H E I hf st hg;subst hP hw hK;obtain⟨xs,x,q1,e1⟩:=hg;obtain⟨is1,r1,p1,_⟩:=I.sq q1;obtain⟨u1,hu1,ru1⟩:=r1.get e1;simp only[aG,cY,cL,eS]at nl;obtain⟨⟨old,he⟩,h1⟩:=id st;have hi:i<is1.toArray.size:=by rw[aZ];exact(dN.mp hu1).1
  have D:=aS6 (prog:=X.prog) (w:=X.w) (A:=X.A.in1) (T:=T) (I.ok.hd hc) it l nl.2 is1.toArray;refine wpAny_pyNext_enum_itemD D he ⟨h1,p1⟩ hi hei (by simp[hei,Ne.symm nl.1]) λv h' tk hv ho hs' ht hsz k=>⟨_,rfl,wpAny_letOwnedTupleGo_enum ho λh2 he2 m=> ?_⟩
  have ev:v=u1:=by
   have:is1.toArray[i]? =some u1:=by exists hu1
   rw[this]at hv;cases hv;rfl
  subst ev;have hne:s.heap.objs.size≠e:=gP (aH he);have kk: ∀b u,b ∉ [e,it]->s.heap.get? b=some u->h2.get? b=some u:=λb u nb q=>by
   simp only[aG,cY,cL,eS]at nb;exact m.extBut _ _ nb.1 (k b u nb.1 nb.2 q)
  have ht2:h2.get? s.heap.objs.size=some {cls:= .type "tuple",data:= .seq #[.int i tk,v]}:=m.extBut _ _ hne ht;refine⟨.ref s.heap.objs.size,upd H s.heap.objs.size<|.tup [.int (i:Int),x],I.turnedNew kk hf (aC _) ⟨aS5,[.int i tk,v],.cons ⟨tk,rfl⟩<|.cons ru1 .nil,⟨_,ht2,rfl,_,rfl⟩⟩,rfl,
   ⟨_,x,rfl,I.hok.fresh<|aC _,rfl,λxs' q=>by rw[I.sq_inj q q1];exact e1⟩,⟨⟨_,by exists he2⟩,hs'.1.at λo q=>m.extBut _ _ (Ne.symm hei) q⟩,λb hb=> ?_⟩
  obtain⟨o,ho',_⟩:=st.objs b hb;rw[cG<|aO<|aH ho'];exact(hf b hb).1
 done:=by
  intro X hP hw hK hc i pins s σ H E I hf st hg;subst hP hw hK;obtain⟨xs,q1,hl⟩:=hg;obtain⟨is1,r1,p1,_⟩:=I.sq q1;have l1':=r1.length;simp only[aG,cY,cL,eS]at nl;obtain⟨⟨old,he⟩,h1⟩:=id st;have D:=aS6 (prog:=X.prog) (w:=X.w) (A:=X.A.in1) (T:=T) (I.ok.hd hc) it l nl.2 is1.toArray
  refine wpAny_pyNext_enum_endD D he ⟨by rw[aZ,<-l1',hl];exact h1,p1⟩ λh' ex=>⟨rfl,I.turnedL (λb u nb q=>ex b u (λz=>nb (by simp[z])) q) hf⟩
 self:=λ_ _ _ _ _ st h=>by
  obtain⟨⟨old,he⟩,_⟩:=st;exact wpAny_pyIter_enum he h
theorem bC4 (l:Addr)(xs:Array Value):Meets (Builtin.«enumerate.__new__» ⟨[.type "enumerate",.ref l],[]⟩) (λ_ R s=>s.heap.IsTuple l xs/\
  R (.ok<|.ret<|.ref (s.heap.push<|u8 true l).objs.size) {s with heap:=(s.heap.push<|u8 true l).push {cls:= .type "enumerate",data:= .fields #[.none,.bool false,.ref s.heap.objs.size,rawInt 0,.none,.none]}}):= .of_wp λprog w A R s h=>by
 obtain⟨hp,g,d,tk,os⟩:=s;obtain⟨hl,h⟩:=h;obtain⟨⟨c,dct,dt,sl⟩,hg,hc,n,hd⟩:=id hl
 replace hc:c= .type "tuple":=hc
 replace hd:dt= .seq xs n:=hd
 subst hc hd;have hsub:=sub_enumerate;have e1:pM true (Shared.heap ⟨hp,g,d,tk,os⟩) l xs:=hl
 wp_walk using w6 hg
 refine wpAny_stack_any λst=>aA ?_
 split
 .rename_i c _ _ _ _ _
  cases (c==Value.type "enumerate")<;>(wp_walk using w6 hg,v8 e1;exact⟨_,rfl,h⟩)
 .wp_walk using w6 hg,v8 e1
  exact⟨_,rfl,h⟩
section
variable {prog:Program}{w:World}{A:Around}{E:Value->Shared->Prop}{s:Shared}
theorem bC5 {T:Bool}{l:Addr}{xs:Array Value}{Q:Value->Shared->Prop}(hl:pM T s.heap l xs)
  (h: ∀h' e it,e≠it->s.heap.objs.size<=e->s.heap.objs.size<=it->ESt T e it l 0 h'->(∀c o,s.heap.get? c=some o->h'.get? c=some o)->Q (.ref e) {s with heap:=h'}) :
  wpAny (model prog w) A (call (.type "enumerate") [.ref l]) Q E s:=by
 cases T with
 | false=>exact call_enumerate_list hl λh' he hit hsz k=>h h' _ _ aa aa aa ⟨⟨_,he⟩,hit⟩ k
 | true=>
  refine callType_new PySem.F.called_enumerate ac (PySem.F.typeCall_enumerate_1 _) (PySem.F.newCall_enumerate_1 _) (λobj=>PySem.F.args_object_init_2 obj _) PySem.F.entry_enumerate_new (bC4 l xs) ⟨hl,?_⟩
  have z1:(s.heap.push<|u8 true l).objs.size=s.heap.objs.size+1:=dD ..;have he:IsEnum ((s.heap.push<|u8 true l).push {cls:= .type "enumerate",data:= .fields #[.none,.bool false,.ref s.heap.objs.size,rawInt 0,.none,.none]}) (s.heap.push<|u8 true l).objs.size s.heap.objs.size 0 .none:=aY _ rfl
  have hi:nK true ((s.heap.push<|u8 true l).push {cls:= .type "enumerate",data:= .fields #[.none,.bool false,.ref s.heap.objs.size,rawInt 0,.none,.none]}) s.heap.objs.size l 0:=(nK.new s.heap l).at λo e=>aJ _ e
  exact⟨⟨_,he,rfl⟩,h _ _ _ (by rw[z1];omega) (by rw[z1];omega) (aC _) ⟨⟨_,he⟩,hi⟩ λc o e=>aJ _ (aJ _ e)⟩
end
section
variable {X:Cx}
def iEnum (K:PySem.W.Frag)(ta:TA):TI:=λσ H R=>ta σ H λvs H1=> ∃l T xs,vs=[.ref l]/\SqV K T H1 l xs/\R (Ite K T l) H1
theorem bY6 {a:Expr}{ta:TA}(hg:Gl X "enumerate")(hm:X.mg "enumerate"=none)(ha:PA X [a] ta)(hs:↥(starEach [a] X.env=[(false,eval a X.env)])) :
  PI X (.Tuple elts kt tp) (.Call (.Name "enumerate" p) [a] [] pos) (iEnum X.K ta):=by
 intro pins s σ H R I h;refine Call_ (mM I hg hm PyProof.Rows.boot_enumerate<|gH (thn (ha pos pins s σ H _ I h) λus s1 ⟨vs,H1,I1,r1,q1⟩=> ?_) hs rfl)
 obtain⟨l,T,xs,e,q1,q⟩:=q1;subst e;obtain⟨u,rfl,r⟩:=vals1 r1;cases r;obtain⟨is1,_,p1,_⟩:=I1.sq q1;refine bC5 p1 λh' e it ne f1 f2 st k=> ?_
 obtain⟨⟨old,he⟩,_⟩:=id st;refine wpAny_pyIter_enum he ?_;have lt:=p1.lt;have fr: ∀b∈[e,it],s1.heap.objs.size<=b:=λb hb=>by
  simp only[aG,cY,cL]at hb;rcases hb with rfl|rfl
  .exact f1
  .exact f2
 exact⟨e,[e,it],_,_,H1,rfl,I1.kept k,bC3 ne λhb=>absurd (b7 lt<|fr l hb) (cZ _),st,λb hb=>I1.fpOk (fr b hb) (I1.hok.fresh<|fr b hb),q⟩
end
theorem a37:isSubtype (.type "range_iterator") (.type "reversed")=pure false:=by rw[gM];kernel_rfl
theorem a86 {n:Int}(h1: -(2^31)<=n)(h2:n<2^31):Builtin.Range.rangeFitsLong n=true:=by
 simp[Builtin.Range.rangeFitsLong]
 lia
nonrec def yD (n:Int):Obj:={cls:= .type "range_iterator",data:= .fields #[rawInt<|(n.toNat:Int)-1,rawInt (n.toNat:Int),rawInt<|-1]}
theorem aD5 (r:Addr)(a b c:Int)(t u v:Tok)(hc0: ¬(!(Builtin.Range.rangeFitsLong a&&Builtin.Range.rangeFitsLong b&&Builtin.Range.rangeFitsLong c&&Builtin.Range.rangeFitsLong (-c)&&Builtin.Range.rangeFitsLong (a-c)&&Builtin.Range.rangeFitsLong (Builtin.Range.rangeSize a b c)))=true) :
  Meets (Builtin.«range.__reversed__» ⟨[.ref r],[]⟩) (λ_ R s=>s.heap.get? r=some {cls:= .type "range",dict:=none,data:= .fields #[.int a t,.int b u,.int c v],slots:= #[]}/\
  R (.ok<|.ret<|Value.ref s.heap.objs.size) {s with heap:=s.heap.push {cls:=Value.type (if(Builtin.Range.rangeFitsLong a&&Builtin.Range.rangeFitsLong b&&Builtin.Range.rangeFitsLong c&&Builtin.Range.rangeFitsLong (-c)&&Builtin.Range.rangeFitsLong (a-c)&&Builtin.Range.rangeFitsLong (Builtin.Range.rangeSize a b c))=true then "range_iterator" else "longrange_iterator"),data:=Data.fields #[rawInt<|a+(Builtin.Range.rangeSize a b c-1)*c,rawInt<|Builtin.Range.rangeSize a b c,rawInt<|-c]},toks:=s.toks}):= .of_wp λprog w A R s h=>by
 obtain⟨hl,h⟩:=h
 wp_walk
 exact⟨_,rfl,h⟩
theorem a38 (r:Addr)(n:Int)(t u v:Tok)(h1: -(2^31)<=n)(h2:n<2^31):Meets (Builtin.«range.__reversed__» ⟨[.ref r],[]⟩) (λ_ R s=>IsRange s.heap r 0 n 1 t u v/\
  R (.ok<|.ret<|.ref s.heap.objs.size) {s with heap:=s.heap.push (yD n)}):=by
 have e0:Builtin.Range.rangeSize 0 n 1=(n.toNat:Int):=by rw[rangeSize_one];split<;>lia
 have sm:(Builtin.Range.rangeFitsLong 0&&Builtin.Range.rangeFitsLong n&&Builtin.Range.rangeFitsLong 1&&Builtin.Range.rangeFitsLong (-1)&&Builtin.Range.rangeFitsLong (0-1)&&Builtin.Range.rangeFitsLong (Builtin.Range.rangeSize 0 n 1))=true:=by
  rw[e0,a86 h1 h2,a86 ac ac,a86 ac ac,a86 ac ac,a86 (n:=(n.toNat:Int)) ad ad]
  rfl
 have G:=aD5 r 0 n 1 t u v (by rw[sm];decide)
 intro prog w A R s h;refine G prog w A R s ⟨h.1,?_⟩;rw[sm,e0];have e1:(0:Int)+((n.toNat:Int)-1)*1=(n.toNat:Int)-1:=ad
 rw[e1];exact h.2
section
variable {prog:Program}{w:World}{A:Around}{E:Value->Shared->Prop}{s:Shared}
theorem aS7 {r:Addr}{n:Int}{t u v:Tok}{Q₁:Value->Shared->Prop}(hr:IsRange s.heap r 0 n 1 t u v)(h1: -(2^31)<=n)(h2:n<2^31)
  (h:Q₁ (.ref s.heap.objs.size) {s with heap:=s.heap.push (yD n)}) :
  codeAny (model prog w) A (.call (.builtin "reversed.__new__") ⟨[.type "reversed",.ref r],[]⟩) (wants Q₁ E) s:=by
 have hT:s.TypeIs (.ref r) "range":=⟨_,hr,rfl⟩;refine xE ?_;refine a6 (eB (PySem.F.newCall_reversed_1 _)<|aA ⟨oJ PySem.F.plain_reversed_new _,iD PySem.F.entry_reversed_new ?_⟩);refine a6 (eB (newClass_reversed _) ?_);try right
 refine a6 (eB (by first|rfl|kernel_rfl) ?_);refine a6 (eB (by first|rfl|kernel_rfl) ?_);try right
 refine a6 (rV hT PySem.F.slot_range_reversed.lookup ?_);try right
 refine a6 (eB (PySem.F.slot_range_reversed.bind _) ?_);try right
 first
 | rw[a7<|show ¬((Value.builtin "range.__reversed__"==Value.none)=true)from bG]
 | (show wpAny _ _ (if(Value.builtin "range.__reversed__"==Value.none)=true then _ else _) _ _ _;rw[a7<|show ¬((Value.builtin "range.__reversed__"==Value.none)=true)from bG])
 refine a6 (m:=runValue (.call (.builtin "range.__reversed__") ⟨[.ref r],[]⟩)) (show wpAny _ _ (call (.builtin "range.__reversed__") [.ref r]) _ _ _ from call_meets PySem.F.slot_range_reversed hT PySem.F.entry_range_reversed (PySem.F.args_range_reversed_1 _) (a38 r n t u v h1 h2) ⟨hr,?_⟩)
 first
 | exact aA h
 | exact a6 (aA<|aA h)
theorem bY7 {r:Addr}{n:Int}{t u v:Tok}(hr:IsRange s.heap r 0 n 1 t u v)(h1: -(2^31)<=n)(h2:n<2^31)(h:Q (.ref s.heap.objs.size) {s with heap:=s.heap.push (yD n)}) :
  wpAny (model prog w) A (call (.type "reversed") [.ref r]) Q E s:=by
 refine callType_other (Q₁:=λobj s₁=>obj= .ref s.heap.objs.size/\s₁={s with heap:=s.heap.push (yD n)}) af PySem.F.create_reversed ⟨_,_,PySem.F.mro_reversed⟩ PySem.F.made_reversed a37 (PySem.F.typeCall_reversed_1 _) (aS7 hr h1 h2 ⟨rfl,rfl⟩) ?_
 rintro obj s₁ ⟨rfl,rfl⟩;exact⟨⟨_,aY _ rfl,rfl⟩,h⟩
end
section
variable {X:Cx}{tg:Expr}
def iRevR (ta:TA):TI:=λσ H R=>ta σ H λvs H1=> ∃j:Int,vs=[.int j]/\ -(2^31)<=j/\j<2^31/\R (Itd ((j.toNat:Int)-1) j.toNat) H1
theorem aS8 {a:Expr}{ta:TA}{p2 pos2:Pos}(hg:Gl X "reversed")(hm:X.mg "reversed"=none)(hg2:Gl X "range")(hm2:X.mg "range"=none)(ha:PA X [a] ta)(hs:↥(starEach [a] X.env=[(false,eval a X.env)]))
  (hs2:↥(starEach [.Call (.Name "range" p2) [a] [] pos2] X.env=[(false,eval (.Call (.Name "range" p2) [a] [] pos2) X.env)])) :
  PI X tg (.Call (.Name "reversed" p) [.Call (.Name "range" p2) [a] [] pos2] [] pos) (iRevR ta):=by
 intro pins s σ H R I h;refine Call_ (mM I hg hm PyProof.Rows.boot_reversed<|gH ?_ hs2 rfl);show wpAny _ _ (spliced ((false,eval (.Call (.Name "range" p2) [a] [] pos2) X.env)::[])) _ _ s;refine wS (Call_<|mM I hg2 hm2 boot_range<|gH (thn (ha pos2 pins s σ H _ I h) λus s1 ⟨vs,H1,I1,r1,q1⟩=> ?_) hs rfl)
 obtain⟨j,e,q1,q2,q⟩:=q1;subst e;obtain⟨u,rfl,t,rfl⟩:=vals1 r1;refine call_range_1 (wT ?_);have I2:Inv X pins σ H1 {s1 with heap:=s1.heap.push {cls:= .type "range",data:= .fields #[.int 0 s1.toks,.int j t,.int 1<|s1.toks+1]},toks:=s1.toks+1+1}:=I1.kept λb o e=>aJ _ e
 refine bY7 (IsRange.new ..) q1 q2 ?_
 have hi:IsRangeIter (((s1.heap.push {cls:= .type "range",data:= .fields #[.int 0 s1.toks,.int j t,.int 1<|s1.toks+1]})).push<|yD j) (s1.heap.push {cls:= .type "range",data:= .fields #[.int 0 s1.toks,.int j t,.int 1<|s1.toks+1]}).objs.size ((j.toNat:Int)-1) (j.toNat:Int) (-1):=aY _ rfl;refine wE hi ?_
 refine⟨_,[(s1.heap.push {cls:= .type "range",data:= .fields #[.int 0 s1.toks,.int j t,.int 1<|s1.toks+1]}).objs.size],_,_,H1,rfl,I2.kept λb o e=>aJ _ e,bB9 _ ((j.toNat:Int)-1) j.toNat,?_,λb hb=> ?_,q⟩
 .show IsRangeIter _ _ (((j.toNat:Int)-1)+((0:Nat):Int)*(-1)) ((j.toNat:Int)-((0:Nat):Int)) (-1)
  have e1:((j.toNat:Int)-1)+((0:Nat):Int)*(-1)=(j.toNat:Int)-1:=ae
  have e2:(j.toNat:Int)-((0:Nat):Int)=(j.toNat:Int):=ae
  rw[e1];exact hi
 .have e:b=(s1.heap.push {cls:= .type "range",data:= .fields #[.int 0 s1.toks,.int j t,.int 1<|s1.toks+1]}).objs.size:=by exists hb
  subst e;exact I2.fpOk (aC _) (I2.hok.fresh<|aC _)
theorem bK3:PGet X (rIxL X.K):=by
 intro pins s σ H o i ov iv Q I ro ri h;obtain⟨p,xs,k,z,rfl,rfl,hq,he,q⟩:=h;cases ro;obtain⟨t,rfl⟩:=ri;obtain⟨its,r,pl,hz⟩:=I.list hq;obtain⟨j,h1,h2,h3,h4,h5⟩:=a56 he;obtain⟨w,ew,rw'⟩:=r.get h2;have hl:=r.length;have hn:=zG;have fin:EP X pins σ Q w s:=⟨z,H,I,rw',q⟩
 by_cases h0:0<=k
 .have hj:k.toNat=j:=by
   rw[sH h0 h5]at h1;exact eQ h1
  exact wpAny_getItem_list pl.isList h0 ad (by rw[hj];exists ew) fin
 .have hj:(k+(its.toArray.size:Int)).toNat=j:=by
   rw[sD ad h4]at h1
   rw[aZ,<-hl];exact eQ h1
  exact wpAny_getItem_list_neg pl.isList ad (by rw[aZ]<;>lia) ad (by rw[hj];exists ew) fin
end
end L2
namespace HT
open PySem PyProof.Rows
section
variable {prog:Program}{w:World}{A:Around}{E:Value->Shared->Prop}{s:Shared}
theorem getItem_tuple_whole {lo:Option Int}(ht:IsTup s.heap t items)(hs:s.heap.IsSliceOf sl vl vu .none)(pl:IsPart vl lo)(pu:IsPart vu hi)
  (hw:sIx items.size 0 lo=0/\sIx items.size items.size hi=items.size) (h:Q (.ref t) s):wpAny (model prog w) A (getItem (.ref t)<|.ref sl) Q E s:=by
 obtain⟨os,hos,hcs,hds⟩:=id hs;have hTs:s.TypeIs (.ref sl) "slice":=⟨os,hos,hcs⟩;unfold getItem;try with_reducible refine cC ?_
 first|refine a6 (aA ?_)|skip
 refine a6 (wpAny_sequenceKey ht.typeIs ac ?_)
 refine a6 (fK (name:=Str.ofString "__getitem__") ht.typeIs rA<|cX rA ht.typeIs entry_tuple_getitem ?_<|args_tuple_getitem _ _)
 show wpAny _ _ (Builtin.Tuple.tupleItemsOf (.ref t) >>= _) _ _ s
 refine a6 (tupleItemsOf_ ht ?_)
 refine a6 (oN hTs ?_)
 rw[a8 ac]
 refine a6 (qE hs pl pu ?_)
 have hyes:(((sIx items.size 0 lo:Nat):Int)==0&&(1:Int)==1&&(sIx items.size items.size hi-sIx items.size 0 lo)==items.size)=true:=by
  rw[hw.1,hw.2];simp
 show wpAny _ _ (if(((sIx items.size 0 lo:Nat):Int)==0&&(1:Int)==1&&(sIx items.size items.size hi-sIx items.size 0 lo)==items.size)=true then _ else _) _ _ s
 rw[a8 hyes];show wpAny _ _ (Builtin.Tuple.tupleIsExact (.ref t) >>= _) _ _ s;unfold Builtin.Tuple.tupleIsExact;refine a6 (a6<|oN ht.typeIs<|aA ?_);show wpAny _ _ (if(Value.type "tuple"==Value.type "tuple")=true then _ else _) _ _ s;rw[a8 ac]
 refine a6 (jM ?_)
 first
  | exact aA ⟨_,rfl,aA h⟩
  | exact a6 (aA<|aA ⟨_,rfl,aA h⟩)
  | exact a6 (aA ⟨_,rfl,aA h⟩)
end
end HT
namespace L2
section
variable {X:Cx}
def rSlW (K:PySem.W.Frag):V->Option Int->Option Int->Hp->VK->Prop:=λx lo hi H Q=> ∃a xs,x= .ref a/\SqT K H a xs/\(HT.sIx xs.length 0 lo=0/\HT.sIx xs.length xs.length hi=xs.length)/\Q (.ref a) H
theorem bK4:SlR X (rSlW X.K):=by
 intro pins s σ H x v vl vu lo hi sl Q I rx hs pl pu h;obtain⟨a,xs,rfl,hx,hw,q⟩:=h;cases rx;obtain⟨its,r,ht,hz⟩:=I.tuple hx;have hlen:its.toArray.size=xs.length:=by rw[aZ];exact r.length.symm
 exact⟨"tuple",_,PyProof.Rows.slot_tuple_getitem.lookup,ht.typeIs,HT.getItem_tuple_whole ht hs pl pu (by rw[hlen];exact hw) ⟨.ref a,H,I,rfl,q⟩⟩
end
end L2
namespace M
section
variable {X:Cx}{K:PySem.W.Frag}{A:AS}{H:Hp}{e a b:Expr}{te ti:UE}{pos p2:Pos}{C:C0}{ρ ρ':Ev}{σ:L2.St}
def gSlT (d:D)(lo hi:Option Int)(Q:B->Prop):Prop:=match d with
 | .tup l=>Q (.pu<|.tup<|cutD l lo hi)
 | .lst l=>Q (.ow<|cutD l lo hi)
 | .rol l=>Q (.ow<|cutD l lo hi)
 | _=>False
def bY8 (t:UE)(tl th:UO):UE:=λρ Q=>t ρ λb0 ρ1=>tl ρ1 λlo ρ2=>th ρ2 λhi ρ3=>gSlT b0.d lo hi λb=>Q b ρ3
theorem bC6 (l:List D)(lo hi:Option Int)(h:HT.sIx l.length 0 lo=0/\HT.sIx l.length l.length hi=l.length):cutD l lo hi=l:=by
 unfold cutD;rw[h.1,h.2];simp
theorem aG4 {tl th:UO}{lo hi:Option Expr}(he:PU X e te)(hl:PUO X lo tl)(hu:PUO X hi th):PU X (.Subscript e (.Slice lo hi none p2) pos) (bY8 te tl th):=
 fE (aR2 ((b55.or bH1).or bK4) he hl hu) λσ H Q ⟨C,ρ,Q0,I,h,k⟩=>⟨C,ρ,_,I,h,λb0 ρ1 v H1 q f s r=>by
  have I1:=(I.frz f).same s;have rr:=r.rep λa z=>I.avF f z
  refine⟨C,ρ1,_,I1,q,λl2 ρ2 H2 q2 f2 s2=> ?_⟩
  have I2:=(I1.frz f2).same s2;refine⟨C,ρ2,_,I2,q2,λh3 ρ3 H3 q3 f3 s3=> ?_⟩
  have I3:=(I2.frz f3).same s3;have s13:=s2.trans s3;have sAll:=s.trans s13;have fAll:=f.trans (f2.trans f3);have r':Rep X.K (Av C ρ3 σ) H3 b0.d v:=rr.mono (.sub s13 λa z=>f2.av (f3.av z))
  generalize b0.d=d at r' q3;cases d with
  | tup l=>
   have r2:=r';obtain⟨a,vs,rfl,c,rs⟩:=r';have hlen:=rs.length
   by_cases hw:HT.sIx l.length 0 l2=0/\HT.sIx l.length l.length h3=l.length
   .refine .inr ⟨a,vs,rfl,c.imp bZ id,by rw[<-hlen];exact hw,k _ ρ3 _ _ q3 fAll sAll ?_⟩
    rw[bC6 l l2 h3 hw];exact r2
   .exact .inl (.inr ⟨a,vs,rfl,c.imp bZ id,by rw[<-hlen];exact hw,λp n=>k _ ρ3 _ _ q3 fAll (sAll.trans<|cV n _) (gE (λa z=>I3.avSome z) n<|rs.cut l2 h3)⟩)
  | lst l=>
   obtain⟨a,vs,rfl,n0,c,rs⟩:=r';exact .inl (.inl ⟨a,vs,rfl,SqL.of c,λp n=>k _ ρ3 _ _ q3 fAll (sAll.trans<|cV n _) (dU sAll n<|rs.cut l2 h3)⟩)
  | rol l=>
   obtain⟨a,vs,rfl,c,rs⟩:=r';exact .inl (.inl ⟨a,vs,rfl,c.imp bZ id,λp n=>k _ ρ3 _ _ q3 fAll (sAll.trans<|cV n _) (dU sAll n<|rs.cut l2 h3)⟩)
  | _=>exact(show False from q3).elim⟩
def bK5 (i:Nat)(f:Int->Int->Int)(ti te:UE):US:=λD ρ=>kB ρ i λ_=>ti ρ λj ρ1=>kB ρ1 i λl1=> ∃k n x,j.d= .int k/\ixN l1.length k=some n/\l1[n]? =some (.int x)/\
 te ρ1 λb ρ2=>kB ρ2 i λl=> ∃y,b.d= .int y/\D.nx (ρ2.set i<|some<|.ow<|l.set n<|.int<|f x y)
theorem bY9 {ix:Expr}{op:Operator}{f:Int->Int->Int}(i:Nat)(hx:PE X (.Name x p) (a34 i))(hi:PU X ix ti)(he:PU X e te)(hp:PIp X op (ipI f))
  (ha: ∀ov iv new,augStore ix ov iv new=(do holding [new,ov,iv] (setItem ov iv new);release [new,ov,iv] [];pure .next):=by intros;rfl):PUS X (.AugAssign (.Subscript (.Name x p) ix tpos) op e pos) (bK5 i f ti te):=
 tH (bV5 hx hi bK3 he hp aR3 ha) λD σ H ⟨C,ρ,D0,I,h,k⟩=>by
  obtain⟨l,hl,h⟩:=iR h;obtain⟨a,vs,h1,h2,h3,h4⟩:=I.ow i l hl;refine⟨.ref a,h1,C,ρ,_,I,h,λj ρ1 w H1 q f1 s1 r1=> ?_⟩
  obtain⟨l1,hl1,kk,n,x0,ej,en,ex,q⟩:=iR q;have e1:=f1.ow hl1;rw[hl]at e1;cases e1;have I1:=(I.frz f1).same s1;obtain⟨a1,vs1,g1,g2,g3,g4⟩:=I1.ow i l hl1;rw[h1]at g1;cases g1;have rj:=r1.rep λa z=>I.avF f1 z
  rw[ej]at rj;have:=bJ rj;subst this;obtain⟨v0,ev0,rv0⟩:=g4.get ex;have:=bJ rv0;subst this;have hat:L2.atI vs1 kk=some (.int x0):=by unfold L2.atI;rw[<-g4.length,en];exact ev0
  refine⟨a,vs1,kk,_,rfl,rfl,SqL.of g2,hat,C,ρ1,_,I1,q,λb ρ2 w2 H2 q2 f2 s2 r2=> ?_⟩
  obtain⟨l2,hl2,y,eb,q2⟩:=iR q2;have e2:=f2.ow hl2;rw[hl1]at e2;cases e2;have I2:=(I1.frz f2).same s2;obtain⟨a2,vs2,k1,k2,k3,k4⟩:=I2.ow i l hl2;rw[h1]at k1;cases k1;have rb:=r2.rep λa z=>I1.avF f2 z
  rw[eb]at rb;have:=bJ rb;subst this;exact⟨x0,y,rfl,rfl,a,vs2,kk,n,rfl,rfl,k2,by rw[<-k4.length];exact en,k.nx _ _ _ q2<|I2.write hl2 h1<|k4.set n<|show Rep _ _ _ _ _ by simp only[Rep]⟩
mutual
noncomputable def pd:D->Option PyData
 | .non=>some .none
 | .bl b=>some (.bool b)
 | .int i=>some (.int i)
 | .tup l=>(pdL l).map .tuple
 | .lst l=>(pdL l).map .list
 | .rol l=>(pdL l).map .list
 | .str s=>if PyData.canLay0 (.str s)=true then some (.str s)else none
 | .ty _=>none
 | .obj _ _ _=>none
 | .adr _=>none
 | .xob _ _ _ _=>none
noncomputable def pdL:List D->Option (List PyData)
 | []=>some []
 | d::r=>(pd d).bind λx=>(pdL r).map (x::·)
end
theorem aS9 {d:D}{r:List D}{xs:List PyData}(h:pdL (d::r)=some xs): ∃x ys,xs=x::ys/\pd d=some x/\pdL r=some ys:=by
 simp only[pdL]at h;cases e:pd d with
 | none=>rw[e]at h;cases h
 | some x=>
  rw[e]at h;cases e2:pdL r with
  | none=>rw[e2]at h;cases h
  | some ys=>rw[e2]at h;cases h;exact⟨x,ys,rfl,rfl,rfl⟩
theorem nR {α β:Type}{o:Option α}{f:α->β}{y:β}(h:o.map f=some y): ∃x,o=some x/\y=f x:=by
 cases o with
 | none=>cases h
 | some x=>cases h;exact⟨x,rfl,rfl⟩
mutual
theorem aM4: ∀(d:D) {x:PyData},pd d=some x->x.canLay0=true
 | .non,x,h=>by simp only[pd]at h;cases h;rfl
 | .bl b,x,h=>by simp only[pd]at h;cases h;rfl
 | .int i,x,h=>by simp only[pd]at h;cases h;rfl
 | .tup l,x,h=>by simp only[pd]at h;obtain⟨xs,e,rfl⟩:=nR h;simp only[PyData.canLay0];exact a60 l e
 | .lst l,x,h=>by simp only[pd]at h;obtain⟨xs,e,rfl⟩:=nR h;simp only[PyData.canLay0];exact a60 l e
 | .rol l,x,h=>by simp only[pd]at h;obtain⟨xs,e,rfl⟩:=nR h;simp only[PyData.canLay0];exact a60 l e
 | .str s,x,h=>by simp only[pd]at h;split at h;(rename_i c;cases h;exact c);cases h
 | .ty _,x,h=>by simp only[pd]at h;cases h
 | .obj _ _ _,x,h=>by simp only[pd]at h;cases h
 | .adr _,x,h=>by simp only[pd]at h;cases h
 | .xob _ _ _ _,x,h=>by simp only[pd]at h;cases h
theorem a60: ∀(l:List D) {xs:List PyData},pdL l=some xs->PyData.canLayAll0 xs=true
 | [],xs,h=>by simp only[pdL]at h;cases h;rfl
 | d::r,xs,h=>by
  obtain⟨x,ys,rfl,e1,e2⟩:=aS9 h;simp only[PyData.canLayAll0,bK];exact⟨aM4 d e1,a60 r e2⟩
end
section
variable {pins:List (Addr×Obj)}{s:Shared}
mutual
theorem zO (I:Inv X pins σ H s): ∀(d:D) {x:PyData} {v:V} {u:Value},pd d=some x->Rep X.K A H d v->RelV v u-> ∃as,Reads s.heap u x as
 | .non,x,v,u,h,r,q=>by simp only[pd]at h;cases h;simp only[Rep]at r;subst r;cases q;exact⟨_,.none⟩
 | .bl b,x,v,u,h,r,q=>by simp only[pd]at h;cases h;simp only[Rep]at r;subst r;cases q;exact⟨_,.bool b⟩
 | .int i,x,v,u,h,r,q=>by simp only[pd]at h;cases h;simp only[Rep]at r;subst r;obtain⟨t,rfl⟩:=q;exact⟨_,.int i t⟩
 | .tup l,x,v,u,h,r,q=>by
  simp only[pd]at h;obtain⟨xs,e,rfl⟩:=nR h;simp only[Rep]at r;obtain⟨a,vs,rfl,c,rs⟩:=r;cases q;obtain⟨its,rv,⟨o,ho,hc,n,hd⟩,hz⟩:=I.tuple (c.imp bZ id);obtain⟨as,ra⟩:=sQ I l e rs rv;exact⟨_,.tuple ho hc hd<|by exists ra⟩
 | .lst l,x,v,u,h,r,q=>by
  simp only[pd]at h;obtain⟨xs,e,rfl⟩:=nR h;simp only[Rep]at r;obtain⟨a,vs,rfl,n0,c,rs⟩:=r;cases q;obtain⟨its,rv,p,hz⟩:=I.list (SqL.of c);obtain⟨o,ho,hc,n,hd⟩:=p.isList;obtain⟨as,ra⟩:=sQ I l e rs rv;exact⟨_,.list ho hc hd<|by exists ra⟩
 | .rol l,x,v,u,h,r,q=>by
  simp only[pd]at h;obtain⟨xs,e,rfl⟩:=nR h;simp only[Rep]at r;obtain⟨a,vs,rfl,c,rs⟩:=r;cases q;obtain⟨its,rv,p,hz⟩:=I.list (c.imp bZ id);obtain⟨o,ho,hc,n,hd⟩:=p.isList;obtain⟨as,ra⟩:=sQ I l e rs rv;exact⟨_,.list ho hc hd<|by exists ra⟩
 | .str i,x,v,u,h,r,q=>by simp only[pd]at h;split at h<;>cases h;simp only[Rep]at r;subst r;obtain⟨t,rfl⟩:=q;exact⟨_,.str i t⟩
 | .ty _,x,v,u,h,r,q=>by simp only[pd]at h;cases h
 | .obj _ _ _,x,v,u,h,r,q=>by simp only[pd]at h;cases h
 | .adr _,x,v,u,h,r,q=>by simp only[pd]at h;cases h
 | .xob _ _ _ _,x,v,u,h,r,q=>by simp only[pd]at h;cases h
theorem sQ (I:Inv X pins σ H s): ∀(l:List D) {xs:List PyData} {vs:List V} {us:List Value},pdL l=some xs->aV X.K A H l vs->Vals vs us-> ∃as,ReadsAll s.heap us xs as
 | [],xs,vs,us,h,r,q=>by simp only[pdL]at h;cases h;have:=r.unnil;subst this;cases q;exact⟨_,.nil⟩
 | d::l,xs,vs,us,h,r,q=>by
  obtain⟨x,ys,rfl,e1,e2⟩:=aS9 h;obtain⟨v,vr,rfl,r1,rs⟩:=r.uncons;cases q with
  | cons q1 q2=>
   obtain⟨as,h1⟩:=zO I d e1 r1 q1;obtain⟨bs,h2⟩:=sQ I l e2 rs q2;exact⟨_,.cons h1 h2⟩
end
end
def bK6 (neg:Bool)(d e:D)(Q:B->Prop):Prop:= ∃p q,pd d=some p/\pd e=some q/\p.depth<=60/\Q (.pu<|.bl<|neg ^^ p.eqv q)
theorem bK7 (hu:X.A.units+64<cLine):OpU X (compareOp .Eq) (bK6 false):=by
 intro A H d e v w Q0 Q hA r1 r2 g k;obtain⟨p,q,e1,e2,hd,g⟩:=g;refine⟨λx y H Q=> ∃(A:AS) (d e:D) (p q:PyData),Rep X.K A H d x/\Rep X.K A H e y/\pd d=some p/\pd e=some q/\p.depth<=60/\Q (.bl<|p.eqv q) H,?_,A,d,e,p,q,r1,r2,e1,e2,hd,k _ _ H g (.refl _) (by rw[jG];exact iH)⟩
 rintro pins s σ H x y v u Q I rx ry ⟨A,d,e,p,q,r1,r2,e1,e2,hd,h⟩;obtain⟨as,ra⟩:=zO I d e1 r1 rx;obtain⟨bs,rb⟩:=zO I e e2 r2 ry;exact SeqAt.compareEq_reads ra rb (aM4 d e1) (aM4 e e2) ad ⟨.bl _,H,I,rfl,h⟩
def SqA (K:PySem.W.Frag)(A:AS)(H:Hp)(T:Bool)(a:Addr)(vs:List V):Prop:=match T with
 | false=>(¬A a/\Rd H a (.lst vs))\/KL K a vs
 | true=>(¬A a/\Rd H a (.tup vs))\/KT K a vs
theorem SqA.sqv {a':Addr}{vs:List V}{A':AS}{H':Hp}(c:SqA K A H T a' vs)(P:jS A H A' H'):SqV K T H' a' vs:=by
 cases T<;>(rcases c with⟨n,c⟩|c;exact .inl (Rd.pres P n c).2;exact .inr c)
theorem jS.self:jS A H A H:=λ_ _ n e=>⟨n,e⟩
theorem Rep.sq {d:D}{v:V}{l:List D}(r:Rep K A H d v)(h:oS d=some l): ∃T a vs,v= .ref a/\SqA K A H T a vs/\aV K A H l vs:=by
 cases d with
 | tup l'=>cases h;simp only[Rep]at r;obtain⟨a,vs,e,c,r⟩:=r;exact⟨true,a,vs,e,c,r⟩
 | lst l'=>cases h;simp only[Rep]at r;obtain⟨a,vs,e,n,c,r⟩:=r;exact⟨false,a,vs,e,.inl ⟨n,.inl c⟩,r⟩
 | rol l'=>cases h;simp only[Rep]at r;obtain⟨a,vs,e,c,r⟩:=r;exact⟨false,a,vs,e,c,r⟩
 | _=>cases h
theorem aV.at {l:List D}{vs:List V}(r:aV K A H l vs)(hi:i<l.length): ∃x,vs[i]? =some x/\Rep K A H (l.getD i .non) x:=r.get (by rw[bI,aW hi];rfl)
theorem bK8 {vs ws:List V}{l m:List D}(c1:SqA K A H T1 l1 vs)(c2:SqA K A H T2 l2 ws)(r1:aV K A H l vs)(r2:aV K A H m ws) :
  aR6 K A H (Itz K T1 T2 l1 l2) (min l.length m.length) (λi=> .tup [l.getD i .non,m.getD i .non]):=by
 have k1:=r1.length;have k2:=r2.length;refine⟨λA' H' i P hi=> ?_,λA' H' i x H'' P hA hi y=> ?_,λA' H' P=>⟨vs,ws,c1.sqv P,c2.sqv P,ad⟩⟩
 .obtain⟨x,e1,_⟩:=r1.at (i:=i) ad
  obtain⟨y,e2,_⟩:=r2.at (i:=i) ad
  exact⟨vs,ws,x,y,c1.sqv P,c2.sqv P,e1,e2⟩
 .obtain⟨x1,e1,q1⟩:=r1.at (i:=i) ad
  obtain⟨y1,e2,q2⟩:=r2.at (i:=i) ad
  obtain⟨T,a,b,rfl,hT,rfl,ha,hb⟩:=y;have ea:=ha vs (c1.sqv P);have eb:=hb ws (c2.sqv P);rw[e1]at ea;cases ea;rw[e2]at eb;cases eb;exact⟨cV hT _,gE hA hT<|.cons (q1.mono P)<|.cons (q2.mono P) .nil⟩
theorem bC7 {vs:List V}{l:List D}(c1:SqA K A H T l1 vs)(r1:aV K A H l vs):aR6 K A H (Ite K T l1) l.length (λi=> .tup [.int (i:Int),l.getD i .non]):=by
 have k1:=r1.length;refine⟨λA' H' i P hi=> ?_,λA' H' i x H'' P hA hi y=> ?_,λA' H' P=>⟨vs,c1.sqv P,k1.symm⟩⟩
 .obtain⟨x,e1,_⟩:=r1.at hi;exact⟨vs,x,c1.sqv P,e1⟩
 .obtain⟨x1,e1,q1⟩:=r1.at hi;obtain⟨T,a,rfl,hT,rfl,ha⟩:=y;have ea:=ha vs (c1.sqv P);rw[e1]at ea;cases ea;exact⟨cV hT _,gE hA hT<|.cons (show Rep _ _ _ _ _ by simp only[Rep])<|.cons (q1.mono P) .nil⟩
def uZip (ta:UA):UI:=λρ Q=>ta ρ λds ρ1=>match ds with
 | [d,e]=>(match oS d,oS e with
  | some l,some m=>Q (min l.length m.length) (λi=> .tup [l.getD i .non,m.getD i .non]) ρ1
  | _,_=>False)
 | _=>False
theorem ui_zip {ta:UA}(hg:Gl X "zip")(hm:X.mg "zip"=none)(ha:PUA X [a,b] ta)(hs:↥(starEach [a,b] X.env=[(false,eval a X.env),(false,eval b X.env)]))(hs2:↥(starEach [b] X.env=[(false,eval b X.env)])) :
  PUI X (.Tuple elts kt tp) (.Call (.Name "zip" p) [a,b] [] pos) (uZip ta):=
 a74 (pi_zip hg hm ha hs hs2) λσ H R ⟨C,ρ,Q0,I,h,k⟩=>⟨C,ρ,_,I,h,λds ρ1 vs H1 q f s r=>by
  split at q
  .rename_i d e
   obtain⟨v,vr,rfl,rv,rr⟩:=r.uncons;obtain⟨w,wr,rfl,rw',rr'⟩:=rr.uncons;have:=rr'.unnil;subst this;split at q
   .rename_i l m e1 e2
    obtain⟨T1,a1,us,rfl,c1,s1⟩:=rv.sq e1;obtain⟨T2,a2,ws,rfl,c2,s2⟩:=rw'.sq e2;exact⟨a1,a2,T1,T2,us,ws,rfl,c1.sqv .self,c2.sqv .self,k _ _ ρ1 _ H1 q f s<|bK8 c1 c2 s1 s2⟩
   .exact q.elim
  .exact q.elim⟩
def bK9 (ta:UA):UI:=λρ Q=>ta ρ λds ρ1=>match ds with
 | [d]=>(match oS d with
  | some l=>Q l.length (λi=> .tup [.int (i:Int),l.getD i .non]) ρ1
  | none=>False)
 | _=>False
theorem bZ0 {ta:UA}(hg:Gl X "enumerate")(hm:X.mg "enumerate"=none)(ha:PUA X [a] ta)(hs:↥(starEach [a] X.env=[(false,eval a X.env)])) :
  PUI X (.Tuple elts kt tp) (.Call (.Name "enumerate" p) [a] [] pos) (bK9 ta):=
 a74 (bY6 hg hm ha hs) λσ H R ⟨C,ρ,Q0,I,h,k⟩=>⟨C,ρ,_,I,h,λds ρ1 vs H1 q f s r=>by
  split at q
  .rename_i d
   obtain⟨v,vr,rfl,rv,rr⟩:=r.uncons;have:=rr.unnil;subst this;split at q
   .rename_i l e1
    obtain⟨T1,a1,us,rfl,c1,s1⟩:=rv.sq e1;exact⟨a1,T1,us,rfl,c1.sqv .self,k _ _ ρ1 _ H1 q f s<|bC7 c1 s1⟩
   .exact q.elim
  .exact q.elim⟩
def bL0 (ta:UA):UI:=λρ Q=>ta ρ λds ρ1=>match ds with
 | [.int j]=>(-(2^31)<=j/\j<2^31)/\Q j.toNat (λk=> .int ((j.toNat:Int)-1-k)) ρ1
 | _=>False
theorem bZ1 {ta:UA}{q2 pos2:Pos}(hg:Gl X "reversed")(hm:X.mg "reversed"=none)(hg2:Gl X "range")(hm2:X.mg "range"=none)(ha:PUA X [a] ta)(hs:↥(starEach [a] X.env=[(false,eval a X.env)]))
  (hs2:↥(starEach [.Call (.Name "range" q2) [a] [] pos2] X.env=[(false,eval (.Call (.Name "range" q2) [a] [] pos2) X.env)])) :
  PUI X tg (.Call (.Name "reversed" p) [.Call (.Name "range" q2) [a] [] pos2] [] pos) (bL0 ta):=
 a74 (aS8 hg hm hg2 hm2 ha hs hs2) λσ H R ⟨C,ρ,Q0,I,h,k⟩=>⟨C,ρ,_,I,h,λds ρ1 vs H1 q f s r=>by
  split at q
  .rename_i j
   obtain⟨v,vr,rfl,rv,rr⟩:=r.uncons;have:=rr.unnil;subst this;have:=bJ rv;subst this;obtain⟨⟨h1,h2⟩,q⟩:=q;exact⟨j,rfl,h1,h2,k _ _ ρ1 _ H1 q f s bC0⟩
  .exact q.elim⟩
end
section
variable {X:Cx}{a b c e:Expr}{ta tb tc te:UE}{pos:Pos}
def b03 (g g':D->D->(B->Prop)->Prop)(ta tb tc:UE):UE:=λρ Q=>ta ρ λx ρ1=>tb ρ1 λy ρ2=>g x.d y.d λb=>isB (λk ρ3=>if k=true then tc ρ3 λz ρ4=>g' y.d z.d λb'=>Q b' ρ4 else Q (.pu<|.bl false) ρ3) b ρ2
theorem bL1 {op':CmpOp}{g g':D->D->(B->Prop)->Prop}(ho:OpU X (compareOp op) g)(ho':OpU X (compareOp op') g')(ha:PU X a ta)(hb:PU X b tb)(hc:PU X c tc)
  (hm:lastMarks [op,op'] [b,c]=false:=by with_unfolding_all rfl):PU X (.Compare a [op,op'] [b,c] pos) (b03 g g' ta tb tc):=
 fE (bG6 aR4 aR4 ha hb hc hm) λσ H Q ⟨C,ρ,Q0,I,h,k⟩=>⟨C,ρ,_,I,h,λx ρ1 v H1 q1 f1 s1 r1=>by
  have I1:=(I.frz f1).same s1;refine⟨C,ρ1,_,I1,q1,λy ρ2 w H2 q2 f2 s2 r2=> ?_⟩
  have I2:=(I1.frz f2).same s2;have rx:Rep X.K (Av C ρ2 σ) H2 x.d v:=(r1.rep λa z=>I.avF f1 z).mono (.sub s2 λa=>f2.av)
  have ry:Rep X.K (Av C ρ2 σ) H2 y.d w:=r2.rep λa z=>I1.avF f2 z
  refine ho (Av C ρ2 σ) H2 x.d y.d v w _ _ (λa z=>I2.avSome z) rx ry q2 λb v' H3 q3 s3 r3=> ?_
  obtain⟨kk,rfl,q3⟩:=a57 q3 r3;refine⟨kk,rfl,?_⟩;have I3:=I2.same s3;cases kk with
  | false=>
   rw[a7 bG]at q3⊢;exact k _ _ _ _ q3 (f1.trans f2) (s1.trans<|s2.trans s3) iH
  | true=>
   rw[a8 rfl]at q3⊢;refine⟨C,ρ2,_,I3,q3,λz ρ4 w' H4 q4 f4 s4 r4=> ?_⟩
   have I4:=(I3.frz f4).same s4;have ry4:Rep X.K (Av C ρ4 σ) H4 y.d w:=ry.mono (.sub (s3.trans s4) λa=>f4.av)
   exact ho' (Av C ρ4 σ) H4 y.d z.d w w' _ Q (λa z=>I4.avSome z) ry4 (r4.rep λa z=>I3.avF f4 z) q4 λb' v'' H5 q5 s5 r5=>k b' ρ4 v'' H5 q5 (f1.trans<|f2.trans f4) (s1.trans<|s2.trans<|s3.trans<|s4.trans s5) (r5.from<|s1.trans<|s2.trans<|s3.trans s4)⟩
theorem aV.dropLast {A:AS}{H:Hp}{l:List D}{vs:List V}(h:aV K A H l vs):aV K A H l.dropLast vs.dropLast:=by
 rw[List.dropLast_eq_take,List.dropLast_eq_take,h.length];exact h.take _
def uPop (i:Nat):US:=λD ρ=>kB ρ i λl=>l≠[]/\D.nx (ρ.set i<|some<|.ow l.dropLast)
end
end M
end
section
namespace L2
theorem bL2:typeLookup (.type "tuple") "__reversed__"=pure none:=by rw[kR,kF];kernel_rfl
theorem sub_tuple_dict:isSubtype (.type "tuple") (.type "dict")=pure false:=by rw[gM];kernel_rfl
theorem aG5:Manifest.owners.lookup (String.ofList ['d','e','s','r','e','v','e','r'].reverse)=some Manifest.sig_reversed:=by kernel_rfl
theorem j4:Slot "reversed" "__next__" "reversed.__next__":=
 .of (owner:="reversed") (n:="__next__") (by rw[kR,kF];kernel_rfl) af af af
  (by first|exact .inl af|exact .inr af) (by rw[gM];kernel_rfl)
theorem u9:entryFor table "reversed.__next__"=some Builtin.«reversed.__next__» :=entryFor_of_tree (by kernel_rfl)
theorem tK (a:Value):argsOk "reversed.__next__" ⟨[a],[]⟩:=by
 unfold argsOk;rw[sA (n:=['_','_','t','x','e','n','_','_']) (by kernel_rfl) aG5];kernel_rfl
theorem vJ:Slot "reversed" "__iter__" "reversed.__iter__":=
 .of (owner:="reversed") (n:="__iter__") (by rw[kR,kF];kernel_rfl) af af af
  (by first|exact .inl af|exact .inr af) (by rw[gM];kernel_rfl)
theorem a39 (a:Value):argsOk "reversed.__iter__" ⟨[a],[]⟩:=by
 unfold argsOk;rw[sA (n:=['_','_','r','e','t','i','_','_']) (by kernel_rfl) aG5];kernel_rfl
theorem a87:entryFor table "reversed.__iter__"=some Builtin.«dict_keyiterator.__iter__» :=
 entryFor_alias (id':="dict_keyiterator.__iter__") (by kernel_rfl) (by first|rfl|decide +kernel| (unfold String.splitOn;simp +decide [String.splitOnAux])) af (by kernel_rfl)
theorem aD6:Slot "reversed" "__init__" "object.__init__":=
 .of (owner:="object") (n:="__init__") (by rw[kR,kF];kernel_rfl) af af af
  (by first|exact .inl af|exact .inr af) (by rw[gM];kernel_rfl)
theorem b04:TypeCalled "reversed" "reversed.__new__" "object.__init__":=
 ⟨af,af,⟨_,_,PySem.F.mro_reversed⟩,PySem.F.made_reversed,af,by rw[gM];kernel_rfl,aD6⟩
theorem bZ2 (l:Addr)(items:Array Value)(hfit:(items.size:Int)<2^63) :
  Meets (Builtin.«reversed.__new__» ⟨[.type "reversed",.ref l],[]⟩) (λ_ R s=>s.heap.IsTuple l items/\R (.ok<|.ret<|.ref s.heap.objs.size) {s with heap:=s.heap.push {cls:= .type "reversed",data:= .fields #[.ref l,rawInt<|(items.size:Int)-1]},toks:=s.toks+1+1}):=
 .of_wp λprog w A R s h=>by
  obtain⟨hp,g,d,tk,os⟩:=s;obtain⟨ht,h⟩:=h;obtain⟨⟨c,dct,dt,sl⟩,hl,hc,n,hd⟩:=id ht
  replace hc:c= .type "tuple":=hc
  replace hd:dt= .seq items n:=hd
  subst hc hd;have f1:=PySem.F.sub_reversed_self;have f2:=bL2;have f4:=PySem.F.slot_tuple_getitem.lookup;have f5:=sub_tuple_dict;have e1:IsTup (Shared.heap ⟨hp,g,d,tk,os⟩) l items:=ht
  wp_walk using wpAny_loadPart' hl,PyProof.Rows.len_tuple e1 hfit
  exact⟨_,rfl,h⟩
def oZ (h:Heap)(a l:Addr)(i:Int):Prop:= ∃o,h.get? a=some o/\o.cls= .type "reversed"/\o.data= .fields #[.ref l,rawInt i]
theorem oZ.at {i:Int}(x:oZ h a l i)(e: ∀o,h.get? a=some o->h'.get? a=some o):oZ h' a l i:=let ⟨o,ho,r⟩:=x;⟨o,e _ ho,r⟩
section
variable {prog:Program}{w:World}{A:Around}{E:Value->Shared->Prop}{s:Shared}
theorem oZ.typeIs {i:Int}(x:oZ s.heap a l i):s.TypeIs (.ref a) "reversed":=let ⟨o,ho,hc,_⟩:=x;⟨o,ho,hc⟩
theorem bL3 (hl:s.heap.IsTuple l items)(hfit:(items.size:Int)<2^63)
  (h:Q (.ref s.heap.objs.size) {s with heap:=s.heap.push {cls:= .type "reversed",data:= .fields #[.ref l,rawInt<|(items.size:Int)-1]},toks:=s.toks+1+1}) :
  wpAny (model prog w) A (call (.type "reversed") [.ref l]) Q E s:=
 callType_new b04 ac (PySem.F.typeCall_reversed_1 _) (PySem.F.newCall_reversed_1 _) (λobj=>PySem.F.args_object_init_2 obj _) PySem.F.entry_reversed_new (bZ2 l items hfit) ⟨hl,⟨_,aY _ rfl,rfl⟩,h⟩
theorem a88 {i:Int}(hit:oZ s.heap it l i)(h:Q (.ref it) s):wpAny (model prog w) A (pyIter<|.ref it) Q E s:=by
 refine wU hit.typeIs vJ (cX vJ hit.typeIs a87 ?_<|a39 _)
 exact aA ⟨_,rfl,"reversed",_,hit.typeIs,j4.lookup,h⟩
theorem bL4 {x:Value}{Q:Option Value->Shared->Prop}(hit:oZ s.heap it l (i:Int))(hl:s.heap.IsTuple l items)(hx:items[i]? =some x)(hfit:(i:Int)<2^63)
  (hQ: ∀h' tk,oZ h' it l ((i:Int)-1)->SameBut it s.heap h'->Q (some x) {s with heap:=h',toks:=tk}):wpAny (model prog w) A (pyNext<|.ref it) Q E s:=by
 obtain⟨o,ho,hc,hd⟩:=id hit;have hlt:i<items.size:=(Array.getElem?_eq_some_iff.mp hx).1;have hi:seqIndex? (i:Int) items.size=some i:=by
  unfold seqIndex?;simp
  lia
 have tl:s.TypeIs (.ref l) "tuple":=hl.typeIs;refine a6 (gN (fK hit.typeIs j4
  (cX j4 hit.typeIs u9 ?_<|tK _)))
 refine a6 (eB rfl ?_)
 refine a6 (bY ho hd rfl ?_)
 refine a6 (bY ho hd rfl ?_)
 refine a6 (rV tl PySem.F.slot_tuple_getitem.lookup ?_)
 refine a6 (wpAny_mkInt ?_)
 have ht:IsTup s.heap l items:=hl;refine a6 (gN<|PyProof.Rows.getItem_tuple ht ad hfit hi hx ?_)
 refine a6 (bY ho hd rfl ?_)
 refine a6 (iF ho hd ae ?_)
 refine aA ⟨x,rfl,aA<|hQ _ _ ?_<|gI ..⟩
 exact⟨_,i6 _ ho<|nY<|fL hd _,(rO ..).trans hc,by
  rw[fL hd];simp⟩
theorem bZ3 {it l:Addr}{Q:Option Value->Shared->Prop}(hh:A.handled=none)(hit:oZ s.heap it l (-1))
  (hQ: ∀h',ExtBut it s.heap h'->Q none {s with heap:=h'}):wpAny (model prog w) A (pyNext<|.ref it) Q E s:=by
 obtain⟨o,ho,hc,hd⟩:=id hit;refine a6 (gN (fK hit.typeIs j4
  (cX j4 hit.typeIs u9 ?_<|tK _)))
 refine a6 (eB rfl ?_)
 refine a6 (bY ho hd rfl ?_)
 refine a6 (bY ho hd rfl ?_)
 refine a6 (jM ?_)
 refine a6 ?_
 refine a6 (iF ho hd ae ?_)
 refine iF (i6 _ ho<|nY<|fL hd _) (fL hd _) ae ?_
 first
 | show wpAny _ _ (newExc (.type "StopIteration") [] >>= _) _ _ _
 | (refine a6 ?_;show wpAny _ _ (newExc (.type "StopIteration") [] >>= _) _ _ _)
 refine a6 ?_
 refine a6 (m:=firstArgMember _ _) (eB (by first|rfl| (simp only[firstArgMember];rfl)) ?_)
 refine dZ ?_ (by size_fits)
 refine a6 (wpAny_handled ?_)
 first|rw[show A.in1.handled=none from hh]|rw[hh]
 refine a6 (aA<|wpAny_throw ?_)
 refine a6 (rQ ⟨_,aY _ rfl,rfl⟩ isSubtype_stop ?_)
 refine aA (hQ _ ?_)
 exact((((gI ..).trans<|gI ..).extBut.push _).push _)
end
nonrec def Itv (K:PySem.W.Frag)(l:Addr)(n:Nat):It where
 go:=λi H=>i<n/\ ∃xs,SqT K H l xs/\xs.length=n
 yld:=λi H v H'=>H'=H/\ ∀xs,SqT K H l xs->xs[n-1-i]? =some v
 stop:=λi H=>i=n
theorem bL5 (n:Nat)(hz:n<=sizeLine):aQ7 P w K tg (Itv K l n) [it] it (λi h=>oZ h it l ((n:Int)-1-(i:Int))) where
 mem:=ae
 obj:=λi h st b hb=>by
  have e:b=it:=by exists hb
  subst e;obtain⟨o,ho,_,hd⟩:=st;exact⟨o,ho,λv z=>by rw[hd]at z;cases z⟩
 keep:=λi h h' st k=>st.at λo e=>k it ae _ e
 item:=by
  intro X hP hw hK hc i pins s σ H E I hf st hg;subst hP hw hK;obtain⟨f0,f1,f2,f3,f4,f5⟩:=hf it ae
  obtain⟨hi,xs,hq,hl⟩:=hg;obtain⟨its,r,p,_⟩:=I.tuple hq;have hx:xs[n-1-i]? =some (xs[n-1-i]'ad):=aW ad
  obtain⟨u1,hu1,ru1⟩:=r.get hx;have e1:(n:Int)-1-(i:Int)=((n-1-i:Nat):Int):=ad
  have st':=st;rw[e1]at st';have big:(sizeLine:Int)<2^63:=ac
  refine bL4 (items:=its.toArray) st' p (by exists hu1) ad λh' tk hr m=> ?_
  have I1:Inv X pins σ H {s with heap:=h',toks:=tk}:=I.turned (λb o hb e=>m.extBut _ _ (by exists hb) e) f0 f1 f3 f4 f5
  have e2:((n-1-i:Nat):Int)-1=(n:Int)-1-((i+1:Nat):Int):=ad
  rw[e2]at hr;obtain⟨o,ho,hoc,hod⟩:=id hr;exact⟨_,rfl,aQ8 ho hoc hod ac ⟨xs[n-1-i]'ad,H,I1,ru1,⟨rfl,λys hy=>by rw[I.tuple_inj hy hq];exact hx⟩,hr,λb hb=>(hf b hb).1⟩⟩
 done:=by
  intro X hP hw hK hc i pins s σ H E I hf st hg;obtain⟨f0,f1,f2,f3,f4,f5⟩:=hf it ae
  have hg':i=n:=hg;have st':=st;rw[hg',show(n:Int)-1-(n:Int)= -1 by lia]at st'
  exact bZ3 (I.ok.hd hc) st' λh' eb=>⟨rfl,I.turned (λb o hb e=>eb b o hb e) f0 f1 f3 f4 f5⟩
 self:=λ_ _ _ _ _ st h=>a88 st h
section
variable {X:Cx}{tg:Expr}
def iRevT (K:PySem.W.Frag)(ta:TA):TI:=λσ H R=>ta σ H λvs H1=> ∃l xs,vs=[.ref l]/\SqT K H1 l xs/\R (Itv K l xs.length) H1
theorem bZ4 {a:Expr}{ta:TA}(hg:Gl X "reversed")(hm:X.mg "reversed"=none)(ha:PA X [a] ta)(hs:↥(starEach [a] X.env=[(false,eval a X.env)])) :
  PI X tg (.Call (.Name "reversed" p) [a] [] pos) (iRevT X.K ta):=by
 intro pins s σ H R I h;refine Call_ (mM I hg hm PyProof.Rows.boot_reversed<|gH (thn (ha pos pins s σ H _ I h) λus s1 ⟨vs,H1,I1,r1,q1⟩=> ?_) hs rfl)
 obtain⟨l,xs,e,q1,q⟩:=q1;subst e;obtain⟨u,rfl,r⟩:=vals1 r1;cases r;obtain⟨its,rv,p1,hz⟩:=I1.tuple q1;have hl:=rv.length;have big:(sizeLine:Int)<2^63:=ac
 refine bL3 p1 (by rw[aZ];lia) ?_
 have hi:oZ (s1.heap.push {cls:= .type "reversed",data:= .fields #[.ref l,rawInt<|(its.toArray.size:Int)-1]}) s1.heap.objs.size l ((xs.length:Int)-1-((0:Nat):Int)):=⟨_,aY _ rfl,rfl,by
  rw[hl];simp⟩
 refine a88 hi ?_
 refine⟨_,[s1.heap.objs.size],_,_,H1,rfl,I1.kept λb o e=>aJ _ e,bL5 xs.length hz,hi,λb hb=> ?_,q⟩
 have e:b=s1.heap.objs.size:=by exists hb
 subst e;exact I1.fpOk (aC _) (I1.hok.fresh<|aC _)
end
end L2
namespace M
section
variable {X:Cx}{A:AS}{H:Hp}{K:PySem.W.Frag}{pos:Pos}{a:Expr}
theorem bC8 {vs:List V}{l:List D}(c1:SqA K A H true l1 vs)(r1:aV K A H l vs):aR6 K A H (Itv K l1 vs.length) l.length (λi=>l.getD (l.length-1-i) .non):=by
 have k1:=r1.length;refine⟨λA' H' i P hi=>⟨aa,vs,c1.sqv P,rfl⟩,λA' H' i x H'' P hA hi y=> ?_,λA' H' P=>k1⟩
 obtain⟨x1,e1,q1⟩:=r1.at (i:=l.length-1-i) aa
 obtain⟨e,ha⟩:=y;subst e;have ea:=ha vs (c1.sqv P);rw[<-k1,e1]at ea;cases ea;exact⟨.refl _,q1.mono P⟩
def bL6 (ta:UA):UI:=λρ Q=>ta ρ λds ρ1=>match ds with
 | [.tup l]=>Q l.length (λi=>l.getD (l.length-1-i) .non) ρ1
 | _=>False
theorem bZ5 {ta:UA}(hg:Gl X "reversed")(hm:X.mg "reversed"=none)(ha:PUA X [a] ta)(hs:↥(starEach [a] X.env=[(false,eval a X.env)])) :
  PUI X tg (.Call (.Name "reversed" p) [a] [] pos) (bL6 ta):=
 a74 (bZ4 hg hm ha hs) λσ H R ⟨C,ρ,Q0,I,h,k⟩=>⟨C,ρ,_,I,h,λds ρ1 vs H1 q f s r=>by
  split at q
  .rename_i l
   obtain⟨v,vr,rfl,rv,rr⟩:=r.uncons;have:=rr.unnil;subst this;obtain⟨a1,us,rfl,c1,s1⟩:=rv;have c2:SqA _ _ _ true a1 us:=c1;exact⟨a1,us,rfl,c2.sqv .self,k _ _ ρ1 _ H1 q f s<|bC8 c2 s1⟩
  .exact q.elim⟩
def gMulT (d e:D)(Q:B->Prop):Prop:=match d,e with
 | .tup l,.int k=>(l≠[]/\ -(2^63)<=k/\k<2^63/\l.length*k.toNat<=sizeLine)/\Q (.pu<|.tup (replicate k.toNat l).flatten)
 | _,_=>False
end
section
variable {X:Cx}
theorem a89 {K:PySem.W.Frag}{A:AS}{H:Hp}: ∀r:List Int,aV K A H (r.map D.int) (r.map V.int)
 | []=> .nil
 | a::r=> .cons (by simp only[Rep]) (a89 r)
theorem bZ6 {r:List Int}(hg:Gl X x)(hm:X.mg x=some (.ref a))(hk:KT X.K a (r.map V.int))(hd:⇑(x∪0)):PU X (.Name x p) (uC<|.tup<|r.map .int):=
 aL1 (b48 (v:= .ref a) hg hm rfl hd) λA H=>by
  simp only[Rep];exact⟨a,r.map V.int,rfl,.inr hk,a89 r⟩
theorem kt_of {od:Option Addr}{its:Array Value}{sl:Array (Option Value)}{vs:List V}(hl:K.lookup a=some ⟨.type "tuple",od,.seq its n,sl⟩)(hz:its.size<=sizeLine)(hv:Vals vs its.toList):KT K a vs:=
 ⟨_,its,n,hl,rfl,rfl,hz,hv⟩
end
end M
end
section
namespace L2
end L2
namespace M
section
variable {X:Cx}
nonrec def gAny:List D->(B->Prop)->Prop:=g1 λd Q=>match d with
 | .lst l=>(match sP l with
  | some bs=>Q (.pu<|.bl<|bs.any id)
  | none=>False)
 | _=>False
end
end M
end
section
namespace L2
end L2
namespace M
section
variable {X:Cx}{a:Expr}{pos:Pos}{ta:UE}
nonrec def gMaxL:List D->(B->Prop)->Prop:=g1 λd Q=>match d with
 | .lst l=>(match bJ7 l with
  | some ns=>0<ns.length/\ ∀m:Int,m∈ns->(∀a∈ns,a<=m)->Q (.pu<|.int m)
  | none=>False)
 | _=>False
nonrec def D.isN:D->Bool
 | .non=>true
 | _=>false
def uIsN (neg:Bool)(t:UE):UE:=λρ Q=>t ρ λb ρ1=>Q (.pu<|.bl<|neg ^^ b.d.isN) ρ1
end
mutual
noncomputable def D.nl:D->Bool
 | .tup l=>D.nls l
 | .lst _=>false
 | .rol _=>false
 | .obj _ _ _=>false
 | .adr _=>false
 | .xob _ _ _ _=>false
 | .non=>true
 | .bl _=>true
 | .int _=>true
 | .str _=>true
 | .ty _=>true
noncomputable def D.nls:List D->Bool
 | []=>true
 | d::l=>d.nl&&D.nls l
end
section
variable {K:PySem.W.Frag}{A A':AS}{H H':Hp}
mutual
theorem Rep.nl (p: ∀a vs,¬A a->Rd H a (.tup vs)-> ¬A' a/\Rd H' a (.tup vs)): ∀{d:D} {v:V},d.nl=true->Rep K A H d v->Rep K A' H' d v
 | .non,_,_,h=>h
 | .bl _,_,_,h=>h
 | .int _,_,_,h=>h
 | .str _,_,_,h=>h
 | .ty _,_,_,h=>h
 | .tup l,v,q,h=>by
  simp only[Rep]at h⊢;obtain⟨a,vs,e,c,r⟩:=h;simp only[D.nl]at q;refine⟨a,vs,e,?_,aV.nl p q r⟩;rcases c with⟨n,c⟩|c
  .exact .inl (p a vs n c)
  .exact .inr c
 | .lst _,_,q,_=>by simp only[D.nl]at q;cases q
 | .rol _,_,q,_=>by simp only[D.nl]at q;cases q
 | .obj _ _ _,_,q,_=>by simp only[D.nl]at q;cases q
 | .adr _,_,q,_=>by simp only[D.nl]at q;cases q
 | .xob _ _ _ _,_,q,_=>by simp only[D.nl]at q;cases q
theorem aV.nl (p: ∀a vs,¬A a->Rd H a (.tup vs)-> ¬A' a/\Rd H' a (.tup vs)): ∀{l:List D} {vs:List V},D.nls l=true->aV K A H l vs->aV K A' H' l vs
 | [],_,_,h=>by simp only[aV]at h ⊢; exact h
 | d::ds,vs,q,h=>by
  simp only[aV]at h⊢;simp only[D.nls,bK]at q;obtain⟨v,vr,e,r,rs⟩:=h;exact⟨v,vr,e,Rep.nl p q.1 r,aV.nl p q.2 rs⟩
end
end
section
variable {X:Cx}{st:Stmt}{sts:List Stmt}{e o:Expr}{pos:Pos}{t u:US}{te to:UE}{K:PySem.W.Frag}{C:C0}{ρ ρ':Ev}{σ:L2.St}{H H':Hp}
def uLook (t:UT):UT:=λρ Q=>t ρ λb _=>Q b ρ
def uLookE (t:UE):UE:=λρ Q=>t ρ λb _=>match b with
 | .pu d=>d.nl=true/\Q (.pu d) ρ
 | _=>False
def CZ:C0:=⟨λ_=>none,λ_=>False⟩
nonrec def tL:Option B->Option B
 | some (.pu d)=>if d.nl=true then some (.pu d)else none
 | some (.ow l)=>if D.nls l=true then some (.ow l)else none
 | _=>none
theorem bL7 {x:Option B}{d:D}(h:tL x=some (.pu d)):x=some (.pu d)/\d.nl=true:=by
 unfold tL at h;split at h
 .split at h
  .cases h;exact⟨rfl,by assumption⟩
  .cases h
 .split at h<;>cases h
 .cases h
theorem yE {x:Option B}{l:List D}(h:tL x=some (.ow l)):x=some (.ow l)/\D.nls l=true:=by
 unfold tL at h;split at h
 .split at h<;>cases h
 .split at h
  .cases h;exact⟨rfl,by assumption⟩
  .cases h
 .cases h
theorem bL8 {x:Option B}{l:List D}(h:tL x=some (.bo l)):False:=by
 unfold tL at h;split at h
 .split at h<;>cases h
 .split at h<;>cases h
 .cases h
theorem qK {b:B}(h:(ρ.map tL)[i]? =some (some b)): ∃x,ρ[i]? =some x/\tL x=some b:=by
 rw[bP]at h;cases e:ρ[i]? with
 | none=>rw[e]at h;cases h
 | some x=>rw[e]at h;exact⟨x,rfl,by exists h⟩
theorem bL9 (h:Av CZ (ρ.map tL) σ a):Av CZ ρ σ a:=by
 rcases h with z| ⟨i,l,h1,h2⟩
 .exact .inl z
 .obtain⟨x,g1,g2⟩:=qK h1;obtain⟨rfl,_⟩:=yE g2;exact .inr ⟨i,l,g1,h2⟩
theorem EOk.hit {vs vs':List V}(I:EOk K CZ ρ σ H)(n: ¬Av CZ ρ σ a)(h:H a=some (.lst vs)):EOk K CZ (ρ.map tL) σ (upd H a<|.lst vs'):=by
 have T: ∀b ws,¬Av CZ ρ σ b->Rd H b (.tup ws)-> ¬Av CZ (ρ.map tL) σ b/\Rd (upd H a<|.lst vs') b (.tup ws):=by
  intro b ws nb c;have ne:b≠a:=by
   rintro rfl;rcases c with c| ⟨o,c⟩
   .rw[h]at c;cases c
   .rw[h]at c;cases c
  refine⟨λz=>nb (bL9 z),?_⟩
  unfold Rd;rw[cG ne];exact c
 refine⟨by rw[aK];exact I.len,?_,?_,?_,?_,λb o z=>(by cases z),λb z=>z.elim⟩
 .intro i d g;obtain⟨x,g1,g2⟩:=qK g;obtain⟨rfl,nl⟩:=bL7 g2;obtain⟨v,h1,h2⟩:=I.pu i d g1;exact⟨v,h1,Rep.nl T nl h2⟩
 .intro i l g;obtain⟨x,g1,g2⟩:=qK g;obtain⟨rfl,nl⟩:=yE g2;obtain⟨b,ws,h1,h2,h3,h4⟩:=I.ow i l g1;have ne:b≠a:=by
   rintro rfl;exact n (.inr ⟨i,l,g1,h1⟩)
  exact⟨b,ws,h1,by rw[cG ne];exact h2,h3,aV.nl T nl h4⟩
 .intro i j l l' b g1 g2 h1 h2;obtain⟨x,g3,g4⟩:=qK g1;obtain⟨rfl,_⟩:=yE g4;obtain⟨y,g5,g6⟩:=qK g2;obtain⟨rfl,_⟩:=yE g6;exact I.inj i j l l' b g3 g5 h1 h2
 .intro i l g;obtain⟨x,g1,g2⟩:=qK g;exact(bL8 g2).elim
def uAppZ (to te:UE):US:=λD ρ=>to ρ λb ρ1=>match b with
 | .pu (.lst l)=>te ρ1 λ_ ρ2=>l.length<sizeLine/\D.nx (ρ2.map tL)
 | _=>False
end
nonrec def ltL:List Int->List Int->Bool
 | [],[]=>false
 | [],_::_=>true
 | _::_,[]=>false
 | a::x,b::y=>if a=b then ltL x y else decide (a<b)
section
variable {prog:Program}{w:World}{A:Around}{E:Value->Shared->Prop}{s:Shared}
theorem bM0 {lt:Bool}{P:PySem.Fin->Shared->Prop}(ho:s.heap.get? a=some (seqObj "list" [u,v].toArray n))
  (hy: ∀h':Heap,(∀b o,b≠a->s.heap.get? b=some o->h'.get? b=some o)-> ∃κ:SortKind,
   (∀Q:SortKind->Shared->Prop,Q κ {s with heap:=h'}->wpAny (model prog w) A (keyKind' [u,v].toArray) Q (λ_ _=>False) {s with heap:=h'})/\
   (∀Q:Bool->Shared->Prop,Q lt {s with heap:=h'}->wpAny (model prog w) A (keyLt' κ v u) Q (λ_ _=>False) {s with heap:=h'}))
  (fi:P (.done<|.ret .none) {s with heap:=sortedHeap s.heap a [u,v] (if lt=true then [v,u].toArray else [u,v].toArray)}) :
  wpAny (model prog w) A (Builtin.«list.sort» ⟨[.ref a],[]⟩) P E s:=by
 rw[list_sort_plain];have la:a<s.heap.objs.size:=aH ho;refine a6 (listItems_at ho rfl ?_);refine a6 (sB ho rfl ?_ (show 2<=sizeLine by decide) (cK _))
 obtain⟨c1,h1⟩: ∃c1,(s.heap.update a<|Obj.mapSeq λ_=> #[]).get? a=some (seqObj "list" #[] c1):=⟨_,oF ho λ_=> #[]⟩
 refine a6 (seqEpoch_at h1 rfl ?_)
 refine a6 (wpAny_newTuple ?_<|show 2<=sizeLine by decide)
 refine a6 (wpAny_newList ?_<|cK _)
 refine cC ?_
 have h6:(((s.heap.update a<|Obj.mapSeq λ_=> #[]).push<|seqObj "tuple" [u,v].toArray 0).push<|seqObj "list" #[] 0).get? a=some (seqObj "list" #[] c1):=by
  rw[eO _ _ _ (by rw[gQ,gL];exact aO (cW la))]
  rw[eO _ _ _ (by rw[gL];exact aO la)]
  exact h1
 have kp: ∀b o,b≠a->s.heap.get? b=some o->(((s.heap.update a<|Obj.mapSeq λ_=> #[]).push<|seqObj "tuple" [u,v].toArray 0).push<|seqObj "list" #[] 0).get? b=some o:=λb o ne q=>by
  have lb:b<s.heap.objs.size:=aH q;rw[eO _ _ _ (by rw[gQ,gL];exact aO (cW lb))]
  rw[eO _ _ _ (by rw[gL];exact aO lb),kK _ _ _ _ ne]
  exact q
 obtain⟨κ,y1,y2⟩:=hy _ kp;right;refine a6 (aS (y1 (λk s'=>k=κ/\s'={s with heap:=((s.heap.update a<|Obj.mapSeq λ_=> #[]).push<|seqObj "tuple" [u,v].toArray 0).push (seqObj "list" #[] 0)}) ⟨rfl,rfl⟩) ?_ λ_ _ z=>z.elim)
 rintro k s' ⟨rfl,rfl⟩;refine a6 (aS (PySem.W.kat_run (Q:=λst' s'=>s'={s with heap:=((s.heap.update a<|Obj.mapSeq λ_=> #[]).push<|seqObj "tuple" [u,v].toArray 0).push (seqObj "list" #[] 0)}/\failedOf st'=none/\(arrOf st').map (·.2)=(if lt=true then [v,u].toArray else [u,v].toArray))
  (G:=λp s'=>s'={s with heap:=((s.heap.update a<|Obj.mapSeq λ_=> #[]).push<|seqObj "tuple" [u,v].toArray 0).push (seqObj "list" #[] 0)}/\p=(if lt=true then #[1,0]else #[0,1]))
  rfl (show 2<=2 by decide) (show 2<64 by decide) (λp st' s' _ e2 e3 ⟨e4,e5⟩=>⟨e4,e3,?_⟩) ?_) ?_ λ_ _ z=>z)
 .rw[PySem.W.kat_snds rfl e2,e5];cases lt<;>rfl
 .show wpAny (model prog w) A (keyLt' k v u) _ (λ_ _=>False) _
  refine y2 _ ?_
  cases lt
  .exact⟨rfl,rfl⟩
  .refine⟨rfl,?_⟩
   dsimp only[List.length_cons]
   decide +kernel
 .rintro⟨⟨⟩,st'⟩ s' ⟨rfl,e3,e4⟩;rw[e4];refine a6 (seqEpoch_at h6 rfl ?_);refine a6 (sB h6 rfl ?_ (cK _) (by cases lt<;>exact(show 2<=sizeLine+1 by decide)))
  rw[e3];simp only[rP,dF];exact aA fi
theorem b05 {lt:Bool}(hl:s.heap.IsList l [u,v].toArray)
  (hy: ∀(h':Heap) (A:Around),(∀b o,s.heap.get? b=some o->h'.get? b=some o)-> ∃κ:SortKind,
   (∀Q:SortKind->Shared->Prop,Q κ {s with heap:=h'}->wpAny (model prog w) A (keyKind' [u,v].toArray) Q (λ_ _=>False) {s with heap:=h'})/\
   (∀Q:Bool->Shared->Prop,Q lt {s with heap:=h'}->wpAny (model prog w) A (keyLt' κ v u) Q (λ_ _=>False) {s with heap:=h'}))
  (fi:Q (.ref<|s.heap.objs.size+1) {s with heap:=sortedAll s.heap [u,v] (if lt=true then [v,u].toArray else [u,v].toArray)}) :
  wpAny (model prog w) A (call (.builtin "sorted") [.ref l]) Q E s:=by
 refine Calls.call_function_entry kind_sorted plain_sorted entry_sorted (args_sorted1 _) ?_
 refine a6 (aA ?_)
 refine a6 (collect_list hl ?_<|show 2<=sizeLine by decide)
 refine a6 (wpAny_newList ?_<|show 2<=sizeLine by decide)
 have hz:((s.heap.push<|seqObj "list" #[] 0).update s.heap.objs.size (Obj.mapSeq (· ++[u,v].toArray))).objs.size=s.heap.objs.size+1:=by rw[gL,gQ]
 have hL:(((s.heap.push<|seqObj "list" #[] 0).update s.heap.objs.size (Obj.mapSeq (· ++[u,v].toArray))).push<|seqObj "list" [u,v].toArray 0).get? (s.heap.objs.size+1)=some (seqObj "list" [u,v].toArray 0):=by
  rw[<-hz];exact aY _ rfl
 have kp: ∀b o,s.heap.get? b=some o->(((s.heap.push<|seqObj "list" #[] 0).update s.heap.objs.size (Obj.mapSeq (· ++[u,v].toArray))).push<|seqObj "list" [u,v].toArray 0).get? b=some o:=λb o q=>by
  have lb:b<s.heap.objs.size:=aH q;rw[eO _ _ _ (by rw[hz];exact aO (cW lb))]
  rw[kK _ _ _ _<|aO lb,eO _ _ _<|aO lb];exact q
 rw[hz];refine a6 (cC<|cX slot_list_sort ⟨_,hL,rfl⟩ entry_list_sort (bM0 (lt:=lt) hL (λh' k=> ?_) ⟨_,rfl,?_⟩)<|args_list_sort _)
 .exact hy h' _ λb o q=>k b o (aO<|cW<|aH q) (kp b o q)
 .exact aA ⟨_,rfl,fi⟩
theorem aT0 {Q:Bool->Shared->Prop}{fin:Bool}: ∀(us ws:List Int) (x y:List Value) (i:Nat),Vals (us.map V.int) x->Vals (ws.map V.int) y->fin=decide (us.length<ws.length)->Q (ltL us ws) s->PySem.W.KatLex prog w A true fin Q (x.zip y) i s
 | [],[],x,y,i,hx,hy,hf,q=>by
  cases hx;cases hy;rw[hf];exact q
 | [],b::ws,x,y,i,hx,hy,hf,q=>by
  cases hx;rw[hf];exact q
 | a::us,[],x,y,i,hx,hy,hf,q=>by
  cases hx;cases hy;rw[hf];exact q
 | a::us,b::ws,x,y,i,hx,hy,hf,q=>by
  cases hx with
  | cons r1 hx=>
   cases hy with
   | cons r2 hy=>
    obtain⟨t1,rfl⟩:=r1;obtain⟨t2,rfl⟩:=r2;refine PySem.W.kat_cons (wpAny_eqBool_int ?_)
    by_cases c:a=b
    .subst c;rw[beq_self_eq_true];refine PySem.W.kat_yes (aT0 us ws _ _ (i+1) hx hy (by rw[hf];simp) ?_)
     unfold ltL at q;rw[a8 rfl]at q;exact q
    .rw[show(a==b)=false by simpa using c]
     refine PySem.W.kat_no ?_
     unfold ltL at q;rw[a7 c]at q;cases e:(true&&i==0)
     .exact PySem.W.kat_one _ _ (lt_int q)
     .exact oneLt_int q
end
section
variable {X:Cx}
theorem b06:jV X (.builtin "sorted") (λxs H Q=> ∃(p a1 a2:Addr) (i j:Int) (us ws:List Int),xs=[.ref p]/\SqL X.K H p [.ref a1,.ref a2]/\SqT X.K H a1 ((i::us).map V.int)/\SqT X.K H a2 ((j::ws).map V.int)/\
  ∀l,H l=none->Q (.ref l) (upd H l<|.lst<|if ltL (j::ws) (i::us)=true then [.ref a2,.ref a1]else [.ref a1,.ref a2])):=by
 intro pins s σ H xs us' Q I r h;obtain⟨p,a1,a2,i,j,us,ws,rfl,hq,t1,t2,q⟩:=h;obtain⟨u,rfl,rx⟩:=vals1 r;cases rx;obtain⟨its,rv,pl,hz⟩:=I.list hq;obtain⟨x1,r1,k1,z1⟩:=I.tuple t1;obtain⟨x2,r2,k2,z2⟩:=I.tuple t2;cases rv with
 | cons g1 rv=>
 cases rv with
 | cons g2 rv=>
 cases rv;cases g1;cases g2;refine b05 (lt:=ltL (j::ws) (i::us)) pl.isList (λh' A kp=> ?_) ?_
 .obtain⟨o1,ho1,hc1,n1,hd1⟩:=k1;obtain⟨o2,ho2,hc2,n2,hd2⟩:=k2;cases r1 with
  | cons f1 r1=>
  cases r2 with
  | cons f2 r2=>
  have v1:Vals ((i::us).map V.int) _:= .cons f1 r1;have v2:Vals ((j::ws).map V.int) _:= .cons f2 r2;obtain⟨t1,rfl⟩:=f1;obtain⟨t2,rfl⟩:=f2;refine⟨tuples'<|Value.type "int" != Value.type "tuple",λQ' q'=> ?_,λQ' q'=> ?_⟩
  .refine PySem.W.kat_kind (.cons (kp _ _ ho1) hc1 hd1 rfl (.cons (kp _ _ ho2) hc2 hd2 rfl .nil)) (e6 _) (λv hv=> ?_) ac q'
   rcases aG.mp hv with rfl|hv
   .exact .now
   .rw[fM.mp hv];exact .now
  .have e:(Value.type "int" != Value.type "tuple")=true:=ac
   refine PySem.W.kat_lt (kp _ _ ho2) hd2 (kp _ _ ho1) hd1 (aT0 _ _ _ _ 0 (by exists v2) (by exists v1) ?_ q')
   have l1:=v1.length;have l2:=v2.length;simp only[aK]at l1 l2;simp only[aZ];rw[<-l1,<-l2]
 .refine⟨.ref<|s.heap.objs.size+1,_,?_,rfl,q (s.heap.objs.size+1)<|I.hok.fresh<|oO _⟩
  obtain⟨c,hc⟩:=sortedAll_at s.heap [Value.ref a1,Value.ref a2] (if ltL (j::ws) (i::us)=true then [Value.ref a2,Value.ref a1].toArray else [Value.ref a1,Value.ref a2].toArray);refine I.laid (λb o e=>sortedAll_old e) (oO _) ?_
  by_cases e:ltL (j::ws) (i::us)=true
  .rw[a8 e]at hc⊢;exact⟨show 2<=sizeLine by decide,[.ref a2,.ref a1],c,.cons rfl (.cons rfl .nil),by rw[a8 e];exact hc⟩
  .rw[a7 e]at hc⊢;exact⟨show 2<=sizeLine by decide,[.ref a1,.ref a2],c,.cons rfl (.cons rfl .nil),by rw[a7 e];exact hc⟩
nonrec def b07:List D->(B->Prop)->Prop:=g1 λd Q=> ∃(i j:Int) (us ws:List Int),d= .lst [.tup<|(i::us).map D.int,.tup<|(j::ws).map D.int]/\
 Q (.ow<|if ltL (j::ws) (i::us)=true then [.tup<|(j::ws).map D.int,.tup<|(i::us).map D.int]else [.tup<|(i::us).map D.int,.tup<|(j::ws).map D.int])
theorem bM1:tG X (.builtin "sorted") b07:=by
 intro A H ds vs Q0 Q hA r g k;obtain⟨d,v,rfl,rfl,rv,i,j,us,ws,rfl,g'⟩:=zH g r;obtain⟨p,xs,rfl,np,hp,rl⟩:=rv;obtain⟨y1,yr,rfl,s1,rl⟩:=rl.uncons;obtain⟨y2,yr,rfl,s2,rl⟩:=rl.uncons;have:=rl.unnil;subst this;have s1':=s1;have s2':=s2;obtain⟨a1,w1,rfl,c1,q1⟩:=s1;obtain⟨a2,w2,rfl,c2,q2⟩:=s2;have e1:=aV.unints q1;have e2:=aV.unints q2;subst e1 e2
 refine⟨_,b06,p,a1,a2,i,j,us,ws,rfl,.inl<|.inl hp,c1.imp bZ id,c2.imp bZ id,λl hl=>k _ _ _ g' (cV hl _) ?_⟩
 cases ltL (j::ws) (i::us)
 .exact dU (.refl _) hl (.cons s1'<|.cons s2' .nil)
 .exact dU (.refl _) hl (.cons s2'<|.cons s1' .nil)
end
section
variable {prog:Program}{w:World}{A:Around}{E:Value->Shared->Prop}{s:Shared}
def aG6 (prog:Program)(w:World)(A:Around)(E:Value->Shared->Prop)(fin:Bool)(Q:Value->Shared->Prop):List (Value×Value)->Shared->Prop
 | [],s=>Q (.bool fin) s
 | (p,q)::r,s=>wpAny (model prog w) A (eqBool p q) (λe s'=>if e=true then aG6 prog w A E fin Q r s' else wpAny (model prog w) A (richCompare .LtE p q) Q E s') E s
theorem aG6.mono {fin:Bool}{Q Q':Value->Shared->Prop}(k: ∀v s,Q v s->Q' v s): ∀(l:List (Value×Value)) (s:Shared),aG6 prog w A E fin Q l s->aG6 prog w A E fin Q' l s
 | [],s,h=>k _ s h
 | (p,q)::r,s,h=>by
  have h':wpAny (model prog w) A (eqBool p q) (λe s'=>if e=true then aG6 prog w A E fin Q r s' else wpAny (model prog w) A (richCompare .LtE p q) Q E s') E s:=h
  refine aS h' (λe s' he=> ?_) λ_ _ z=>z
  cases e
  .rw[a7 ac]at he⊢
   exact aS he k λ_ _ z=>z
  .rw[a8 rfl]at he⊢;exact aG6.mono k r s' he
end
end M
end
section
namespace L2
end L2
namespace M
end M
end
section
namespace L2
end L2
namespace M
end M
end
section
namespace L2
end L2
namespace M
section
variable {X:Cx}{e:Expr}{es:List Expr}{pos:Pos}{te:UE}
theorem ilB (h:Nat.ble (i+1) X.N.length=true): ∀pins σ H s,Inv X pins σ H s->i<σ.length:=il rfl (Nat.le_of_ble_eq_true h)
theorem aT (i:Nat){pos:Pos}(h:PE X (.Name x pos) (a34 i):=by exact pv _):PU X (.Name x pos) (aD i):=mO i h
theorem cM (i:Nat){pos:Pos}(h:PE X (.Name x pos) (a34 i):=by exact pv _):PUV X (.Name x pos) (b6 i):=aZ4 i h
theorem a40 (i:Nat)(hN:X.N.Nodup)(he:PU X e te)(hi:↥(X.N[i]? =some x))(hx:Loc X.env.scope x:=by walk_at "z")(hs:↥(swapsWith e (some<|.Name x pos') pos.line X.env=pure false))(hf:X.fn x=true\/X.env.scope.names.lookup x=some .local:=by walk_at "z")
  (hl: ∀pins σ H s,Inv X pins σ H s->i<σ.length:=by exact ilB rfl):PUS X (.Assign [.Name x pos'] e pos) (cN i te):=bI6 i hN hi hx he hs hf hl
theorem us_g {op:Operator}{g:D->D->(B->Prop)->Prop}(i:Nat)(hN:X.N.Nodup)(he:PU X e te)(ho:IpU X op g)(hi:↥(X.N[i]? =some x))(hx:Loc X.env.scope x:=by walk_at "z")(hf:X.fn x=true\/X.env.scope.names.lookup x=some .local:=by walk_at "z")
  (hl: ∀pins σ H s,Inv X pins σ H s->i<σ.length:=by exact ilB rfl):PUS X (.AugAssign (.Name x pos') op e pos) (bB8 i g te):=us_aug i hN hi hx he ho hf hl
theorem dX {a b:Expr}{ti:UE}{t:UV}(ha:PUV X a t)(hb:PU X b ti)(hs:aK5 b:=by exact λ_ _=>rfl):PU X (.Subscript a b pos) (uIx t ti):=bI9 ha hb hs
theorem fU {ps:List Str}{t:UA}(F:Fn X.prog X.w X.K X.mg X.base x ps k φ)(hr:gR k' X.A)(ha:PUA X (e::es) t)(hk:⇑(k<=k'))(hg:↥(Gl X x))(hdb:⇑(x∪0))
  (he:↥(starEach (e::es) X.env=(false,eval e X.env)::starEach es X.env)) (hpl:↥((backTo pos<|starEach es X.env).any (·.1)=false)):PU X (.Call (.Name x p) (e::es) [] pos) (aX φ t):=b64 F hr hk hg ha hdb he hpl
end
section
variable {X:Cx}{es:List Expr}{t:UA}
theorem bM {i:Int}{j}(h:PUA X es t):PUA X (.Constant (.int i) j p::es) (a9 (uC<|.int i) t):=aF aE h rfl
theorem lU {fs:List Expr}{j}{ta:UE}(a:PU X (.Tuple fs j p) ta)(h:PUA X es t):PUA X (.Tuple fs j p::es) (a9 ta t):=aF a h rfl
theorem c53 {o:UnaryOp}{ta:UE}(a:PU X (.UnaryOp o e p) ta)(h:PUA X es t):PUA X (.UnaryOp o e p::es) (a9 ta t):=aF a h rfl
theorem aQ (i:Nat)(h:PUA X es t)(a:PE X (.Name x p) (a34 i):=by exact pv _):PUA X (.Name x p::es) (a9 (aD i) t):=aF (mO i a) h rfl
structure WA (X:Cx)(es:List Expr)(t:UA):Prop where
 out:PUA X es t
theorem p5:WA X [] aP:=⟨aB⟩
theorem jT {i:Int}{j}(h:WA X es t):WA X (.Constant (.int i) j p::es) (a9 (uC<|.int i) t):=⟨bM h.out⟩
theorem aM5 {fs:List Expr}{j}{tf:UA}(a:WA X fs tf)(h:WA X es t):WA X (.Tuple fs j p::es) (a9 (gS tf) t):=⟨lU (dL a.out) h.out⟩
structure WS (X:Cx)(sts:List Stmt)(t:US):Prop where
 out:mP X sts t
theorem ws_of {sts:List Stmt}{u:US}(h:mP X sts u):WS X sts u:=⟨h⟩
theorem ws_lw {sts:List Stmt}{u:US}(h:WA X es t)(r:WS X sts u)(hN:X.N.Nodup)(hi:↥(X.N[i]? =some x))(hx:Loc X.env.scope x:=by walk_at "z")(hf:X.fn x=true\/X.env.scope.names.lookup x=some .local:=by walk_at "z")
  (hl: ∀pins σ H s,Inv X pins σ H s->i<σ.length:=by exact ilB rfl):WS X (.Assign [.Name x pos'] (.List es p) pos::sts) (b4 (cN i<|iP t) u):=⟨d7 (bI6 i hN hi hx (dG h.out) rfl hf hl) r.out⟩
end
abbrev GL:=List (Addr×List Int)
def GL.has (g:GL)(x:Addr):Prop:= ∃l,(x,l)∈g
def inH (H0:Hp)(g:GL)(x:Addr)(o:HO):Prop:=(∃l,(x,l)∈g/\o= .lst (l.map V.int))\/(¬g.has x/\H0 x=some o)
open Classical in
nonrec def bZ7 (H0:Hp) (g:GL):Hp:=λx=>if h: ∃o,inH H0 g x o then some h.choose else none
structure GOk (g:GL)(H0:Hp):Prop where
 nd:(g.map Prod.fst).Nodup
 new: ∀x,g.has x->H0 x=none
theorem c54: ∀{g:GL},(g.map Prod.fst).Nodup-> ∀{x:Addr} {l l':List Int},(x,l)∈g->(x,l')∈g->l=l'
 | [],_,_,_,_,h,_=>by cases h
 | p::g,nd,x,l,l',h,h'=>by
  rw[bX,iC]at nd;rcases aG.mp h with e|h1
  .rcases aG.mp h' with e'|h2
   .rw[<-e]at e';cases e';rfl
   .exact absurd (dO.mpr ⟨_,h2,rfl⟩) (by rw[<-e]at nd;exact nd.1)
  .rcases aG.mp h' with e'|h2
   .exact absurd (dO.mpr ⟨_,h1,rfl⟩) (by rw[<-e']at nd;exact nd.1)
   .exact c54 nd.2 h1 h2
section
variable {K:PySem.W.Frag}{C C':C0}{ρ ρ':Ev}{σ σ':L2.St}{H H' H0:Hp}{g g':GL}{r:Nat}
theorem iT (nd:(g.map Prod.fst).Nodup){x:Addr}{o:HO}:bZ7 H0 g x=some o↔inH H0 g x o:=by
 have uniq: ∀o o',inH H0 g x o->inH H0 g x o'->o=o':=λo o' h h'=>by
  rcases h with⟨l,m,rfl⟩| ⟨n,e⟩
  .rcases h' with⟨l',m',rfl⟩| ⟨n',_⟩
   .rw[c54 nd m m']
   .exact absurd ⟨l,m⟩ n'
  .rcases h' with⟨l',m',_⟩| ⟨_,e'⟩
   .exact absurd ⟨l',m'⟩ n
   .rw[e]at e';cases e';rfl
 unfold bZ7;constructor
 .intro h;split at h
  .rename_i hx
   cases h;exact hx.choose_spec
  .cases h
 .intro h;rw[dif_pos ⟨o,h⟩,uniq _ _ (Exists.choose_spec (⟨o,h⟩: ∃o,inH H0 g x o)) h]
theorem jQ (nd:(g.map Prod.fst).Nodup){x:Addr}(h:bZ7 H0 g x=none): ¬g.has x/\H0 x=none:=by
 have no: ∀o,¬inH H0 g x o:=λo q=>by rw[(iT nd).mpr q]at h;cases h
 have n: ¬g.has x:=λ⟨l,m⟩=>no _ (.inl ⟨l,m,rfl⟩)
 refine⟨n,?_⟩
 cases e:H0 x with
 | none=>rfl
 | some o=>exact absurd (.inr ⟨n,e⟩) (no o)
nonrec def C0.inn (C:C0) (g:GL):C0:=⟨bZ7 C.H0 g,λx=>C.A0 x\/g.has x⟩
def lstI (l:List Int):D:= .lst (l.map .int)
def c55 (g:GL):List D:=g.map λp=>lstI p.2
def iZ (g:GL):List D:=g.map λp=> .adr p.1
def bZ8 (ρ:Ev):Prop:= ∀(i:Nat) (l:List D),ρ[i]? ≠some (some<|.bo l)
structure kX (K:PySem.W.Frag)(C:C0)(r:Nat)(g:GL)(ρ:Ev)(σ:L2.St)(H:Hp):Prop where
 sl:ρ[r]? =some (some<|.ow<|c55 g)
 gok:GOk g C.H0
 nb:bZ8 ρ
 a0: ∀a,C.A0 a->C.H0 a≠none
 ok:EOk K (C.inn g) (ρ.set r<|some<|.ow<|iZ g) σ H
def EOkN (K:PySem.W.Frag)(C:C0)(r:Nat)(ρ:Ev)(σ:L2.St)(H:Hp):Prop:= ∃g,kX K C r g ρ σ H
theorem kX.lt (I:kX K C r g ρ σ H):r<ρ.length:=(dN.mp I.sl).1
theorem kX.at_r (I:kX K C r g ρ σ H):(ρ.set r<|some<|.ow<|iZ g)[r]? =some (some<|.ow<|iZ g):=eF I.lt
theorem aG7: ∀{g:GL} {A:AS} {vs:List V},aV K A H (iZ g) vs->vs=g.map λp=>V.ref p.1
 | [],_,_,h=>h.unnil
 | p::g,A,vs,h=>by
  obtain⟨v,vr,rfl,rv,rr⟩:=aV.uncons h;have:v= .ref p.1:=by simpa only[Rep]using rv
  rw[this,aG7 rr];rfl
theorem a90 {A:AS}: ∀l:List Int,aV K A H (l.map D.int) (l.map V.int)
 | []=> .nil
 | i::l=> .cons (by simp only[Rep]) (a90 l)
theorem kX.inner (I:kX K C r g ρ σ H){x:Addr}{l:List Int}(h:(x,l)∈g):H x=some (.lst<|l.map V.int):=I.ok.ext x _ ((iT I.gok.nd).mpr<|.inl ⟨l,h,rfl⟩)
theorem kX.own (I:kX K C r g ρ σ H)(h:Own ρ σ a):Own (ρ.set r<|some<|.ow<|iZ g) σ a:=by
 obtain⟨i,l,h1,h2⟩:=h
 by_cases e:r=i
 .subst e;exact⟨r,_,I.at_r,h2⟩
 .exact⟨i,l,by rw[get_set_ne e];exact h1,h2⟩
theorem kX.notOwn (I:kX K C r g ρ σ H)(h:g.has a): ¬Own (ρ.set r<|some<|.ow<|iZ g) σ a:=by
 rintro⟨i,l,h1,h2⟩;obtain⟨a',vs,h3,h4,h5,_⟩:=I.ok.ow i l h1;rw[h2]at h3;cases h3;exact(jQ I.gok.nd h5).1 h
theorem kX.av (I:kX K C r g ρ σ H)(h:Av C ρ σ a):Av (C.inn g) (ρ.set r<|some<|.ow<|iZ g) σ a:=h.imp .inl I.own
theorem kX.free (I:kX K C r g ρ σ H)(h:g.has a): ¬Av C ρ σ a:=by
 rintro(z|z)
 .exact I.a0 a z (I.gok.new a h)
 .exact I.notOwn h (I.own z)
theorem aG8 (I:kX K C r g ρ σ H): ∀{g':GL},(∀p∈g',p∈g)->aV K (Av C ρ σ) H (c55 g') (g'.map λp=>V.ref p.1)
 | [],_=> .nil
 | p::g',h=>by
  refine .cons (d:=lstI p.2) ?_ (aG8 I λq hq=>h q (aU _ hq))
  have hp:=h p (aL ..);exact⟨p.1,p.2.map V.int,rfl,I.free ⟨p.2,hp⟩,I.inner hp,a90 _⟩
theorem kX.out (I:kX K C r g ρ σ H):EOk K C ρ σ H:=by
 have sub: ∀a,Av C ρ σ a->Av (C.inn g) (ρ.set r<|some<|.ow<|iZ g) σ a:=λa z=>I.av z
 refine⟨by have:=I.ok.len;rw[cS]at this;exact this,λi d h=> ?_,λi l h=> ?_,λi j l l' a h1 h2 h3 h4=> ?_,λi l h=>absurd h (I.nb i l),λb o e=> ?_,I.a0⟩
 .have e:r≠i:=λz=>by subst z;rw[I.sl]at h;cases h
  obtain⟨v,h1,h2⟩:=I.ok.pu i d (by rw[get_set_ne e];exact h)
  exact⟨v,h1,h2.mono<|.sub (.refl _) sub⟩
 .by_cases e:r=i
  .subst e;rw[I.sl]at h;cases h;obtain⟨a,vs,h1,h2,h3,h4⟩:=I.ok.ow r _ I.at_r;have ev:=aG7 h4;subst ev;exact⟨a,_,h1,h2,(jQ I.gok.nd h3).2,aG8 I λ_ h=>h⟩
  .obtain⟨a,vs,h1,h2,h3,h4⟩:=I.ok.ow i l (by rw[get_set_ne e];exact h)
   exact⟨a,vs,h1,h2,(jQ I.gok.nd h3).2,h4.mono<|.sub (.refl _) sub⟩
 .have up: ∀{i:Nat} {l:List D},ρ[i]? =some (some<|.ow l)-> ∃l2,(ρ.set r<|some<|.ow<|iZ g)[i]? =some (some<|.ow l2):=λ{i l} h=>by
   by_cases e:r=i
   .subst e;exact⟨_,I.at_r⟩
   .exact⟨l,by rw[get_set_ne e];exact h⟩
  obtain⟨_,q1⟩:=up h1;obtain⟨_,q2⟩:=up h2;exact I.ok.inj i j _ _ a q1 q2 h3 h4
 .refine I.ok.ext b o ((iT I.gok.nd).mpr<|.inr ⟨λz=> ?_,e⟩)
  rw[I.gok.new b z]at e;cases e
theorem kX.same (I:kX K C r g ρ σ H)(s:eE H H'):kX K C r g ρ σ H':=⟨I.sl,I.gok,I.nb,I.a0,I.ok.same s⟩
theorem GOk.nil {H0:Hp}:GOk [] H0:=⟨nodup_nil,λx ⟨l,m⟩=>by cases m⟩
end
section
variable {X:Cx}{K:PySem.W.Frag}{C C':C0}{ρ ρ':Ev}{σ σ':L2.St}{H H' H0:Hp}{g g':GL}{r:Nat}{st:Stmt}{sts:List Stmt}{e:Expr}{pos:Pos}{t u:US}{te ti tj:UE}{tc:UT}
theorem aT1 {l:List D}(nb:bZ8 ρ):bZ8 (ρ.set r<|some<|.ow l):=λi m h=>by
 rcases aR h with⟨rfl,h3,_⟩| ⟨_,h3⟩
 .cases h3
 .exact nb i m h3
nonrec def C0.rzN (C:C0) (g:GL) (ρ:Ev) (σ:L2.St) (H:Hp):C0:=⟨λb=> @ite _ (Own ρ σ b\/g.has b) (Classical.propDecidable _) none (H b),C.A0⟩
theorem kX.rz (I:kX K C r g ρ σ H):kX K (C.rzN g (ρ.set r<|some<|.ow<|iZ g) σ H) r g ρ σ H/\eE C.H0 (C.rzN g (ρ.set r<|some<|.ow<|iZ g) σ H).H0:=by
 have e1: ∀b,(Own (ρ.set r<|some<|.ow<|iZ g) σ b\/g.has b)->(C.rzN g (ρ.set r<|some<|.ow<|iZ g) σ H).H0 b=none:=λb h=>a8 h
 have e2: ∀b,¬(Own (ρ.set r<|some<|.ow<|iZ g) σ b\/g.has b)->(C.rzN g (ρ.set r<|some<|.ow<|iZ g) σ H).H0 b=H b:=λb h=>a7 h
 generalize eC:C.rzN g (ρ.set r<|some<|.ow<|iZ g) σ H=C1 at *;have eA:C1.A0=C.A0:=by rw[<-eC];rfl
 have ok1:GOk g C1.H0:=⟨I.gok.nd,λx h=>e1 x (.inr h)⟩
 have no: ∀b o,C.H0 b=some o-> ¬(Own (ρ.set r<|some<|.ow<|iZ g) σ b\/g.has b):=λb o e h=>by
  rcases h with⟨i,l,h1,h2⟩|h
  .obtain⟨a,vs,h3,h4,h5,_⟩:=I.ok.ow i l h1;rw[h2]at h3;cases h3;rw[(jQ I.gok.nd h5).2]at e;cases e
  .rw[I.gok.new b h]at e;cases e
 have s1:eE C.H0 C1.H0:=λb o e=>by
  rw[e2 b<|no b o e];exact I.ok.ext b o ((iT I.gok.nd).mpr<|.inr ⟨λz=>no b o e (.inr z),e⟩)
 have a1: ∀a,C1.A0 a->C1.H0 a≠none:=λa h z=>by
  rw[eA]at h;cases q:C.H0 a with
  | none=>exact I.a0 a h q
  | some o=>rw[s1 a o q]at z;cases z
 have av: ∀{a:Addr},Av (C1.inn g) (ρ.set r<|some<|.ow<|iZ g) σ a->Av (C.inn g) (ρ.set r<|some<|.ow<|iZ g) σ a:=λ{a} z=>z.imp (λz=>z.imp (λz=>eA▸z) id) id
 refine⟨⟨I.sl,ok1,I.nb,a1,I.ok.len,λi d h=> ?_,λi l h=> ?_,I.ok.inj,λi l h=>absurd h (aT1 I.nb i l),λb o q=> ?_,λa h z=> ?_⟩,s1⟩
 .obtain⟨v,h1,h2⟩:=I.ok.pu i d h;exact⟨v,h1,h2.mono<|.sub (.refl _) λa z=>av z⟩
 .obtain⟨a,vs,h3,h4,h5,h6⟩:=I.ok.ow i l h;refine⟨a,vs,h3,h4,?_,h6.mono<|.sub (.refl _) λa z=>av z⟩
  cases q:(C1.inn g).H0 a with
  | none=>rfl
  | some o=>
   rcases(iT ok1.nd).mp q with⟨l',m,_⟩| ⟨_,q'⟩
   .exact absurd ⟨l',m⟩ (jQ I.gok.nd h5).1
   .rw[e1 a<|.inl ⟨i,l,h,h3⟩]at q';cases q'
 .rcases(iT ok1.nd).mp q with⟨l',m,rfl⟩| ⟨nh,q'⟩
  .exact I.inner m
  .by_cases z:Own (ρ.set r<|some<|.ow<|iZ g) σ b\/g.has b
   .rw[e1 b z]at q';cases q'
   .rw[e2 b z]at q';exact q'
 .obtain⟨nh,h0⟩:=jQ ok1.nd z;exact h.elim (λh=>a1 a h h0) nh
theorem kX.lower {C1:C0}(I:kX K C1 r g ρ σ H)(s:eE C.H0 C1.H0)(e:C1.A0=C.A0)(a0: ∀a,C.A0 a->C.H0 a≠none):kX K C r g ρ σ H:=by
 have ok:GOk g C.H0:=⟨I.gok.nd,λx h=>by
  cases q:C.H0 x with
  | none=>rfl
  | some o=>have:=s x o q;rw[I.gok.new x h]at this;cases this⟩
 have av: ∀{a:Addr},Av (C.inn g) (ρ.set r<|some<|.ow<|iZ g) σ a->Av (C1.inn g) (ρ.set r<|some<|.ow<|iZ g) σ a:=λ{a} z=>z.imp (λz=>z.imp (λz=>e▸z) id) id
 refine⟨I.sl,ok,I.nb,a0,I.ok.len,λi d h=> ?_,λi l h=> ?_,I.ok.inj,λi l h=>absurd h (aT1 I.nb i l),λb o q=> ?_,λa h z=> ?_⟩
 .obtain⟨v,h1,h2⟩:=I.ok.pu i d h;exact⟨v,h1,h2.mono<|.sub (.refl _) λa z=>av z⟩
 .obtain⟨a,vs,h3,h4,h5,h6⟩:=I.ok.ow i l h;refine⟨a,vs,h3,h4,?_,h6.mono<|.sub (.refl _) λa z=>av z⟩
  obtain⟨nh,h0⟩:=jQ I.gok.nd h5;cases q:(C.inn g).H0 a with
  | none=>rfl
  | some o=>
   rcases(iT ok.nd).mp q with⟨l',m,_⟩| ⟨_,q'⟩
   .exact absurd ⟨l',m⟩ nh
   .rw[s a o q']at h0;cases h0
 .rcases(iT ok.nd).mp q with⟨l',m,rfl⟩| ⟨nh,q'⟩
  .exact I.inner m
  .exact I.ok.ext b o ((iT I.gok.nd).mpr<|.inr ⟨nh,s b o q'⟩)
 .obtain⟨nh,h0⟩:=jQ ok.nd z;exact h.elim (λh=>a0 a h h0) nh
end
end M
end
section
namespace L2
end L2
namespace M
section
variable {prog:Program}{w:World}{E:Value->Shared->Prop}{s:Shared}
def aG9 (prog:Program)(w:World)(A:Around)(E:Value->Shared->Prop)(fin:Bool)(Q:Value->Shared->Prop):List (Value×Value)->Shared->Prop
 | [],s=>Q (.bool fin) s
 | (p,q)::r,s=>wpAny (model prog w) A (eqBool p q) (λe s'=>if e=true then aG9 prog w A E fin Q r s' else wpAny (model prog w) A (richCompare .Lt p q) Q E s') E s
theorem aG9.mono {A:Around}{fin:Bool}{Q Q':Value->Shared->Prop}(k: ∀v s,Q v s->Q' v s): ∀(l:List (Value×Value)) (s:Shared),aG9 prog w A E fin Q l s->aG9 prog w A E fin Q' l s
 | [],s,h=>k _ s h
 | (p,q)::r,s,h=>by
  have h':wpAny (model prog w) A (eqBool p q) (λe s'=>if e=true then aG9 prog w A E fin Q r s' else wpAny (model prog w) A (richCompare .Lt p q) Q E s') E s:=h
  refine aS h' (λe s' he=> ?_) λ_ _ z=>z
  cases e
  .rw[a7 ac]at he⊢
   exact aS he k λ_ _ z=>z
  .rw[a8 rfl]at he⊢;exact aG9.mono k r s' he
end
end M
end
section
namespace L2
end L2
namespace M
section
variable {X:Cx}{e a b:Expr}{te ta tb:UE}{t u:US}{sts:List Stmt}{pos:Pos}
theorem kY {g:D->D->(B->Prop)->Prop}(ho:OpU X (compareOp op) g)(ha:PU X a ta)(hb:PU X b tb)(hm:behindInMarks op b=false:=by exact aK3 _):PUT X (.Compare a [op] [b] pos) (fX<|uOp g ta tb):=aL2 ho ha hb hm
theorem a41 {g:D->D->(B->Prop)->Prop}(ho:OpU X (compareOp op) g)(ha:PU X a ta)(hb:PU X b tb)(hm:behindInMarks op b=false:=by exact aK3 _):PU X (.Compare a [op] [b] pos) (uOp g ta tb):=aZ5 ho ha hb hm
theorem cP (i:Nat)(hN:X.N.Nodup)(he:PU X e te)(r:mP X sts u)(hi:↥(X.N[i]? =some x))(hx:Loc X.env.scope x:=by walk_at "z")(hs:↥(swapsWith e (some<|.Name x pos') pos.line X.env=pure false))(hf:X.fn x=true\/X.env.scope.names.lookup x=some .local:=by walk_at "z")
  (hl: ∀pins σ H s,Inv X pins σ H s->i<σ.length:=by exact ilB rfl):mP X (.Assign [.Name x pos'] e pos::sts) (b4 (cN i te) u):=d7 (a40 i hN he hi hx hs hf hl) r
theorem gD (h:PU X e te):mP X [.Return (some e) pos] (dW te):=cU (aZ7 h)
theorem us_i {tc:UT}(hc:PUT X c tc)(ha:mP X sts t):PUS X (.If c sts [] pos) (jW tc t gF):=bI1 hc ha bI0
theorem kC {tc:UT}{r:List Stmt}(hc:PUT X c tc)(ha:mP X sts t)(hr:mP X r u):mP X (.If c sts [] pos::r) (b4 (jW tc t gF) u):=d7 (us_i hc ha) hr
theorem a91 {ui:UI}(i:Nat)(hN:X.N.Nodup)(hi:PUI X (.Name x p) iter ui)(hb:mP X sts t)(hp:PassesOwn (model X.prog X.w) X.A X.env X.xe:=by exact oG)(hc:↥(X.calm=true))(hx:↥(X.N[i]? =some x))(hl:Loc X.env.scope x:=by walk_at "z")
  (hs: ∀x,foldedSetIterable iter X.env x=pure x:=by intro _;rfl) (hf:X.fn x=true\/X.env.scope.names.lookup x=some .local:=by walk_at "z"):PUS X (.For (.Name x p) iter sts [] pos) (tV ui (eU i) t):=bI7 hp hc hi (aL5 i<|eX hN hx hl hf) hb hs
theorem vK (N:List Str)(esc:List (Str×NameKind))(XN:List Str){ui:UI}{tt:UT}(hi:PUI X (.Name x p) iter ui)(ht: ∀cl C s H fp pins,PTs (bF X N scope cl C s H fp pins) ifs<|lT X.K tt)(he: ∀cl C s H fp pins,PU (bF X N scope cl C s H fp pins) elt te)
  (he0:↥(X.env.scope.names=esc)) (hx0:↥(X.N=XN)) (lk:qI esc XN N cap scope last=true:=by decide +kernel) (hl:⇑(last<cap.length)) (hT:⇑(last ∉ [i])) (hc:↥(X.calm=true)) (hN:N.Nodup:=by decide +kernel) (hx:↥(N[i]? =some x)) (hy: ∀cl C s H fp pins,Loc (bF X N scope cl C s H fp pins).env.scope x:=by intro _ _ _ _ _ _;first|exact Or.inl rfl|exact Or.inr rfl)
  (hs: ∀x,foldedSetIterable iter X.env x=pure x:=by intro _;rfl) (hf: ∀cl C s H fp pins,(bF X N scope cl C s H fp pins).fn x=true\/(bF X N scope cl C s H fp pins).env.scope.names.lookup x=some .local:=by intro _ _ _ _ _ _;first|exact .inl rfl|exact .inr rfl|assumption):PU X (.ListComp elt [⟨.Name x p,iter,ifs,0⟩] scope pos) (hZ js cap last ui (eU i) tt te):=
 aS2 he0 hx0 lk hl hT hc hi (λ_ _ _ _ _ _=>aL5 i (eX hN hx (hy ..)<|hf ..)) ht he hs
end
mutual
noncomputable def D.nk:D->Bool
 | .tup l=>D.nks l
 | .obj _ _ l=>D.nks l
 | .lst _=>false
 | .rol _=>false
 | .adr _=>true
 | .xob _ _ _ _=>false
 | .non=>true
 | .bl _=>true
 | .int _=>true
 | .str _=>true
 | .ty _=>true
noncomputable def D.nks:List D->Bool
 | []=>true
 | d::l=>d.nk&&D.nks l
end
nonrec def HO.isL:HO->Bool
 | .lst _=>true
 | _=>false
section
variable {K:PySem.W.Frag}{A A':AS}{H H':Hp}
mutual
theorem Rep.nk (p: ∀a u,¬A a->H a=some u->HO.isL u=false-> ¬A' a/\H' a=some u): ∀{d:D} {v:V},d.nk=true->Rep K A H d v->Rep K A' H' d v
 | .non,_,_,h=>h
 | .bl _,_,_,h=>h
 | .int _,_,_,h=>h
 | .str _,_,_,h=>h
 | .ty _,_,_,h=>h
 | .adr _,_,_,h=>h
 | .tup l,v,n,h=>by
  simp only[D.nk]at n;simp only[Rep]at h⊢;obtain⟨a,vs,rfl,c,r⟩:=h;refine⟨a,vs,rfl,?_,aV.nk p n r⟩;rcases c with⟨c1,c2⟩|c
  .rcases c2 with c2| ⟨o,c2⟩
   .obtain⟨g1,g2⟩:=p a _ c1 c2 rfl;exact .inl ⟨g1,.inl g2⟩
   .obtain⟨g1,g2⟩:=p a _ c1 c2 rfl;exact .inl ⟨g1,.inr ⟨o,g2⟩⟩
  .exact .inr c
 | .obj C ks l,v,n,h=>by
  simp only[D.nk]at n;simp only[Rep]at h⊢;obtain⟨a,dx,vs,rfl,c1,c2,c3,r,ok⟩:=h;obtain⟨g1,g2⟩:=p a _ c1 c2 rfl;exact⟨a,dx,vs,rfl,g1,g2,c3,aV.nk p n r,ok⟩
 | .lst _,_,n,_=>by simp only[D.nk]at n;cases n
 | .rol _,_,n,_=>by simp only[D.nk]at n;cases n
 | .xob _ _ _ _,_,n,_=>by simp only[D.nk]at n;cases n
theorem aV.nk (p: ∀a u,¬A a->H a=some u->HO.isL u=false-> ¬A' a/\H' a=some u): ∀{l:List D} {vs:List V},D.nks l=true->aV K A H l vs->aV K A' H' l vs
 | [],_,_,h=>h
 | d::l,vs,n,h=>by
  simp only[D.nks,bK]at n;obtain⟨v,vr,rfl,rv,rr⟩:=h.uncons;exact .cons (Rep.nk p n.1 rv) (aV.nk p n.2 rr)
end
end
def nkB:B->Prop
 | .pu d=>d.nk=true
 | .ow l=>D.nks l=true
 | .bo _=>False
def tX:Ev->Ev->Prop
 | [],[]=>True
 | none::r,_::s=>tX r s
 | some b::r,x::s=>x=some b/\nkB b/\tX r s
 | _,_=>False
theorem tX.len: ∀{r s:Ev},tX r s->r.length=s.length
 | [],[],_=>rfl
 | none::r,_::s,h=>by simp only[tX]at h;simp only[gK,tX.len h]
 | some b::r,x::s,h=>by simp only[tX]at h;simp only[gK,tX.len h.2.2]
 | [],_::_,h=>by simp only[tX]at h
 | none::_,[],h=>by simp only[tX]at h
 | some _::_,[],h=>by simp only[tX]at h
theorem tX.get: ∀{r s:Ev} {i:Nat} {b:B},tX r s->r[i]? =some (some b)->s[i]? =some (some b)/\nkB b
 | [],[],i,b,_,g=>by simp at g
 | none::r,x::s,0,b,h,g=>by simp at g
 | none::r,x::s,i+1,b,h,g=>by
  simp only[nW]at g⊢;exact tX.get h g
 | some c::r,x::s,0,b,h,g=>by
  simp only[wB,Option.some.injEq]at g⊢;subst g;exact⟨h.1,h.2.1⟩
 | some c::r,x::s,i+1,b,h,g=>by
  simp only[nW]at g⊢;exact tX.get h.2.2 g
 | [],_::_,_,_,h,_=>by simp only[tX]at h
 | none::_,[],_,_,h,_=>by simp only[tX]at h
 | some _::_,[],_,_,h,_=>by simp only[tX]at h
section
variable {X:Cx}{K:PySem.W.Frag}{ρ ρ':Ev}{σ σ':L2.St}{H H':Hp}
structure SpV (K:PySem.W.Frag)(H:Hp)(a:Addr)(O:AS)(N:Nat)(v:V):Prop where
 ex: ∃(t b:Addr) (p:Int) (ms:List V),v= .ref t/\(Rd H t (.tup [.int p,.ref b])\/KT K t [.int p,.ref b])/\b≠a/\ ¬O b/\H b=some (.lst ms)/\ms.length<=N
theorem SpV.up {O:AS}{N:Nat}{b:Addr}{ms ms':List V}{v:V}(h:SpV K H a O N v)(s:eE H H')(hb:H' b=some (.lst ms))(hl:ms'.length<=N+1):SpV K (upd H' b<|.lst ms') a O (N+1) v:=by
 obtain⟨t,c,p,ns,rfl,ht,ca,co,hc,hn⟩:=h.ex
 by_cases e:c=b
 .subst e;refine⟨t,c,p,ms',rfl,?_,ca,co,jU,hl⟩;rcases ht with ht|ht
  .refine .inl ?_
   rcases ht with ht| ⟨o,ht⟩
   .have:=s _ _ ht;exact .inl (by rw[cG (λz=>by rw[z,hb]at this;cases this)];exact this)
   .have:=s _ _ ht;exact .inr ⟨o,by rw[cG (λz=>by rw[z,hb]at this;cases this)];exact this⟩
  .exact .inr ht
 .refine⟨t,c,p,ns,rfl,?_,ca,co,by rw[cG e];exact s _ _ hc,Nat.le_succ_of_le hn⟩
  rcases ht with ht|ht
  .refine .inl ?_
   rcases ht with ht| ⟨o,ht⟩
   .have:=s _ _ ht;exact .inl (by rw[cG (λz=>by rw[z,hb]at this;cases this)];exact this)
   .have:=s _ _ ht;exact .inr ⟨o,by rw[cG (λz=>by rw[z,hb]at this;cases this)];exact this⟩
  .exact .inr ht
variable {o e e2:Expr}{te te2:UE}{x y:Str}{px py py2 apos cpos bpos fpos apos2 cpos2 epos:Pos}
end
section
variable {prog:Program}{w:World}{A:Around}{E:Value->Shared->Prop}{s:Shared}
def aH0 (prog:Program)(w:World)(A:Around)(E:Value->Shared->Prop)(fin:Bool)(Q:Value->Shared->Prop):List (Value×Value)->Shared->Prop
 | [],s=>Q (.bool fin) s
 | (p,q)::r,s=>wpAny (model prog w) A (eqBool p q) (λe s'=>if e=true then aH0 prog w A E fin Q r s' else wpAny (model prog w) A (richCompare .GtE p q) Q E s') E s
theorem aH0.mono {fin:Bool}{Q Q':Value->Shared->Prop}(k: ∀v s,Q v s->Q' v s): ∀(l:List (Value×Value)) (s:Shared),aH0 prog w A E fin Q l s->aH0 prog w A E fin Q' l s
 | [],s,h=>k _ s h
 | (p,q)::r,s,h=>by
  have h':wpAny (model prog w) A (eqBool p q) (λe s'=>if e=true then aH0 prog w A E fin Q r s' else wpAny (model prog w) A (richCompare .GtE p q) Q E s') E s:=h
  refine aS h' (λe s' he=> ?_) λ_ _ z=>z
  cases e
  .rw[a7 ac]at he⊢
   exact aS he k λ_ _ z=>z
  .rw[a8 rfl]at he⊢;exact aH0.mono k r s' he
end
end M
end
section
namespace L2
end L2
namespace M
section
variable {X:Cx}{K:PySem.W.Frag}{last:Nat}{ui ui2:UI}{g g2:UG}{T T2:List Nat}{tt tt2:UT}{te:UE}
variable {elt iter tg iter2 tg2:Expr}{ifs ifs2:List Expr}{scope:Scope}{pos spos py:Pos}{y:Str}{esc:List (Str×NameKind)}{N XN:List Str}{js:List Nat}{cap:List (Option Nat)}
end
abbrev GP:=List (Addr×List V)
def GP.has (g:GP)(x:Addr):Prop:= ∃l,(x,l)∈g
def inP (H0:Hp)(g:GP)(x:Addr)(o:HO):Prop:=(∃l,(x,l)∈g/\o= .lst l)\/(¬g.has x/\H0 x=some o)
open Classical in
nonrec def bZ9 (H0:Hp) (g:GP):Hp:=λx=>if h: ∃o,inP H0 g x o then some h.choose else none
structure GOkP (g:GP)(H0:Hp):Prop where
 nd:(g.map Prod.fst).Nodup
 new: ∀x,g.has x->H0 x=none
theorem bM2: ∀{g:GP},(g.map Prod.fst).Nodup-> ∀{x:Addr} {l l':List V},(x,l)∈g->(x,l')∈g->l=l'
 | [],_,_,_,_,h,_=>by cases h
 | p::g,nd,x,l,l',h,h'=>by
  rw[bX,iC]at nd;rcases aG.mp h with e|h1
  .rcases aG.mp h' with e'|h2
   .rw[<-e]at e';cases e';rfl
   .exact absurd (dO.mpr ⟨_,h2,rfl⟩) (by rw[<-e]at nd;exact nd.1)
  .rcases aG.mp h' with e'|h2
   .exact absurd (dO.mpr ⟨_,h1,rfl⟩) (by rw[<-e']at nd;exact nd.1)
   .exact bM2 nd.2 h1 h2
section
variable {K:PySem.W.Frag}{C C':C0}{ρ ρ':Ev}{σ σ':L2.St}{H H' H0:Hp}{g g':GP}{ds:List (List D)}{r:Nat}
theorem zP (nd:(g.map Prod.fst).Nodup){x:Addr}{o:HO}:bZ9 H0 g x=some o↔inP H0 g x o:=by
 have uniq: ∀o o',inP H0 g x o->inP H0 g x o'->o=o':=λo o' h h'=>by
  rcases h with⟨l,m,rfl⟩| ⟨n,e⟩
  .rcases h' with⟨l',m',rfl⟩| ⟨n',_⟩
   .rw[bM2 nd m m']
   .exact absurd ⟨l,m⟩ n'
  .rcases h' with⟨l',m',_⟩| ⟨_,e'⟩
   .exact absurd ⟨l',m'⟩ n
   .rw[e]at e';cases e';rfl
 unfold bZ9;constructor
 .intro h;split at h
  .rename_i hx
   cases h;exact hx.choose_spec
  .cases h
 .intro h;rw[dif_pos ⟨o,h⟩,uniq _ _ (Exists.choose_spec (⟨o,h⟩: ∃o,inP H0 g x o)) h]
theorem zQ (nd:(g.map Prod.fst).Nodup){x:Addr}(h:bZ9 H0 g x=none): ¬g.has x/\H0 x=none:=by
 have no: ∀o,¬inP H0 g x o:=λo q=>by rw[(zP nd).mpr q]at h;cases h
 have n: ¬g.has x:=λ⟨l,m⟩=>no _ (.inl ⟨l,m,rfl⟩)
 refine⟨n,?_⟩
 cases e:H0 x with
 | none=>rfl
 | some o=>exact absurd (.inr ⟨n,e⟩) (no o)
nonrec def C0.inp (C:C0) (g:GP):C0:=⟨bZ9 C.H0 g,λx=>C.A0 x\/g.has x⟩
def uA (g:GP):List D:=g.map λp=> .adr p.1
def RLp (K:PySem.W.Frag)(A:AS)(H:Hp):List (List D)->GP->Prop
 | [],[]=>True
 | d::ds,p::g=>aV K A H d p.2/\RLp K A H ds g
 | _,_=>False
theorem RLp.mono {A A':AS}(P:jS A H A' H'): ∀{ds:List (List D)} {g:GP},RLp K A H ds g->RLp K A' H' ds g
 | [],[],h=>h
 | _::_,_::_,h=>⟨h.1.mono P,RLp.mono P h.2⟩
 | [],_::_,h=>h
 | _::_,[],h=>h
theorem RLp.set {A:AS}{d:List D}{p:Addr×List V}(q:aV K A H d p.2): ∀{ds:List (List D)} {g:GP} (n:Nat),RLp K A H ds g->RLp K A H (ds.set n d) (g.set n p)
 | [],[],_,h=>h
 | _::_,_::_,0,h=>⟨q,h.2⟩
 | _::_,_::_,n+1,h=>⟨h.1,RLp.set q n h.2⟩
 | [],_::_,_,h=>h.elim
 | _::_,[],_,h=>h.elim
theorem RLp.get {A:AS}{d:List D}: ∀{ds:List (List D)} {g:GP} {n:Nat},RLp K A H ds g->ds[n]? =some d-> ∃p,g[n]? =some p/\aV K A H d p.2
 | [],[],_,_,e=>by cases e
 | x::_,p::_,0,h,e=>by cases e;exact⟨p,rfl,h.1⟩
 | _::_,_::_,n+1,h,e=>RLp.get (n:=n) h.2 e
 | [],_::_,_,h,_=>h.elim
 | _::_,[],_,h,_=>h.elim
theorem RLp.len {A:AS}: ∀{ds:List (List D)} {g:GP},RLp K A H ds g->ds.length=g.length
 | [],[],_=>rfl
 | _::_,_::_,h=>bQ (· +1) (RLp.len h.2)
 | [],_::_,h=>h.elim
 | _::_,[],h=>h.elim
structure qL (K:PySem.W.Frag)(C:C0)(r:Nat)(g:GP)(ds:List (List D))(ρ:Ev)(σ:L2.St)(H:Hp):Prop where
 sl:ρ[r]? =some (some<|.ow<|ds.map .lst)
 gok:GOkP g C.H0
 nb:bZ8 ρ
 a0: ∀a,C.A0 a->C.H0 a≠none
 ok:EOk K (C.inp g) (ρ.set r<|some<|.ow<|uA g) σ H
 rl:RLp K (Av (C.inp g) (ρ.set r<|some<|.ow<|uA g) σ) H ds g
theorem qL.lt (I:qL K C r g ds ρ σ H):r<ρ.length:=(dN.mp I.sl).1
theorem qL.at_r (I:qL K C r g ds ρ σ H):(ρ.set r<|some<|.ow<|uA g)[r]? =some (some<|.ow<|uA g):=eF I.lt
theorem a92: ∀{g:GP} {A:AS} {vs:List V},aV K A H (uA g) vs->vs=g.map λp=>V.ref p.1
 | [],_,_,h=>h.unnil
 | p::g,A,vs,h=>by
  obtain⟨v,vr,rfl,rv,rr⟩:=aV.uncons h;have:v= .ref p.1:=by simpa only[Rep]using rv
  rw[this,a92 rr];rfl
theorem qL.inner (I:qL K C r g ds ρ σ H){x:Addr}{l:List V}(h:(x,l)∈g):H x=some (.lst l):=I.ok.ext x _ ((zP I.gok.nd).mpr<|.inl ⟨l,h,rfl⟩)
theorem qL.own (I:qL K C r g ds ρ σ H)(h:Own ρ σ a):Own (ρ.set r<|some<|.ow<|uA g) σ a:=by
 obtain⟨i,l,h1,h2⟩:=h
 by_cases e:r=i
 .subst e;exact⟨r,_,I.at_r,h2⟩
 .exact⟨i,l,by rw[get_set_ne e];exact h1,h2⟩
theorem qL.notOwn (I:qL K C r g ds ρ σ H)(h:g.has a): ¬Own (ρ.set r<|some<|.ow<|uA g) σ a:=by
 rintro⟨i,l,h1,h2⟩;obtain⟨a',vs,h3,h4,h5,_⟩:=I.ok.ow i l h1;rw[h2]at h3;cases h3;exact(zQ I.gok.nd h5).1 h
theorem qL.av (I:qL K C r g ds ρ σ H)(h:Av C ρ σ a):Av (C.inp g) (ρ.set r<|some<|.ow<|uA g) σ a:=h.imp .inl I.own
theorem qL.free (I:qL K C r g ds ρ σ H)(h:g.has a): ¬Av C ρ σ a:=by
 rintro(z|z)
 .exact I.a0 a z (I.gok.new a h)
 .exact I.notOwn h (I.own z)
theorem a93 (I:qL K C r g ds ρ σ H): ∀{es:List (List D)} {g':GP},(∀p∈g',p∈g)->RLp K (Av (C.inp g) (ρ.set r<|some<|.ow<|uA g) σ) H es g'->aV K (Av C ρ σ) H (es.map .lst) (g'.map λp=>V.ref p.1)
 | [],[],_,_=> .nil
 | [],_::_,_,h=>h.elim
 | _::_,[],_,h=>h.elim
 | d::es,p::g',h,q=>by
  refine .cons (d:= .lst d) ?_ (a93 I (λq hq=>h q (aU _ hq)) q.2)
  have hp:=h p (aL ..);exact⟨p.1,p.2,rfl,I.free ⟨p.2,hp⟩,I.inner hp,q.1.mono<|.sub (.refl _) λa z=>I.av z⟩
theorem qL.out (I:qL K C r g ds ρ σ H):EOk K C ρ σ H:=by
 have sub: ∀a,Av C ρ σ a->Av (C.inp g) (ρ.set r<|some<|.ow<|uA g) σ a:=λa z=>I.av z
 refine⟨by have:=I.ok.len;rw[cS]at this;exact this,λi d h=> ?_,λi l h=> ?_,λi j l l' a h1 h2 h3 h4=> ?_,λi l h=>absurd h (I.nb i l),λb o e=> ?_,I.a0⟩
 .have e:r≠i:=λz=>by subst z;rw[I.sl]at h;cases h
  obtain⟨v,h1,h2⟩:=I.ok.pu i d (by rw[get_set_ne e];exact h)
  exact⟨v,h1,h2.mono<|.sub (.refl _) sub⟩
 .by_cases e:r=i
  .subst e;rw[I.sl]at h;cases h;obtain⟨a,vs,h1,h2,h3,h4⟩:=I.ok.ow r _ I.at_r;have ev:=a92 h4;subst ev;exact⟨a,_,h1,h2,(zQ I.gok.nd h3).2,a93 I (λ_ h=>h) I.rl⟩
  .obtain⟨a,vs,h1,h2,h3,h4⟩:=I.ok.ow i l (by rw[get_set_ne e];exact h)
   exact⟨a,vs,h1,h2,(zQ I.gok.nd h3).2,h4.mono<|.sub (.refl _) sub⟩
 .have up: ∀{i:Nat} {l:List D},ρ[i]? =some (some<|.ow l)-> ∃l2,(ρ.set r<|some<|.ow<|uA g)[i]? =some (some<|.ow l2):=λ{i l} h=>by
   by_cases e:r=i
   .subst e;exact⟨_,I.at_r⟩
   .exact⟨l,by rw[get_set_ne e];exact h⟩
  obtain⟨_,q1⟩:=up h1;obtain⟨_,q2⟩:=up h2;exact I.ok.inj i j _ _ a q1 q2 h3 h4
 .refine I.ok.ext b o ((zP I.gok.nd).mpr<|.inr ⟨λz=> ?_,e⟩)
  rw[I.gok.new b z]at e;cases e
theorem qL.same (I:qL K C r g ds ρ σ H)(s:eE H H'):qL K C r g ds ρ σ H':=⟨I.sl,I.gok,I.nb,I.a0,I.ok.same s,I.rl.mono<|.same s⟩
theorem GOkP.nil {H0:Hp}:GOkP [] H0:=⟨nodup_nil,λx ⟨l,m⟩=>by cases m⟩
end
end M
end
section
namespace L2
section
variable {prog:Program}{w:World}{A:Around}{E:Value->Shared->Prop}{s:Shared}
theorem aH1 {it t:Addr}{items:Array Value}(hne:t≠it): ∀(n i:Nat) (s:Shared) (Q:List Value->Shared->Prop),s.heap.IsListIter it t i->s.heap.IsList t items->i+n<=items.size->
  (∀h',h'.IsListIter it t (i+n)->SameBut it s.heap h'->Q ((items.toList.drop i).take n) {s with heap:=h'})->wpAny (model prog w) A (draw (.ref it) n) Q E s
 | 0,i,s,Q,hit,_,_,hQ=>by
  show wpAny _ _ (pure []) Q E s
  exact aA (by simpa using hQ s.heap hit (Heap.SameBut.refl ..))
 | n+1,i,s,Q,hit,ht,hle,hQ=>by
  have hlt:i<items.size:=aa
  show wpAny _ _ (pyNext (.ref it) >>= _) Q E s
  refine a6 (wpAny_pyNext_list_item hit ht (x:=items[i]) (by simp[hlt]) λh₁ hit₁ hs₁=> ?_)
  refine a6 (cC<|aH1 hne n (i+1) _ _ hit₁ (ht.extBut hs₁.extBut hne) aa λh₂ hit₂ hs₂=>aA ?_)
  have hd:items.toList.drop i=items[i]::items.toList.drop (i+1):=by simp[List.drop_eq_getElem_cons,hlt]
  have:=hQ h₂ (by rw[show i+(n+1)=i+1+n by omega];exact hit₂) (hs₁.trans hs₂)
  rw[hd,List.take_succ_cons]at this;exact this
theorem zR {Q:List Value->Shared->Prop}(hh:A.handled=none)(ht:s.heap.IsList t items)
  (hQ: ∀h',ExtBut s.heap.objs.size s.heap h'->Q items.toList {s with heap:=h'}):wpAny (model prog w) A (unpackItems (.ref t) items.size none) Q E s:=by
 have hlt:t≠s.heap.objs.size:=by obtain⟨o,ho,_⟩:=ht;exact aO (aH ho)
 unfold unpackItems;refine a6 ?_
 .unfold notIterableAtAll;refine a6 (rV ht.typeIs F.slot_list_iter.lookup ?_);refine aA ?_;simp only[kO,dF];refine a6 (cC<|oA ht ?_);refine a6 (cC<|aH1 hlt items.size 0 _ _ ⟨_,aY _ rfl,rfl,rfl⟩ (ht.push _) aa λh₁ hit₁ hs₁=> ?_)
  have hall:List.take items.size (List.drop 0 items.toList)=items.toList:=by
   rw[List.drop_zero];exact List.take_of_length_le ae
  rw[hall];rw[a7 ae]
  have ht₁:h₁.IsList t items:=(ht.push _).extBut hs₁.extBut hlt;refine a6 (cC<|wpAny_pyNext_list_end hh hit₁ ht₁ ae λh₂ he₂=> ?_)
  simp only[Option.isSome_none,kO,dF];refine aA (hQ h₂ λb o hb e=>he₂ b o hb (hs₁.extBut b o hb<|aJ _ e))
theorem yF {env:Env}{x1}{Q:Unit->Shared->Prop}(hh:A.handled=none)(ht:s.heap.IsList t items)
  (hn:(assignEach elts env).length=items.size) (hstar:(assignEach elts env).findIdx? (·.1)=none)
  (h: ∀h',ExtBut s.heap.objs.size s.heap h'->wpAny (model prog w) A (assignInOrder ((assignEach elts env).map (·.2)) items.toList) Q E {s with heap:=h'}) :
  wpAny (model prog w) A (assign (.Tuple elts x1 pos) env<|.ref t) Q E s:=by
 rw[assign_Tuple];refine a6 (rY ?_);unfold unpack;rw[hn,hstar];exact a6 (cC<|zR hh ht h)
end
section
variable {X:Cx}{pos:Pos}
def gTupL (K:PySem.W.Frag)(n:Nat)(t:TGs):TG:=λv σ H Q=> ∃a xs,v= .ref a/\SqL K H a xs/\xs.length=n/\t xs σ H Q
theorem c00 {t:TGs}(hc:X.calm=true)(h:PGs X es t)
  (hn:↥((assignEach es X.env).length=n)) (hst:↥((assignEach es X.env).findIdx? (·.1)=none)):PG X (.Tuple es k pos) (gTupL X.K n t):=by
 intro pins s σ H v u Q I r hw;obtain⟨a,xs,e1,hq,hl,hw⟩:=hw;subst e1;cases r;obtain⟨its,rv,pl,hz⟩:=I.list hq;refine yF (I.ok.hd hc) pl.isList (by simp[hn,<-hl,rv.length]) hst λh' hx=> ?_
 have I1:Inv X pins σ H {s with heap:=h'}:=I.kept (t':=s.toks) λb o e=>hx b o (aO<|aH e) e
 exact h pins _ σ H xs _ Q I1 (by exists rv) hw
end
end L2
namespace M
section
variable {X:Cx}{pos:Pos}
def b68 (u:UGs):UG:=λb ρ Q=>match b.d with
 | .lst ds=>u ds ρ Q
 | _=>False
theorem c01 {u:UGs}{T:List Nat}(hc:X.calm=true)(h:bI4 X es T u)(hu: ∀ds ρ Q,u ds ρ Q->ds.length=n)
  (hn:↥((assignEach es X.env).length=n)) (hst:↥((assignEach es X.env).findIdx? (·.1)=none)):PUG X (.Tuple es k pos) T (b68 u):=
 bI3 (c00 hc h hn hst) λv σ H Q z=>by
  obtain⟨C,ρ,b,H00,Q0,I,s,r,g,k⟩:=z;have R:=r.rep λa z=>I.avSome z
  unfold b68 at g;split at g
  .rename_i ds e
   rw[e]at R;simp only[Rep]at R;obtain⟨a,vs,rfl,n0,c,rs⟩:=R;exact⟨a,vs,rfl,SqL.of c,by rw[<-rs.length];exact hu _ _ _ g,C,ρ,ds,Q0,I.same s,rs,g,k⟩
  .exact g.elim
end
end M
namespace L2
end L2
namespace M
end M
end
section
namespace L2
end L2
namespace M
def Sb (i:Int):Prop:=i.natAbs<2^60000
theorem Sb.pow {i:Int}(h:i.natAbs<=2^k)(hk:k<60000):Sb i:=rM h (Nat.pow_lt_pow_right ac hk)
open PySem L2
section
variable {X:Cx}{es:List Expr}{t:UA}
structure WE (X:Cx)(e:Expr)(t:UE):Prop where
 out:PU X e t
theorem we_l (h:WA X es t):WE X (.List es p) (iP t):=⟨dG h.out⟩
end
end M
end
section
namespace L2
end L2
namespace M
section
variable {X:Cx}{K:PySem.W.Frag}{C C':C0}{ρ ρ':Ev}{σ σ':L2.St}{H H' H0:Hp}{g g':GL}{r:Nat}{st:Stmt}{sts a:List Stmt}{c e:Expr}{pos:Pos}{t u ta:US}{te ti tj:UE}{tc:UT}
def bM3 (K:PySem.W.Frag)(C:C0)(r:Nat)(m:Bool)(ρ:Ev)(σ:L2.St)(H:Hp):Prop:=(m=true->EOkN K C r ρ σ H)/\(m=false->EOk K C ρ σ H)
theorem bM3.out {m:Bool}(I:bM3 K C r m ρ σ H):EOk K C ρ σ H:=by
 cases m with
 | true=>obtain⟨g,J⟩:=I.1 rfl;exact J.out
 | false=>exact I.2 rfl
theorem bM3.same {m:Bool}(I:bM3 K C r m ρ σ H)(s:eE H H'):bM3 K C r m ρ σ H':=⟨λe=>by obtain⟨g,J⟩:=I.1 e;exact⟨g,J.same s⟩,λe=>(I.2 e).same s⟩
end
end M
end
namespace PySem
def tab (led:Bool)(P:List Nat):SetTable:={mask:=7,place:=P.toArray,dummies:= #[],finger:=0,led:=led,moves:=0,plain:=true}
def ris:List Nat->Bool
 | []=>true
 | [a]=>Nat.blt a 8
 | a::b::l=>Nat.blt a b&&ris (b::l)
def bM4 (led:Bool)(P:List Nat)(h:Nat):Bool:=match(tab led P).freeSlot h with
 | some (slot,false)=>Nat.ble (SetTable.below P.toArray slot) P.length&&ris (P.take (SetTable.below P.toArray slot)++slot::P.drop (SetTable.below P.toArray slot))
 | _=>false
def c02 (f:List Nat->Bool):Bool:=f []&&(List.range 8).all λa=>f [a]&&(List.range 8).all λb=>not (ris [a,b])||(f [a,b]&&(List.range 8).all λc=>not (ris [a,b,c])||f [a,b,c])
theorem bM5:(c02 λP=>[true,false].all λled=>(List.range 7).all λq=>(List.range 8).all λr=>bM4 led P (32*q+r))=true:=af
theorem xJ {a b:Nat}{l:List Nat}(h:ris (a::b::l)=true):a<b/\ris (b::l)=true:=by
 rw[ris,bK]at h;exact⟨by simpa using h.1,h.2⟩
theorem jY: ∀{l:List Nat} {a:Nat},ris (a::l)=true->a<8
 | [],a,h=>by simpa[ris]using h
 | b::l,a,h=>by have:=xJ h;have:=jY this.2;omega
theorem b69 {f:List Nat->Bool}(h:c02 f=true){P:List Nat}(hr:ris P=true)(h3:P.length<=3):f P=true:=by
 unfold c02 at h;rw[bK,cJ]at h
 match P,hr,h3 with
 | [],_,_=>exact h.1
 | [a],hr,_=>
  have:=h.2 a (bW.mpr<|jY hr);rw[bK]at this;exact this.1
 | [a,b],hr,_=>
  have:=h.2 a (bW.mpr<|jY hr);rw[bK,cJ]at this;have:=this.2 b (bW.mpr<|jY (xJ hr).2);rw[hr,fN,kT,bK]at this;exact this.1
 | [a,b,c],hr,_=>
  have:=h.2 a (bW.mpr<|jY hr);rw[bK,cJ]at this;have hab:=xJ hr;have hbc:=xJ hab.2;have r2:ris [a,b]=true:=by simp[ris,hab.1,jY hab.2]
  have:=this.2 b (bW.mpr<|jY hab.2);rw[r2,fN,kT,bK,cJ]at this;have:=this.2 c (bW.mpr<|jY hbc.2);rw[hr,fN,kT]at this;exact this
theorem b08 (t:SetTable)(h h':Int): ∀(fuel j more i u u':Nat) (d:Option Nat),u/32=u'/32->
  SetTable.probe.go t (λ_=>h+1) h fuel ⟨j,more,i,u,d⟩=SetTable.probe.go t (λ_=>h'+1) h' fuel ⟨j,more,i,u',d⟩:=by
 intro fuel
 induction fuel with
 | zero=>intro j more i u u' d _;rfl
 | succ k ih=>
  intro j more i u u' d hu;have adv: ∀d:Option Nat,SetTable.probe.go t (λ_=>h+1) h k (t.advance ⟨j,more,i,u,d⟩)=SetTable.probe.go t (λ_=>h'+1) h' k (t.advance ⟨j,more,i,u',d⟩):=λd=>by
   unfold SetTable.advance;right
   by_cases hm:more>0
   .rw[a8 hm,a8 hm];exact ih _ _ _ _ _ _ hu
   .rw[a7 hm,a7 hm];unfold SetTable.leap;right;rw[<-hu];exact ih _ _ _ _ _ _ rfl
  rw[SetTable.probe.go,SetTable.probe.go];right;cases t.slot j with
  | empty=>rfl
  | dummy=>exact adv (some j)
  | live n=>
   have e1:(h+1==h)=false:=by rw[wP];omega
   have e2:(h'+1==h')=false:=by rw[wP];omega
   right;rw[e1,e2];exact adv d
theorem bM6 {h:Nat}(hh:h<199):SetTable.bits (h:Int)=h:=by
 unfold SetTable.bits;omega
theorem bC9 (led:Bool)(P:List Nat){h:Nat}(hh:h<199):(tab led P).freeSlot (h:Int)=(tab led P).freeSlot ((32*(h/32)+h%8:Nat):Int):=by
 have h2:32*(h/32)+h%8<199:=aa
 have e:(32*(h/32)+h%8)%8=h%8:=aa
 have p1: ∀k:Nat,k<199->(tab led P).probeStart (k:Int)={j:=k%8,more:=SetTable.runEnd 7 (k%8)-k%8,i:=k%8,perturb:=k,dummy:=none}:=λk hk=>by
  unfold SetTable.probeStart;rw[bM6 hk];rfl
 unfold SetTable.freeSlot SetTable.probe;rw[p1 h hh,p1 _ h2,e,b08 (tab led P) (h:Int) ((32*(h/32)+h%8:Nat):Int) _ _ _ _ h (32*(h/32)+h%8) none aa]
theorem c03 (led:Bool){P:List Nat}(hr:ris P=true)(h3:P.length<=3){h:Nat}(hh:h<199) :
  ∃slot p,(tab led P).freeSlot (h:Int)=some (slot,false)/\p=SetTable.below P.toArray slot/\p<=P.length/\ris (P.take p++slot::P.drop p)=true:=by
 have a:=b69 bM5 hr h3;have b:=cJ.mp a led (by cases led<;>simp)
 have c:=cJ.mp b (h/32) (bW.mpr aa)
 have d:=cJ.mp c (h%8) (bW.mpr aa)
 unfold bM4 at d;rw[bC9 led P hh];generalize (tab led P).freeSlot _=r at d⊢
 match r,d with
 | some (slot,false),d=>
  rw[bK]at d;exact⟨slot,_,rfl,rfl,by simpa using d.1,d.2⟩
theorem bM7:((List.range 199).all λk=>decide (hashInt (k:Int)=(k:Int)))=true:=af
theorem xK (h:k<199):hashInt (k:Int)=(k:Int):=by
 have:=cJ.mp bM7 k (bW.mpr h)
 exists this
def c04 (e:Int×Value)(k:Nat):Prop:=e.1=(k:Int)/\ ∃t,e.2= .int (k:Int) t
inductive nB:List (Int×Value)->List Nat->Prop
 | nil:nB [] []
 | cons {e:Int×Value} {k:Nat} {l:List (Int×Value)} {ks:List Nat} (h:c04 e k) (r:nB l ks):nB (e::l) (k::ks)
theorem nB.length: ∀{l:List (Int×Value)} {ks:List Nat},nB l ks->l.length=ks.length
 | _,_,.nil=>rfl
 | _,_,.cons _ r=>bQ (· +1) r.length
theorem nB.ins: ∀{l:List (Int×Value)} {ks:List Nat},nB l ks-> ∀{e:Int×Value} {k:Nat} (p:Nat),c04 e k->nB (l.take p++e::l.drop p) (ks.take p++k::ks.drop p)
 | _,_,.nil,e,k,p,h=>by simp;exact .cons h .nil
 | _,_,.cons h r,e,k,0,h'=> .cons h' (.cons h r)
 | _,_,.cons h r,e,k,p+1,h'=> .cons h (r.ins p h')
theorem nB.get: ∀{l:List (Int×Value)} {ks:List Nat},nB l ks-> ∀e∈l,∃k∈ks,c04 e k
 | _,_,.nil,e,h=>by cases h
 | _,_,.cons h r,e,m=>by
  rcases aG.mp m with rfl|m
  .exact⟨_,aL,h⟩
  .obtain⟨k,hk,h⟩:=r.get e m;exact⟨k,aU _ hk,h⟩
theorem nB.at: ∀{l:List (Int×Value)} {ks:List Nat},nB l ks-> ∀k∈ks,∃e∈l,c04 e k
 | _,_,.nil,e,h=>by cases h
 | _,_,.cons h r,e,m=>by
  rcases aG.mp m with rfl|m
  .exact⟨_,aL,h⟩
  .obtain⟨k,hk,h⟩:=r.at e m;exact⟨k,aU _ hk,h⟩
section
variable {prog:Program}{w:World}{A:Around}{E:Value->Shared->Prop}{s:Shared}
theorem nB.elems {l:List (Int×Value)}(h:nB l ks)(hk: ∀k∈ks,k<199):ElemsOf (intKind prog w) l:=λe he=>by
 obtain⟨k,hm,h1,t,h2⟩:=h.get e he;refine⟨⟨(k:Int),by rw[h2];exact oP _ _ _ _,?_⟩,by rw[h2];rfl⟩
 rw[h1];exact(xK<|hk k hm).symm
structure aM6 (h:Heap)(S:Addr)(led:Bool)(ks:List Nat):Prop where
 ex: ∃es ep P,h.get? S=some {cls:= .type "set",dict:=none,data:= .set es ep (tab led P)}/\ris P=true/\P.length=ks.length/\nB es.toList ks
 lt: ∀k∈ks,k<199
 nd:ks.Nodup
theorem qM {P:List Nat}(h:P.length=n)(h4:n<=4):(tab led P).fits n=true:=by
 unfold SetTable.fits SetTable.fill tab;simp[h];omega
theorem c05 {S:Addr}{led:Bool}{ks:List Nat}{k:Nat}{t:Tok}{Q:Bool->Shared->Prop}(hk:k<199)(hS:aM6 s.heap S led ks)(h3:ks.length<=3)
  (h: ∀h' ks' b,SameBut S s.heap h'->aM6 h' S led ks'->(∀x,x∈ks'↔x∈ks\/x=k)->ks'.length<=ks.length+1->Q b {s with heap:=h'}) :
  wpAny (model prog w) A (setAddHashed S (.int (k:Int) t)<|hashInt (k:Int)) Q E s:=by
 obtain⟨⟨es,ep,P,ho,hr,hl,hes⟩,hlt,hnd⟩:=hS;have hn:=hes.length;rw[jA]at hn;have hel:=hes.elems (prog:=prog) (w:=w) hlt;have hf:(tab led P).fits es.size=true:=qM (by rw[hl,hn]) aa
 unfold setAddHashed setAddHashedIn;refine cC (a6<|oB ho rfl hf ?_);right;rw[byScan_of (knd:=intKind prog w) rfl (by unfold scanBound;omega) hel]
 simp only[↓reduceIte];unfold setAddByScan;refine a6 ?_;refine a6 (jM ?_);refine a6 (wpAny_setScan_of (knd:=intKind prog w) (k:=(k:Int)) (oP _ _ _ _) ho rfl hf hel ?_);cases hfi:List.findIdx? (λe=>(intKind prog w).is (k:Int) e.2) es.toList with
 | some j=>
  right;refine aA (aA ?_);have e:s={s with heap:=s.heap}:=by cases s;rfl
  rw[e];obtain⟨hj,hpj,_⟩:=List.findIdx?_eq_some_iff_getElem.mp hfi;obtain⟨k',hk',h1,t',h2⟩:=hes.get _ (e9 hj);have hkk:k=k':=by
   rw[h2]at hpj;have:=(intKind prog w).inj _ _ _ hpj (oP prog w (k':Int) t');omega
  subst hkk;exact h s.heap ks _ (Heap.SameBut.refl S s.heap) ⟨⟨es,ep,P,ho,hr,hl,hes⟩,hlt,hnd⟩ (λx=>⟨.inl,λz=>z.elim id λz=>z▸hk'⟩) (oO _)
 | none=>
  right;have hkn:k ∉ ks:=λhm=>by
   obtain⟨e,he,h1,t',h2⟩:=hes.at k hm;have:=List.findIdx?_eq_none_iff.mp hfi e he;rw[h2,oP]at this;cases this
  obtain⟨slot,p,f1,f2,f3,f4⟩:=c03 led hr aa hk
  rw[<-xK hk]at f1;obtain⟨P',eP⟩: ∃P',P'=P.take p++slot::P.drop p:=⟨_,rfl⟩;rw[<-eP]at f4;have lP:P'.length=P.length+1:=by rw[eP];simp;omega
  have hput:(tab led P).put slot=(tab led P',p):=by
   have e1:SetTable.insertAt P.toArray p slot=P'.toArray:=by
    apply Array.toList_inj.mp
    rw[SetTable.toList_insertAt,eP]
   have e2:SetTable.has #[] slot=false:=by simp[SetTable.has]
   unfold SetTable.put tab;right;rw[<-f2,e1,e2,a7 bG]
  have hsz:(SetTable.insertAt es p (hashInt (k:Int),Value.int (k:Int) t)).toList=es.toList.take p++(hashInt (k:Int),Value.int (k:Int) t)::es.toList.drop p:=SetTable.toList_insertAt _ _ _;have hsz2:(SetTable.insertAt es p (hashInt (k:Int),Value.int (k:Int) t)).size=es.size+1:=by
   rw[<-jA,hsz];simp;omega
  have hfit:(tab led P').fits (es.size+1)=true:=qM (by rw[lP,hl,hn]) aa
  have hL:layNew (tab led P) es (hashInt (k:Int)) (.int (k:Int) t)=(SetTable.insertAt es p (hashInt (k:Int),Value.int (k:Int) t),tab led P',false,false):=by
   unfold layNew;rw[f1];right;rw[hput];right;rw[hsz2];unfold SetTable.orStandIn;rw[a8 hfit,hfit];rfl
  have hful:(tab led P').tooFull=false:=by
   unfold SetTable.tooFull SetTable.fill tab;rw[rG];show ¬((P'.toArray.size+0)*5≥7*3);rw[aZ];omega
  rw[hL];right;have go: ∀h',SameBut S s.heap h'->aM6 h' S led (ks.take p++k::ks.drop p)->Q true {s with heap:=h'}:=λh' sb S'=>h h' _ true sb S' (λx=>by
   rw[bH,aG];have:=rK p ks;have m:x∈ks↔x∈ks.take p\/x∈ks.drop p:=by rw[<-bH,this]
   rw[m];constructor
   .rintro(z|z|z)
    .exact .inl (.inl z)
    .exact .inr z
    .exact .inl (.inr z)
   .rintro((z|z)|z)
    .exact .inl z
    .exact .inr (.inr z)
    .exact .inr (.inl z)) (by simp;omega)
  refine a6 (aA ?_)
  rw[show SetTable.plain (tab led P')=true from rfl,a8 rfl]
  refine a6 ?_
  rw[hashByValue_scannable 8 rfl];refine aA ?_;rw[show plainKind (Value.int (k:Int) t)=true from rfl,a8 rfl,hful]
  refine a6 (wpAny_storeSet_of ho rfl ?_ (fits_of_scanBound (by rw[hsz2];unfold scanBound;omega)))
  rw[a7 ac]
  refine aA (aA<|go _ (gI s.heap S _) ⟨⟨SetTable.insertAt es p (hashInt (k:Int),Value.int (k:Int) t),ep+1,P',?_,f4,?_,?_⟩,?_,?_⟩)
  .have:=i6 (Obj.putSet (SetTable.insertAt es p (hashInt (k:Int),Value.int (k:Int) t))<|tab led P') ho (by rw[putSet_of _ _ rfl];rfl)
   rw[putSet_of _ _ rfl]at this;exact this
  .rw[lP,hl];simp;omega
  .rw[hsz];exact hes.ins p ⟨xK hk,t,rfl⟩
  .intro x hx;rcases bH.mp hx with z|z
   .exact hlt x (List.mem_of_mem_take z)
   .rcases aG.mp z with rfl|z
    .exact hk
    .exact hlt x (wN z)
  .have:=rK p ks;rw[<-this]at hnd hkn;exact(List.perm_middle.nodup_iff).mpr (iC.mpr ⟨hkn,hnd⟩)
end
theorem aM6.move {S:Addr}(x:aM6 h S led ks)(e: ∀o,h.get? S=some o->h'.get? S=some o):aM6 h' S led ks:=by
 obtain⟨⟨es,ep,P,ho,r⟩,hl,hn⟩:=x;exact⟨⟨es,ep,P,e _ ho,r⟩,hl,hn⟩
def yG (h:Heap)(S:Addr)(led:Bool)(val:Nat->Nat)(i:Nat):Prop:= ∃ks,aM6 h S led ks/\ks.length<=i/\ ∀x,x∈ks↔ ∃j,j<i/\x=val j
theorem yG.move {S:Addr}{val:Nat->Nat}(x:yG h S led val i)(e: ∀o,h.get? S=some o->h'.get? S=some o):yG h' S led val i:=by
 obtain⟨ks,a,r⟩:=x;exact⟨ks,a.move e,r⟩
section
variable {prog:Program}{w:World}{A:Around}{R:Result->Shared->Prop}{I:Addr}{fp wr:List Addr}{G:Array GenState->Array GenState->Prop}{n:Nat}{P:Nat->Value->Prop}{St:Nat->Shared->Prop}
theorem bM8 (W:WalksS prog w A.in1 I fp wr G n P St)(S:Addr)(hSf:S ∉ fp){led:Bool}(val:Nat->Nat)(hval: ∀i v,P i v-> ∃t,v= .int (val i:Int) t)(hlt: ∀i,i<n->val i<199)(hn:n<=4) :
  ∀(k i:Nat) (s:Shared),n-i=k->i<=n->St i s->yG s.heap S led val i->
   (∀s',Moved (S::wr) G s s'->yG s'.heap S led val n->R (.ok<|.ret .none) s')->
   codeAny (model prog w) A (.builtin "set.update.loop" ⟨[.ref S,.ref I],[]⟩) R s:=by
 have hSw:S ∉ wr:=λh=>hSf (W.sub _ h)
 have sub: ∀b∈wr,b∈S::wr:=λb hb=>aU _ hb
 intro k
 induction k with
 | zero=>
  intro i s hk hi hst hU hR;obtain rfl:i=n:=aa
  refine iD PyProof.Rows.F.entry_set_update_loop ?_
  rw[nZ vU _];show wpAny _ A.in1 (pyNext (.ref I) >>= _) _ _ s;refine a6 (W.done s _ _ hst λs' hm=> ?_)
  show wpAny _ A.in1 (ret Value.none) _ _ s'
  exact aA (hR s' (hm.mono sub)<|hU.move λo e=>hm.heap S _ hSw e)
 | succ k ih=>
  intro i s hk hi hst hU hR;have hin:i<n:=aa
  refine iD PyProof.Rows.F.entry_set_update_loop ?_
  rw[nZ vU _];show wpAny _ A.in1 (pyNext (.ref I) >>= _) _ _ s;refine a6 (W.item i s _ _ hin hst λv s' hP hst' hm=> ?_)
  obtain⟨t,rfl⟩:=hval i v hP;obtain⟨ks,hS,hl,hmem⟩:=hU.move λo e=>hm.heap S _ hSw e
  show wpAny _ A.in1 (holding [Value.int (val i:Int) t] (setAdd S<|.int (val i:Int) t) >>= _) _ _ s'
  refine a6 (cC ?_)
  unfold setAdd;refine cC ?_;refine a6 ((intKind prog w).pyHash (k:=(val i:Int)) (oP _ _ _ _) ?_);refine c05 (s:={s' with toks:=s'.toks+1}) (hlt i hin) hS aa λh' ks' b sb hS2 hmem2 hl2=> ?_
  have hU2:yG h' S led val (i+1):=⟨ks',hS2,aa,λx=>by
   rw[hmem2,hmem];constructor
   .rintro(⟨j,hj,rfl⟩|rfl)
    .exact⟨j,aa,rfl⟩
    .exact⟨i,aa,rfl⟩
   .rintro⟨j,hj,rfl⟩
    by_cases e:j=i
    .exact .inr (by rw[e])
    .exact .inl ⟨j,aa,rfl⟩⟩
  refine aA ⟨oJ vU _,ih (i+1) _ aa hin (W.frame _ s' _ _ hst' (oO _) λb hb o e=> ?_) hU2 λs'' hm'' hU''=> ?_⟩
  .rw[sb.2 b (λh:b=S=>hSf (by rw[<-h];exact hb))];exact e
  .refine hR s'' (Moved.trans W.gtrans ((hm.mono sub).then_heap (oO _) λb o hb e=> ?_) hm'') hU''
   rw[sb.2 b (λh:b=S=>hb (by rw[h];exact aL))];exact e
end
section
variable {prog:Program}{w:World}{A:Around}{E:Value->Shared->Prop}{s:Shared}
def kZ (w:World):Bool:= !(w.params.followText "set-order")
def aD7 (w:World):Obj:={cls:= .type "set",dict:=none,data:= .set #[] 0 (tab (kZ w) [])}
theorem c06 (a:Value){Q1:Value->Shared->Prop}(h:Q1 (.ref s.heap.objs.size) {s with heap:=s.heap.push (aD7 w)}) :
  codeAny (model prog w) A (.call (.builtin "set.__new__") ⟨[.type "set",a],[]⟩) (wants Q1 E) s:=by
 refine xE ?_
 show wpAny _ A.in1 (do checkBuiltinCall "set.__new__" ⟨[.type "set",a],[]⟩;again (.builtin "set.__new__" ⟨[.type "set",a],[]⟩)) _ _ s
 refine a6 (eB (PySem.F.newCall_set_1 a)<|aA ⟨oJ F.plain_set_new _,iD F.entry_set_new ?_⟩)
 rw[nZ F.plain_set_new _];unfold Builtin.«set.__new__» Builtin.Frozenset.newClass;have sub:=sub_set_self;obtain⟨hp,g,d,tk,os⟩:=s;right
 wp_walk
 refine oD (aA ?_)
 right;simp only[newObj];exact a6 (wpAny_alloc<|aA<|aA h)
theorem c07 {S:Addr}{val:Nat->Nat}(ho:h.get? S=some (aD7 w)):yG h S (kZ w) val 0:=
 ⟨[],⟨⟨#[],0,[],ho,rfl,rfl,.nil⟩,λ_ z=>(by cases z),nodup_nil⟩,aC _,λx=>⟨λz=>(by cases z),λ⟨j,z,_⟩=>absurd z (Nat.not_lt_zero _)⟩⟩
set_option maxHeartbeats 3200000 in
theorem bM9 {l:Addr}{items:Array Value}{val:Nat->Nat}{Q:Value->Shared->Prop}(hh:A.handled=none)(hl:s.heap.IsList l items)(hval: ∀(i:Nat) (v:Value),items[i]? =some v-> ∃t,v= .int (val i:Int) t)(hlt: ∀i,i<items.size->val i<199)(hn:items.size<=4)
  (h: ∀(h':Heap) (tk:Nat),yG h' s.heap.objs.size (kZ w) val items.size->(∀b o,b<s.heap.objs.size->s.heap.get? b=some o->h'.get? b=some o)->Q (.ref s.heap.objs.size) {s with heap:=h',toks:=tk}) :
  wpAny (model prog w) A (call (.type "set") [.ref l]) Q E s:=by
 obtain⟨c,tl,hmro⟩:=F.called_set.mro;have m1:=F.called_set.made;have m2:=F.called_set.sub;refine wpAny_call (xE ?_);show wpAny _ _ (callAny (.type "set") _) _ _ _;refine aA ⟨Code.quiet_builtin _ af,iD F.entry_type_call ?_⟩
 rw[Around.under_plain (weight_type_call_type "set" [.ref l] []) rfl];have m3:=F.called_set.notType;have m4:=F.called_set.canCreate;have m5:=PySem.F.typeCall_set_1 (.ref l)
 repeat (any_goals (first|assumption|wp_step))
 refine kU (c06 (.ref l) (E:=E) (Q1:=λobj s₁=>obj= .ref s.heap.objs.size/\s₁={s with heap:=s.heap.push (aD7 w)}) ⟨rfl,rfl⟩) λr s₁ hr=> ?_
 cases r with
 | error e=>exact hr
 | ok fl=>
  cases fl with
  | ret obj=>
   obtain⟨rfl,rfl⟩:=hr;have hS:(s.heap.push<|aD7 w).get? s.heap.objs.size=some (aD7 w):=aY _ rfl;have hT:Shared.TypeIs {s with heap:=s.heap.push (aD7 w)} (.ref s.heap.objs.size) "set":=⟨_,hS,rfl⟩;have m6:=F.called_set.init.lookup;have m7:=F.called_set.init.bind (.ref s.heap.objs.size)
   repeat (any_goals (first|assumption|wp_step))
   refine kU (wO (R:=wants (λr s₂=>r= .none/\ ∃h' tk,s₂={s with heap:=h',toks:=tk}/\yG h' s.heap.objs.size (kZ w) val items.size/\(∀b o,b<s.heap.objs.size->s.heap.get? b=some o->h'.get? b=some o)) E) F.called_set.init.plain F.entry_set_init<|check_set_init_1 hT ?_) λr₂ s₂ hr₂=> ?_
   .obtain⟨⟨ocls,odict,odata,osl⟩,hol,hc,nl,hd⟩:=hl;simp only at hc hd;subst hc;subst hd;have hol':(s.heap.push<|aD7 w).get? l=some {cls:= .type "list",dict:=odict,data:= .seq items nl,slots:=osl}:=aJ _ hol;have m8:=PySem.F.sub_list_set;have m9:=PySem.F.sub_list_frozenset;have hne:(Value.type "list"==Value.type "dict")=false:=ac
    have hl1:(s.heap.push<|aD7 w).IsList l items:=⟨_,hol',rfl,nl,rfl⟩;unfold Builtin.«set.__init__» noKeywords Builtin.Frozenset.updateFrom;generalize hPI:pyIter=PI
    wp_walk
    subst hPI;refine oA hl1 (a6<|wpAny_runValue ?_);have hlS:l<s.heap.objs.size:=aH hol;have nI:l≠(s.heap.push<|aD7 w).objs.size:=by rw[dD];exact aO (cW hlS)
    have nS:s.heap.objs.size ∉ [(s.heap.push<|aD7 w).objs.size,l]:=by
     rw[dD];simp only[aG,cY,cL,eS];exact⟨aO<|jC _,gP hlS⟩
    refine bM8 ((Walks.list (by simp[hh]) _ l nI items).toS) s.heap.objs.size nS val hval hlt hn (items.size-0) 0 _ rfl (cK _) ⟨⟨_,aY _ rfl,rfl,rfl⟩,hl1.push _⟩ (c07<|aJ _ hS) λs' hm hU=> ?_
    obtain⟨h',g',d',tk',os'⟩:=s';obtain rfl:g'=s.gens:=hm.gens;obtain rfl:d'=s.drawn:=hm.drawn;obtain rfl:os'=s.os:=hm.os;refine aA (aA ⟨rfl,h',tk',rfl,hU,λb o hb e=>hm.heap b o ?_ (aJ _<|aJ _ e)⟩)
    rw[dD];simp only[aG,cY,cL,eS];exact⟨aO hb,aO<|cW hb⟩
   .cases r₂ with
    | error e=>exact hr₂
    | ok fl₂=>
     cases fl₂ with
     | ret r=>
      obtain⟨rfl,h',tk,rfl,hU,hk'⟩:=hr₂
      repeat (any_goals (first|assumption|wp_step))
      exact h _ _ hU hk'
     | _=>exact hr₂.elim
  | _=>exact hr.elim
end
theorem qN:Slot "set_iterator" "__next__" "set_iterator.__next__":=
 .of (owner:="set_iterator") (n:="__next__") (by rw[kR,kF];kernel_rfl) af af af (by first|exact .inl af|exact .inr af) (by rw[gM];kernel_rfl)
theorem aH2:entryFor table "set_iterator.__next__"=some Builtin.«set_iterator.__next__» :=entryFor_of_tree (by kernel_rfl)
theorem aH3:Manifest.owners.lookup (String.ofList ['r','o','t','a','r','e','t','i','_','t','e','s'].reverse)=some Manifest.sig_set_iterator:=by kernel_rfl
theorem aT2 (a:Value):argsOk "set_iterator.__next__" ⟨[a],[]⟩:=by
 unfold argsOk;rw[sA (id:="set_iterator.__next__") (n:=['_','_','t','x','e','n','_','_']) (o:=['r','o','t','a','r','e','t','i','_','t','e','s']) (by kernel_rfl) aH3];kernel_rfl
theorem aT3:entryFor table "set.__iter__"=some Builtin.«frozenset.__iter__» :=
 entryFor_alias (id':="frozenset.__iter__") (by kernel_rfl) rfl af (by kernel_rfl)
def allQ (f:List Nat->Bool):Bool:=c02 f&&(List.range 8).all λa=>(List.range 8).all λb=>not (ris [a,b])||(List.range 8).all λc=>not (ris [a,b,c])||(List.range 8).all λd=>not (ris [a,b,c,d])||f [a,b,c,d]
def aM7 (P:List Nat):Bool:=decide (SetTable.below P.toArray 0=0)&&(List.range P.length).all λi=>decide (SetTable.below P.toArray (P.getD i 0+1)=i+1)
theorem bN0:allQ aM7=true:=af
theorem aT4 {P:List Nat}(hr:ris P=true)(h4:P.length<=4):aM7 P=true:=by
 have h:=bN0;unfold allQ at h;rw[bK]at h
 by_cases h3:P.length<=3
 .exact b69 h.1 hr h3
 match P,hr,h4,h3 with
 | [],_,_,h3=>exact absurd (cK 3) h3
 | [a],_,_,h3=>exact absurd (show 1<=3 by decide) h3
 | [a,b],_,_,h3=>exact absurd (show 2<=3 by decide) h3
 | [a,b,c],_,_,h3=>exact absurd (show 3<=3 by decide) h3
 | [a,b,c,d],hr,_,_=>
  have hab:=xJ hr;have hbc:=xJ hab.2;have hcd:=xJ hbc.2;have r2:ris [a,b]=true:=by simp[ris,hab.1,jY hab.2]
  have r3:ris [a,b,c]=true:=by simp[ris,hab.1,hbc.1,jY hbc.2]
  have x:=cJ.mp h.2 a (bW.mpr<|jY hr);have x:=cJ.mp x b (bW.mpr<|jY hab.2);rw[r2,fN,kT]at x;have x:=cJ.mp x c (bW.mpr<|jY hbc.2);rw[r3,fN,kT]at x;have x:=cJ.mp x d (bW.mpr<|jY hcd.2);rw[hr,fN,kT]at x;exact x
theorem b09 {P:List Nat}(hr:ris P=true)(h4:P.length<=4):SetTable.below P.toArray 0=0:=by
 have:=aT4 hr h4;unfold aM7 at this;rw[bK,oC]at this;exact this.1
theorem b10 {P:List Nat}(hr:ris P=true)(h4:P.length<=4)(hi:i<P.length):SetTable.below P.toArray (P.getD i 0+1)=i+1:=by
 have:=aT4 hr h4;unfold aM7 at this;rw[bK]at this;have:=cJ.mp this.2 i (bW.mpr hi)
 exists this
section
variable {prog:Program}{w:World}{A:Around}{E:Value->Shared->Prop}{s:Shared}
def aH4 (h:Heap)(I S:Addr)(slot i n ep:Nat):Prop:= ∃o,h.get? I=some o/\o.cls= .type "set_iterator"/\o.data= .fields #[.int slot 0,.int i 0,.ref S,.int n 0,.int ep 0]
theorem aH4.typeIs {S:Addr}(x:aH4 s.heap I S slot i n ep):s.TypeIs (.ref I) "set_iterator":=let ⟨o,ho,hc,_⟩:=x;⟨o,ho,hc⟩
def aD8 (w:World)(es:Array (Int×Value))(ep:Nat)(P:List Nat):Obj:={cls:= .type "set",dict:=none,data:= .set es ep (tab (kZ w) P)}
theorem bN1 {S:Addr}{es:Array (Int×Value)}{P:List Nat}(ho:s.heap.get? S=some (aD8 w es ep P))(hf:P.length=es.size)(h4:es.size<=4)
  (h:Q (.ref s.heap.objs.size) {s with heap:=s.heap.push {cls:= .type "set_iterator",data:= .fields #[.int (0:Nat) 0,.int (0:Nat) 0,.ref S,.int es.size 0,.int ep 0]}}):wpAny (model prog w) A (pyIter<|.ref S) Q E s:=by
 have hT:s.TypeIs (.ref S) "set":=⟨_,ho,rfl⟩;have fit:=qM (led:=kZ w) hf h4;refine wU hT F.slot_set_iter (cX F.slot_set_iter hT aT3 ?_<|F.args_set_iter_1 _);unfold Builtin.«frozenset.__iter__» Builtin.Frozenset.slot0 slotArgs;simp only[xB,fN,kO,↓reduceIte,bind_assoc,kS,rP];unfold Builtin.Frozenset.addrOf Builtin.Frozenset.sizeOf setDrawn setsByText setEpoch;refine a6 (aA ?_);right
 refine a6 (aA ?_)
 refine a6 (a6<|wQ ho rfl fit (aA ?_))
 refine a6 (a6<|oB ho rfl fit ?_)
 refine a6 (a6<|oD<|aA<|aA ?_)
 split
 .rename_i z
  exact absurd (show false=true from((bK _ _).mp z).2) bG
 refine a6 (aA ?_)
 refine a6 (a6<|oB ho rfl fit (aA ?_))
 refine a6 (dZ<|aA ⟨_,rfl,"set_iterator",_,⟨_,aY _ rfl,rfl⟩,qN.lookup,?_⟩)
 exact h
structure aH5 (w:World)(S:Addr)(es:Array (Int×Value))(ep:Nat)(P:List Nat)(os:List Value):Prop where
 ris:ris P=true
 len:P.length=es.size
 four:es.size<=4
 cnt:os.length=es.size
 txt:kZ w=false->os=(pickOrder (w.params.setOrder S ep) es).toList.map (·.2)
 led:kZ w=true->os=es.toList.map (·.2)
theorem aT5 {S:Addr}{es:Array (Int×Value)}{P:List Nat}{Q:Option (Value×Nat)->Shared->Prop}(W:aH5 w S es ep P os)(ho:s.heap.get? S=some (aD8 w es ep P))(hs:slot=0/\i=0\/ ∃j,i=j+1/\(kZ w=true->slot=P.getD j 0+1))(hi:i<=es.size)
  (h: ∀r:Option (Value×Nat),r.map (·.1)=os[i]? ->(∀x,r=some x->kZ w=true->x.2=P.getD i 0+1)->Q r s):wpAny (model prog w) A (setNext S slot i ep) Q E s:=by
 have fit:=qM (led:=kZ w) W.len W.four;unfold setNext setsByText;refine a6 (oB ho rfl fit ?_);right;refine a6 (a6<|oD<|aA ?_);split
 .rename_i ht
  have hl:kZ w=false:=by
   have ht:w.params.followText "set-order"=true:=ht;unfold kZ;rw[ht];rfl
  rw[a7 ae]
  refine a6 ?_
  unfold setWalk setsByText;refine a6 (oB ho rfl fit ?_);right;refine a6 (a6<|oD<|aA ?_);rw[a8 ht];refine a6 (oD<|aA<|aA (h _ ?_ λx _ z=>by rw[hl]at z;cases z))
  rw[W.txt hl,Option.map_map,bP,wJ];rfl
 .rename_i ht
  have hl:kZ w=true:=by
   have ht: ¬w.params.followText "set-order"=true:=ht;unfold kZ;rw[Bool.not_eq_true _ |>.mp ht];rfl
  split
  .rename_i z
   exact absurd (show false=true from z) bG
  .have hb:SetTable.below (tab (kZ w) P).place slot=i:=by
    show SetTable.below P.toArray slot=i
    rcases hs with⟨rfl,rfl⟩| ⟨j,rfl,hj⟩
    .exact b09 W.ris (by rw[W.len];exact W.four)
    .rw[hj hl];exact b10 W.ris (by rw[W.len];exact W.four) (by rw[W.len];omega)
   refine a6 (eB (a:=()) ?_ ?_)
   .show(if(!kZ w&& !es.isEmpty)=true then unsupported "set:maker-not-led" else pure ())=pure ()
    rw[hl];rfl
   .rw[hb];refine aA ?_;have hp:(tab (kZ w) P).place[i]? =P[i]? :=by show P.toArray[i]? =_;simp
    rw[hp]
    by_cases hlt:i<es.size
    .have e1:es[i]? =some es[i]:=vZ hlt;have hlp:i<P.length:=by rw[W.len];exact hlt
     have e2:P[i]? =some P[i]:=aW hlp;rw[e1,e2];refine h _ ?_ λx hx _=> ?_
     .rw[W.led hl,bP,wJ,e1];rfl
     .cases hx;rw[bI,e2];rfl
    .have e1:es[i]? =none:=Array.getElem?_eq_none aa
     rw[e1];refine h none ?_ λx hx=>by cases hx
     rw[eK (by rw[W.cnt];omega)]
     rfl
theorem bD0 {S:Addr}{es:Array (Int×Value)}{P:List Nat}{Q:Option Value->Shared->Prop}(W:aH5 w S es ep P os)(hit:aH4 s.heap I S slot i es.size ep)(ho:s.heap.get? S=some (aD8 w es ep P))(hs:slot=0/\i=0\/ ∃j,i=j+1/\(kZ w=true->slot=P.getD j 0+1))(hx:os[i]? =some v)
  (hQ: ∀h' slot',aH4 h' I S slot' (i+1) es.size ep->(kZ w=true->slot'=P.getD i 0+1)->SameBut I s.heap h'->Q (some v) {s with heap:=h'}):wpAny (model prog w) A (pyNext<|.ref I) Q E s:=by
 obtain⟨o,hoI,hc,hd⟩:=id hit;have fit:=qM (led:=kZ w) W.len W.four;have hi:i<es.size:=by rw[<-W.cnt];exact(dN.mp hx).1
 unfold pyNext;refine a6 (gN<|fK (name:=Str.ofString "__next__") hit.typeIs qN<|cX qN hit.typeIs aH2 ?_<|aT2 _);unfold Builtin.«set_iterator.__next__» slotArgs;simp only[xB,fN,kO,↓reduceIte,bind_assoc,kS,rP];refine a6 (aA ?_);refine a6 (wpAny_fieldsOf hoI hd ?_);right;refine a6 (wQ ho rfl fit ?_);rw[a7 ae,bB,bB,bB]
 refine a6 (aT5 W ho hs (jI hi) λr hr hr2=> ?_)
 rw[hx]at hr;obtain⟨⟨x,slot'⟩,rfl,rfl⟩:=Option.map_eq_some_iff.mp hr;right;refine a6 (iF hoI hd ae ?_)
 have g1:=i6 (Obj.mapFields (·.setIfInBounds 0 (rawInt slot'))) hoI (nY<|fL hd _);have d1:=fL hd (·.setIfInBounds 0 (rawInt slot'));refine a6 (iF g1 d1 ae ?_)
 have g2:=i6 (Obj.mapFields (·.setIfInBounds 1 (rawInt<|(i:Int)+1))) g1 (nY<|fL d1 _);have d2:=fL d1 (·.setIfInBounds 1 (rawInt<|(i:Int)+1));refine aA ⟨_,rfl,aA<|hQ _ slot' ⟨_,g2,?_,?_⟩ (hr2 _ rfl)<|(gI ..).trans<|gI ..⟩
 .rw[rO,rO];exact hc
 .rw[d2];simp[rawInt]
theorem bN2 {S:Addr}{es:Array (Int×Value)}{P:List Nat}{Q:Option Value->Shared->Prop}(hh:A.handled=none)(W:aH5 w S es ep P os)(hit:aH4 s.heap I S slot es.size es.size ep)(ho:s.heap.get? S=some (aD8 w es ep P))(hs:slot=0/\es.size=0\/ ∃j,es.size=j+1/\(kZ w=true->slot=P.getD j 0+1))
  (hQ: ∀h',ExtBut I s.heap h'->Q none {s with heap:=h'}):wpAny (model prog w) A (pyNext<|.ref I) Q E s:=by
 obtain⟨o,hoI,hc,hd⟩:=id hit;have fit:=qM (led:=kZ w) W.len W.four;unfold pyNext;refine a6 (gN<|fK (name:=Str.ofString "__next__") hit.typeIs qN<|cX qN hit.typeIs aH2 ?_<|aT2 _);unfold Builtin.«set_iterator.__next__» slotArgs;simp only[xB,fN,kO,↓reduceIte,bind_assoc,kS,rP];refine a6 (aA ?_);refine a6 (wpAny_fieldsOf hoI hd ?_);right;refine a6 (wQ ho rfl fit ?_);rw[a7 ae,bB,bB,bB]
 refine a6 (aT5 W ho hs (aC _) λr hr _=> ?_)
 rw[eK (by rw[W.cnt];exact aC _),Option.map_eq_none_iff]at hr
 subst hr;right;refine a6 (iF hoI hd ae ?_)
 refine a6 ?_
 simp only[newExc,newTuple];refine a6 (dZ ?_<|by size_fits)
 refine a6 (m:=firstArgMember _ _) (eB (a:=Value.none) (by first|rfl| (simp only[firstArgMember];rfl)) ?_)
 refine dZ ?_ (by size_fits)
 simp only[raiseNew];refine a6 (wpAny_handled ?_);rw[show A.in1.handled=none from hh]
 refine a6 (aA<|wpAny_throw ?_)
 refine a6 (rQ (T:="StopIteration") (b:=true) ⟨_,aY _ rfl,rfl⟩ isSubtype_stop ?_)
 exact aA (hQ _<|((gI ..).extBut.push _).push _)
end
theorem aH6:Slot "set_iterator" "__iter__" "set_iterator.__iter__":=
 .of (owner:="set_iterator") (n:="__iter__") (by rw[kR,kF];kernel_rfl) af af af (by first|exact .inl af|exact .inr af) (by rw[gM];kernel_rfl)
theorem b11:entryFor table "set_iterator.__iter__"=some Builtin.«dict_keyiterator.__iter__» :=
 entryFor_alias (id':="dict_keyiterator.__iter__") (by kernel_rfl) rfl af (by kernel_rfl)
theorem bD1 (a:Value):argsOk "set_iterator.__iter__" ⟨[a],[]⟩:=by
 unfold argsOk;rw[sA (id:="set_iterator.__iter__") (n:=['_','_','r','e','t','i','_','_']) (o:=['r','o','t','a','r','e','t','i','_','t','e','s']) (by kernel_rfl) aH3];kernel_rfl
theorem bD2 {α:Type}(f:Nat->Nat)(xs:Array α):(pickOrder f xs).toList.Perm xs.toList:=by
 have go: ∀(n k:Nat) (l:List α) (out:Array α),l.length<=n->(pickOrder.go f n k l out).toList.Perm (out.toList++l):=by
  intro n
  induction n with
  | zero=>
   intro k l out h;obtain rfl:l=[]:=List.eq_nil_of_length_eq_zero aa
   rw[pickOrder.go,iB]
  | succ n ih=>
   intro k l out h;rw[pickOrder.go];cases e:l[f k%l.length]? with
   | none=>
    have:l.length<=f k%l.length:=vY.mp e;have hz:l.length=0:=by
     by_cases z:l.length=0
     .exact z
     .have:=Nat.mod_lt (f k) (Nat.pos_of_ne_zero z);omega
    obtain rfl:l=[]:=List.eq_nil_of_length_eq_zero hz;rw[iB]
   | some x=>
    right;obtain⟨hi,hx⟩:=dN.mp e;refine(ih (k+1) (l.eraseIdx<|f k%l.length) (out.push x) (by rw[List.length_eraseIdx_of_lt hi];omega)).trans ?_
    rw[Array.toList_push,List.append_assoc];refine List.Perm.append_left _ ?_;subst hx;rw[List.eraseIdx_eq_take_drop_succ];have e2:l=l.take (f k%l.length)++(l[f k%l.length]::l.drop (f k%l.length+1)):=by rw[List.getElem_cons_drop,rK]
    rw[List.singleton_append];refine List.perm_middle.symm.trans ?_;rw[<-e2]
 exact(go xs.size 0 xs.toList #[] ae).trans ae
section
variable {prog:Program}{w:World}{A:Around}{E:Value->Shared->Prop}{s:Shared}
def SitAt (w:World)(P:List Nat)(slot i:Nat):Prop:=slot=0/\i=0\/ ∃j,i=j+1/\(kZ w=true->slot=P.getD j 0+1)
theorem bD3 (hh:A.handled=none){S:Addr}{es:Array (Int×Value)}{P:List Nat}(W:aH5 w S es ep P os)(hne:S≠I) :
  Walks prog w A I [I,S] [I] es.size (λi v=>os[i]? =some v) (λi h=> ∃slot,aH4 h I S slot i es.size ep/\h.get? S=some (aD8 w es ep P)/\SitAt w P slot i) where
 sub:=λb hb=>by simp at hb;simp[hb]
 frame:=λi h h' ⟨slot,⟨o,ho,r⟩,hs,r2⟩ hk=>⟨slot,⟨o,hk I ae o ho,r⟩,hk S ae _ hs,r2⟩
 item:=λi s Q E hi ⟨slot,st,hs,r⟩ hQ=>by
  have hio:i<os.length:=by rw[W.cnt];exact hi
  have hx:os[i]? =some os[i]:=aW hio;exact bD0 W st hs r hx λh' slot' x y sb=>hQ _ h' s.toks hx ⟨slot',x,by rw[sb.2 S hne];exact hs,.inr ⟨i,rfl,y⟩⟩ λb o hb e=>by rw[sb.2 b λz=>hb (by simp[z])];exact e
 done:=λs Q E ⟨slot,st,hs,r⟩ hQ=>bN2 hh W st hs r λh' he=>hQ h' s.toks λb o hb e=>he b o (λz=>hb (by simp[z])) e
 self:=λ_ _ _ _ ⟨slot,st,_⟩ hQ=>by
  refine wU st.typeIs aH6 (cX aH6 st.typeIs b11 ?_<|bD1 _)
  exact aA ⟨_,rfl,"set_iterator",_,st.typeIs,qN.lookup,hQ⟩
theorem aT6 (hh:A.handled=none){S:Addr}{es:Array (Int×Value)}{P:List Nat}{Q:List Value->Shared->Prop}(W:aH5 w S es ep P os)(ho:s.heap.get? S=some (aD8 w es ep P))
  (hQ: ∀h' tk,(∀b o,s.heap.get? b=some o->h'.get? b=some o)->s.heap.objs.size<=h'.objs.size->Q os {s with heap:=h',toks:=tk}):wpAny (model prog w) A (collect<|.ref S) Q E s:=by
 have hSl:=aH ho;unfold collect;refine a6 (wpAny_runValue<|iD F.entry_proto_collect ?_);rw[nZ F.plain_proto_collect _];show wpAny _ A.in1 (newList [] >>= λl=>again (.builtin "list.__iadd__" ⟨[l,.ref S],[]⟩)) _ _ s
 refine a6 (dZ ?_)
 refine aA ⟨oJ F.plain_list_iadd _,iD F.entry_list_iadd ?_⟩
 rw[nZ F.plain_list_iadd _];have ho1:(s.heap.push {cls:= .type "list",data:= .seq ([]:List Value).toArray}).get? S=some (aD8 w es ep P):=aJ _ ho;have hT:Shared.TypeIs {s with heap:=s.heap.push {cls:= .type "list",data:= .seq ([]:List Value).toArray}} (.ref S) "set":=⟨_,ho1,rfl⟩;have n1:Builtin.List.listSameRef (.ref s.heap.objs.size) (.ref S)=false:=by simp[Builtin.List.listSameRef,gP hSl]
 show wpAny _ A.in1 (Builtin.List.listExtendWith (.ref s.heap.objs.size) (.ref S)<|.ref s.heap.objs.size) _ _ _
 unfold Builtin.List.listExtendWith;refine a6 (oN hT ?_);rw[a7 (by rw[n1];decide)]
 refine a6 (bN1 ho1 W.len W.four ?_)
 refine a6 (cC ?_)
 unfold Builtin.List.listLengthHint;have hT2:Shared.TypeIs {s with heap:=(s.heap.push {cls:= .type "list",data:= .seq ([]:List Value).toArray}).push {cls:= .type "set_iterator",data:= .fields #[.int (0:Nat) 0,.int (0:Nat) 0,.ref S,.int es.size 0,.int ep 0]}} (.ref S) "set":=⟨_,aJ _ ho1,rfl⟩;refine a6 (rV hT2 F.slot_set_len.lookup ?_);right;generalize hid:("set.__len__":String)=id0
 rw[show splitId id0=some ("set","__len__")from by subst hid;decide +kernel]
 subst hid;right;refine a6 (rQ (b:=true) hT2 (by rw[gM];kernel_rfl) ?_)
 rw[a7 ac]
 rw[a8<|show _=true by decide +kernel]
 refine a6 (oN hT2 ?_)
 refine aA ?_
 rw[a8<|show _=true by decide +kernel]
 refine a6 (jM ?_)
 have hL:((s.heap.push {cls:= .type "list",data:= .seq ([]:List Value).toArray}).push {cls:= .type "set_iterator",data:= .fields #[.int (0:Nat) 0,.int (0:Nat) 0,.ref S,.int es.size 0,.int ep 0]}).get? s.heap.objs.size=some (seqObj "list" #[] 0):=aJ _ (aY _ rfl);unfold Builtin.List.listTouch
 generalize hH:(s.heap.push {cls:= .type "list",data:= .seq ([]:List Value).toArray}).push {cls:= .type "set_iterator",data:= .fields #[.int (0:Nat) 0,.int (0:Nat) 0,.ref S,.int es.size 0,.int ep 0]}=H at hL hT2⊢;refine a6 (a6<|sB hL rfl ?_);obtain⟨e1,hL1⟩: ∃e1,(H.update s.heap.objs.size (Obj.mapSeq (·.push .none))).get? s.heap.objs.size=some (seqObj "list" #[.none] e1):=⟨_,oF hL (·.push .none)⟩
 refine sB hL1 rfl ?_
 obtain⟨e2,hL2⟩: ∃e2,((H.update s.heap.objs.size (Obj.mapSeq (·.push .none))).update s.heap.objs.size (Obj.mapSeq (·.pop))).get? s.heap.objs.size=some (seqObj "list" #[] e2):=⟨_,oF hL1 (·.pop)⟩;obtain⟨H2,eH2⟩: ∃H2,H2=(H.update s.heap.objs.size (Obj.mapSeq (·.push .none))).update s.heap.objs.size (Obj.mapSeq (·.pop)):=⟨_,rfl⟩
 have keep: ∀b o,b≠s.heap.objs.size->H.get? b=some o->H2.get? b=some o:=λb o hb e=>by
  rw[eH2,kK _ _ _ _ hb,kK _ _ _ _ hb];exact e
 have old: ∀b o,s.heap.get? b=some o->H2.get? b=some o:=λb o e=>keep b o (aO<|aH e) (by rw[<-hH];exact aJ _ (aJ _ e))
 have zI:(s.heap.push {cls:= .type "list",data:= .seq ([]:List Value).toArray}).objs.size=s.heap.objs.size+1:=dD _ _;have hI:H2.get? (s.heap.objs.size+1)=some {cls:= .type "set_iterator",data:= .fields #[.int (0:Nat) 0,.int (0:Nat) 0,.ref S,.int es.size 0,.int ep 0]}:=keep _ _ (Nat.succ_ne_self _) (by rw[<-hH,<-zI];exact aY _ rfl)
 rw[zI];show wpAny _ _ _ _ _ {s with heap:=(H.update s.heap.objs.size (Obj.mapSeq (·.push .none))).update s.heap.objs.size (Obj.mapSeq (·.pop))};rw[<-eH2]at hL2⊢;have nL:s.heap.objs.size ∉ [s.heap.objs.size+1,S]:=by
  simp only[aG,cY,cL,eS];exact⟨aO<|jC _,gP hSl⟩
 refine aA ⟨oJ F.plain_extend_loop _,codeAny_extend_loopS (bD3 (A:=A.in1) hh W (I:=s.heap.objs.size+1)<|aO<|cW hSl).toS (aN W.four ac) _ nL _ es.size 0 _ _ _ rfl (cK _) ⟨0,⟨_,hI,rfl,rfl⟩,old S _ ho,.inl ⟨rfl,rfl⟩⟩ hL2 (ItemsOf.nil _) λs' acc' c' hm hL' hacc=> ?_⟩
 obtain⟨h',g',d',tk',os'⟩:=s';obtain rfl:g'=s.gens:=hm.gens;obtain rfl:d'=s.drawn:=hm.drawn;obtain rfl:os'=s.os:=hm.os;refine a6 (wpAny_load hL'<|aA ?_);have ea:acc'.toList=os:=by
  apply wV
  intro j
  by_cases hj:j<acc'.size
  .have:=hacc.2 j acc'[j] (vZ hj);rw[this,wJ,vZ hj]
  .rw[eK (by rw[jA];omega),eK (by rw[W.cnt,<-hacc.1];omega)]
 rw[ea];refine hQ h' tk' (λb o e=>hm.heap b o ?_ (old b o e)) (jI<|aH hL')
 simp only[aG,cY,cL,eS];exact⟨aO<|aH e,aO<|cW<|aH e⟩
end
def bN3:Value->Int
 | .int k _=>k
 | _=>0
theorem aH7: ∀{l:List (Int×Value)} {ks:List Nat},nB l ks->(∀v∈l.map (·.2),∃(k:Nat) (t:Tok),v= .int (k:Int) t)/\(l.map (·.2)).map bN3=ks.map (Nat.cast:Nat->Int)
 | _,_,.nil=>⟨λ_ h=>(by cases h),rfl⟩
 | _,_,.cons ⟨_,t,h2⟩ r=>by
  obtain⟨r1,r2⟩:=aH7 r;refine⟨λv hv=> ?_,?_⟩
  .rw[bX]at hv;rcases aG.mp hv with rfl|hv
   .exact⟨_,t,h2⟩
   .exact r1 v hv
  .rw[bX,bX,bX,r2,h2];rfl
theorem aM8: ∀{vs:List Value},(∀v∈vs,∃(k:Nat) (t:Tok),v= .int (k:Int) t)->IntsAre vs (vs.map bN3)
 | [],_=> .nil
 | v::vs,h=>by
  obtain⟨k,t,rfl⟩:=h v aL;exact .cons _ t (aM8 λx hx=>h x (aU _ hx))
section
variable {prog:Program}{w:World}{A:Around}{E:Value->Shared->Prop}{s:Shared}
theorem aT7 {S:Addr}(x:aM6 h S (kZ w) ks)(h4:ks.length<=4): ∃es ep P os,aH5 w S es ep P os/\h.get? S=some (aD8 w es ep P)/\IntsAre os (os.map bN3)/\(os.map bN3).Perm (ks.map (Nat.cast:Nat->Int)):=by
 obtain⟨⟨es,ep,P,ho,hr,hl,he⟩,_,_⟩:=x;have hn:=he.length;rw[jA]at hn;obtain⟨e1,e2⟩:=aH7 he;cases hw:kZ w with
 | true=>exact⟨es,ep,P,es.toList.map (·.2),⟨hr,aa,aa,ae,λz=>(by rw[hw]at z;cases z),λ_=>rfl⟩,by rw[hw]at ho;unfold aD8;rw[hw];exact ho,aM8 e1,by rw[e2]⟩
 | false=>
  have pm:=bD2 (w.params.setOrder S ep) es;refine⟨es,ep,P,(pickOrder (w.params.setOrder S ep) es).toList.map (·.2),⟨hr,aa,aa,by rw[aK,pm.length_eq];simp,λ_=>rfl,λz=>(by rw[hw]at z;cases z)⟩,by rw[hw]at ho;unfold aD8;rw[hw];exact ho,aM8 λv hv=> ?_,?_⟩
  .exact e1 v ((pm.map (·.2)).mem_iff.mp hv)
  .rw[<-e2];exact(pm.map (·.2)).map bN3
theorem b12 (hh:A.handled=none){S:Addr}(x:aM6 s.heap S (kZ w) ks)(h4:ks.length<=4)
  (h: ∀(h':Heap) (tk:Nat) (a:Addr) (out:Array Value) (n:Nat) (ns:List Int),(∀b o,s.heap.get? b=some o->h'.get? b=some o)->s.heap.objs.size<=a->h'.get? a=some (seqObj "list" out n)->IntsAre out.toList ns->ns.Perm (ks.map (Nat.cast:Nat->Int))->ns.Pairwise (· <=·)->Q (.ref a) {s with heap:=h',toks:=tk}) :
  wpAny (model prog w) A (call (.builtin "sorted") [.ref S]) Q E s:=by
 obtain⟨es,ep,P,os,W,ho,hI,hp⟩:=aT7 x h4;have ho4:os.length<=4:=by rw[W.cnt];exact W.four
 refine Calls.call_function_entry kind_sorted plain_sorted entry_sorted (args_sorted1 _) ?_
 unfold Builtin.«sorted»;refine a6 (m:=checkCount "sorted" 1 1 _) (aA ?_);show wpAny _ A.in1 (collect (.ref S) >>= _) _ _ _;refine a6 (aT6 (A:=A.in1) hh W ho λh1 tk1 k1 z1=> ?_)
 refine a6 (wpAny_newList ?_<|aN ho4 ac)
 right;have hL:(h1.push<|seqObj "list" os.toArray 0).get? h1.objs.size=some (seqObj "list" os.toArray 0):=aY _ rfl;refine a6 (cC<|cX slot_list_sort ⟨_,hL,rfl⟩ entry_list_sort (list_sort_tree hL hI aa λout ns' i1 i2 i3=> ?_)<|args_list_sort _)
 have hN: ∀b o,h1.get? b=some o->(sortedHeap (h1.push<|seqObj "list" os.toArray 0) h1.objs.size os out).get? b=some o:=λb o e=>by
  have lb:=aH e;have nb:b≠h1.objs.size:=aO lb;unfold sortedHeap;rw[kK _ _ _ _ nb,eO _ _ _ (by rw[gQ,gL,gQ];exact aO (cW<|cW lb)),eO _ _ _ (by rw[gL,gQ];exact aO (cW lb)),kK _ _ _ _ nb,eO _ _ _ nb]
  exact e
 have hA: ∃n,(sortedHeap (h1.push<|seqObj "list" os.toArray 0) h1.objs.size os out).get? h1.objs.size=some (seqObj "list" out n):=by
  unfold sortedHeap;obtain⟨m1,e1⟩: ∃m1,((h1.push<|seqObj "list" os.toArray 0).update h1.objs.size<|Obj.mapSeq λ_=> #[]).get? h1.objs.size=some (seqObj "list" #[] m1):=⟨_,oF hL λ_=> #[]⟩
  have e2:((((h1.push<|seqObj "list" os.toArray 0).update h1.objs.size<|Obj.mapSeq λ_=> #[]).push<|seqObj "tuple" os.toArray 0).push<|seqObj "list" #[] 0).get? h1.objs.size=some (seqObj "list" #[] m1):=by
   rw[eO _ _ _ (by rw[gQ,gL,gQ];exact aO (cW<|jC _)),eO _ _ _ (by rw[gL,gQ];exact aO (jC _))]
   exact e1
  exact⟨_,oF e2 λ_=>out⟩
 obtain⟨n,hA⟩:=hA;exact⟨_,rfl,aA ⟨_,rfl,h _ _ _ out n ns' (λb o e=>hN b o (k1 b o e)) z1 hA i1 (i2.trans hp) i3⟩⟩
end
end PySem
section
namespace L2
section
variable {X:Cx}{a:Expr}{ta:TA}
def SortOf (ks ns:List Int):Prop:=ns.Pairwise (· < ·)/\ ∀x,x∈ns↔x∈ks
theorem aH8: ∀{vs:List Value} {ns:List Int},IntsAre vs ns->Vals (ns.map V.int) vs
 | _,_,.nil=> .nil
 | _,_,.cons _ t r=> .cons ⟨t,rfl⟩ (aH8 r)
theorem a20: ∀{ks:List Int} {vs:List Value},Vals (ks.map V.int) vs-> ∀(i:Nat) (v:Value),vs[i]? =some v-> ∃k t,ks[i]? =some k/\v= .int k t
 | [],_,h,i,v,e=>by cases h;simp at e
 | k::ks,_,h,i,v,e=>by
  cases h with
  | cons r rr=>
   obtain⟨t,rfl⟩:=r;cases i with
   | zero=>exact⟨k,t,rfl,by exists e.symm⟩
   | succ i=>exact a20 rr i v (by exists e)
def tSS (ta:TA):TE:=λσ H Q=>ta σ H λvs H1=> ∃(l:Addr) (ks:List Int),vs=[.ref l]/\SqL X.K H1 l (ks.map V.int)/\ks.length<=4/\(∀k∈ks,0<=k/\k<199)/\
 ∀ns,SortOf ks ns-> ∀l',H1 l'=none->Q (.ref l') (upd H1 l'<|.lst<|ns.map V.int)
theorem aM9 {p':Pos}(hc:X.calm=true)(hgl:Gl X "sorted")(hml:X.mg "sorted"=none)(hg:Gl X "set")(hm:X.mg "set"=none)(ha:PA X [a] ta)
  (he:↥(starEach [.Call (.Name "set" p') [a] [] pos'] X.env=[(false,eval (.Call (.Name "set" p') [a] [] pos') X.env)])) (hs:↥(starEach [a] X.env=[(false,eval a X.env)])) :
  PE X (.Call (.Name "sorted" p) [.Call (.Name "set" p') [a] [] pos'] [] pos) (tSS (X:=X) ta):=by
 intro pins s σ H Q I h;refine kM (mM I hgl hml boot_sorted ?_ ac ac)
 refine PyProof.Rows.callWith_builtin1 ?_ (by rw[he];rfl) rfl
 rw[he];show wpAny _ _ (spliced ((false,eval (.Call (.Name "set" p') [a] [] pos') X.env)::backTo pos (starEach [] X.env))) _ _ s;refine wS ?_;refine Call_ (mM I hg hm boot_set<|gH (thn (ha pos' pins s σ H _ I h) λus s1 ⟨vs,H1,I1,r1,q1⟩=> ?_) (by rw[hs];rfl) rfl)
 obtain⟨l,ks,rfl,hl,h4,hk,q⟩:=q1;obtain⟨u,rfl,ru⟩:=vals1 r1;cases ru;obtain⟨its,rv,pl,hz⟩:=I1.list hl;have hlen:its.length=ks.length:=by have:=rv.length;exists this.symm
 have hh:=I1.ok.hd hc;refine bM9 (val:=λi=>(ks.getD i 0).toNat) hh pl.isList (λi v e=> ?_) (λi hi=> ?_) (by simpa[hlen]using h4) λh' tk up old=> ?_
 .obtain⟨k,t,e1,rfl⟩:=a20 rv i v (by exists e)
  have:=hk k (wK e1);refine⟨t,?_⟩;show Value.int k t= .int (((ks.getD i 0).toNat:Nat):Int) t;rw[bI,e1];show Value.int k t= .int ((k.toNat:Nat):Int) t;rw[kL this.1]
 .have hi':i<ks.length:=by simpa[hlen]using hi
  have:=hk ks[i] (e9 hi');show(ks.getD i 0).toNat<199;rw[bI,aW hi'];show(ks[i]).toNat<199
  lia
 .refine wT ?_
  obtain⟨xs,hS,hn,hm'⟩:=up;have lS:s1.heap.objs.size<h'.objs.size:=by obtain⟨⟨es,ep,P,ho,_⟩,_,_⟩:=hS;exact aH ho
  have hS':=hS;obtain⟨_,_,nd⟩:=hS';refine b12 (s:={s1 with heap:=h',toks:=tk}) hh hS (aN hn<|by simpa[hlen]using h4) λh2 tk2 b out n ns keep fresh hb hI hp hw=> ?_
  have kp: ∀b o,s1.heap.get? b=some o->h2.get? b=some o:=λb o e=>keep _ _ (old b o (aH e) e)
  have fr:s1.heap.objs.size<=b:=aN (jI lS) fresh;have so:SortOf ks ns:=by
   have ndi:(xs.map (Nat.cast:Nat->Int)).Nodup:=List.Pairwise.map _ (λx y hxy e=>hxy (Int.ofNat.inj e)) nd
   have ndn:=hp.nodup_iff.mpr ndi;refine⟨(hw.and ndn).imp λ⟨x1,x2⟩=>ad,λx=> ?_⟩
   rw[hp.mem_iff,dO];constructor
   .rintro⟨y,hy,rfl⟩;obtain⟨j,hj,rfl⟩:=(hm' y).mp hy;have hj':j<ks.length:=by simpa[hlen]using hj
    have e:ks.getD j 0=ks[j]:=by rw[bI,aW hj'];rfl
    show(((ks.getD j 0).toNat:Nat):Int)∈ks
    rw[e];rw[kL (hk _<|e9 hj').1];exact e9 hj'
   .intro hx;obtain⟨j,hj,rfl⟩:=List.mem_iff_getElem.mp hx;refine⟨ks[j].toNat,(hm' _).mpr ⟨j,by simpa[hlen]using hj,?_⟩,kL (hk _<|e9 hj).1⟩
    show ks[j].toNat=(ks.getD j 0).toNat
    rw[bI,aW hj];rfl
  refine⟨.ref b,_,I1.laid (t':=tk2) kp fr<|show nA X.prog X.w _ h2 _ (.lst<|ns.map V.int)from⟨?_,out.toList,n,aH8 hI,?_⟩,rfl,q ns so _<|I1.hok.fresh fr⟩
  .rw[aK,hp.length_eq,aK];exact aN (aN hn<|by simpa[hlen]using h4) ac
  .rw[Array.toArray_toList];exact hb
end
end L2
namespace M
section
variable {X:Cx}{a:Expr}
def uSS (ta:UA):UE:=λρ Q=>ta ρ λds ρ1=> ∃ks:List Int,ds=[.lst<|ks.map D.int]/\ks.length<=4/\(∀k∈ks,0<=k/\k<199)/\ ∀ns,SortOf ks ns->Q (.ow<|ns.map D.int) ρ1
theorem aH9 {K:PySem.W.Frag}{A:AS}{H:Hp}: ∀l:List Int,aV K A H (l.map D.int) (l.map V.int)
 | []=>by simp only[iG,aV]
 | k::l=>by
  simp only[bX,aV];exact⟨_,_,rfl,by simp only[Rep],aH9 l⟩
theorem aN0 {ta:UA}{p':Pos}(hc:X.calm=true)(hgl:Gl X "sorted")(hml:X.mg "sorted"=none)(hg:Gl X "set")(hm:X.mg "set"=none)(ha:PUA X [a] ta)
  (he:↥(starEach [.Call (.Name "set" p') [a] [] pos'] X.env=[(false,eval (.Call (.Name "set" p') [a] [] pos') X.env)])) (hs:↥(starEach [a] X.env=[(false,eval a X.env)])) :
  PU X (.Call (.Name "sorted" p) [.Call (.Name "set" p') [a] [] pos'] [] pos) (uSS ta):=
 fE (aM9 hc hgl hml hg hm ha he hs) λσ H Q ⟨C,ρ,Q0,I,h,k⟩=>⟨C,ρ,_,I,h,λds ρ1 vs H1 q f s r=>by
  obtain⟨ks,rfl,h4,hk,q⟩:=q;obtain⟨v,vr,rfl,rv,rr⟩:=r.uncons;have:=rr.unnil;subst this;obtain⟨p,xs,rfl,np,hp,rl⟩:=rv;have e:=aV.unints rl;subst e;exact⟨p,ks,rfl,.inl<|.inl hp,h4,hk,λns so l n=>k _ ρ1 _ _ (q ns so) f (s.trans<|cV n _) (dU s n<|aH9 ns)⟩⟩
end
end M
end
section
namespace L2
section
variable {X:Cx}
def rCount (K:PySem.W.Frag):V->List V->Hp->VK->Prop:=λx vs H Q=> ∃(l:Addr) (ns:List Int) (k:Int),x= .ref l/\vs=[.int k]/\SqL K H l (ns.map V.int)/\Q (.int (ns.count k:Nat)) H
theorem bN4:MtR X "list.count" (rCount X.K):=by
 intro pins s σ H x vs v us Q I rx rv h;obtain⟨l,ns,k,rfl,rfl,hl,q⟩:=h;cases rx;obtain⟨u,rfl,ru⟩:=rv.one;obtain⟨t,rfl⟩:=ru;obtain⟨its,r,pl,hz⟩:=I.list hl;refine count_list_ints pl.isList (intsAre_of r) ?_;exact⟨.int (ns.count k:Nat),H,I.kept (t':=s.toks+1) λ_ _ e=>e,⟨_,rfl⟩,q⟩
end
end L2
namespace M
section
variable {X:Cx}{o e:Expr}{es:List Expr}
def b13 (to:UV)(ta:UA):UE:=λρ Q=>to ρ λx ρ1=> ∃ns:List Int,x= .lst (ns.map D.int)/\ta ρ1 λds ρ2=> ∃k:Int,ds=[.int k]/\Q (.pu<|.int (ns.count k:Nat)) ρ2
theorem bN5 {to:UV}{t:UA}{apos:Pos}(ho:PUV X o to)(ha:PUA X (e::es) t)
  (hbase:↥(attributeBase o "count" X.env (eval o X.env)=eval o X.env))
  (hfew:↥(((backTo cpos<|starEach (e::es) X.env).all (λx=> !x.1)&&(backToKw cpos<|keywordEach [] X.env).all (λx=>x.1.isSome)
   &&decide ((e::es).length+([]:List Keyword).length+(if([]:List Keyword).isEmpty then 0 else 1)<30))=true))
  (hline:↥((apos.endLine==cpos.line)=true)) (hs:↥(starEach (e::es) X.env=(false,eval e X.env)::starEach es X.env)) (hplain:↥((backTo cpos<|starEach es X.env).any (·.1)=false)) :
  PU X (.Call (.Attribute o "count" apos) (e::es) [] cpos) (b13 to t):=
 fE (c45 PySem.F.plainAttrs_list PySem.F.slot_list_count PySem.F.type_list_count bN4 ho ha hbase hfew hline hs hplain) λσ H Q ⟨C,ρ,Q0,I,h,k⟩=>⟨C,ρ,_,I,h,λx ρ1 v H1 q f s r=>by
  obtain⟨ns,rfl,q⟩:=q;obtain⟨a,vs,rfl,h1,r1⟩:=r;have e:=aV.unints r1;subst e;have I1:=(I.frz f).same s;refine⟨.inl ⟨rfl,_,.inl<|.inl h1⟩,C,ρ1,_,I1,q,λds ρ2 us H2 q2 f2 s2 r2=> ?_⟩
  obtain⟨j,rfl,q2⟩:=q2;obtain⟨w,wr,rfl,rw',rr⟩:=r2.uncons;have:=rr.unnil;subst this;have:=bJ rw';subst this;exact⟨a,ns,j,rfl,rfl,.inl<|.inl<|s2 _ _ h1,k _ ρ2 _ _ q2 (f.trans f2) (s.trans s2)<|show Rep _ _ _ _ _ by simp only[Rep]⟩⟩
end
end M
end
namespace L2
def Calm (f:Obj->Obj):Prop:= ∀o,(f o).dict=o.dict/\(o.isFreed=false->(f o).isFreed=false)
def kA {α:Type}:Sem α->Prop
 | .pure _=>True
 | .raise _=>True
 | .unsupported _=>True
 | .finish _=>True
 | .rule _ k=>kA (k ())
 | .at _ k=>kA (k ())
 | .load _ _ k=> ∀o,kA (k o)
 | .update _ _ f k=>Calm f/\kA (k ())
 | .alloc _ k=> ∀a,kA (k a)
 | .loadIfAlive _ k=> ∀o,kA (k o)
 | .point _ k=>kA (k ())
 | .register _ _=>True
 | .stack k=> ∀l,kA (k l)
 | _=>False
def DK (h h':Heap):Prop:= ∀b o,h.get? b=some o-> ∃o',h'.get? b=some o'/\o'.dict=o.dict
theorem DK.refl (h:Heap):DK h h:=λb o q=>⟨o,q,rfl⟩
theorem DK.trans {h'':Heap}(a:DK h h')(b:DK h' h''):DK h h'':=λc o q=>by
 obtain⟨o',q',e⟩:=a c o q;obtain⟨o'',q'',e'⟩:=b c o' q';exact⟨o'',q'',e'.trans e⟩
theorem DK.update {f:Obj->Obj}(c:Calm f):DK h (h.update a f):=λb o q=>by
 by_cases e:a=b
 .subst e;exact⟨f o,i6 f q<|(c o).2 (Heap.get?_some_iff.mp q).2,(c o).1⟩
 .exact⟨o,(wH _ _ e).trans q,rfl⟩
theorem c08 {α:Type}{M:Model}{Γ:PySem.Ctx}: ∀{t:Sem α} {Q:α->Pos->Shared->Prop} {E:Value->Pos->Shared->Prop} {p:Pos} {s:Shared},kA t->Sem.wp M Γ t Q E p s->Sem.wp M Γ t (λa p' s'=>Q a p' s'/\DK s.heap s'.heap) (λe p' s'=>E e p' s'/\DK s.heap s'.heap) p s:=by
 intro t
 induction t with
 | pure a=>intro Q E p s _ h;exact⟨h,.refl _⟩
 | raise e=>intro Q E p s _ h;exact⟨h,.refl _⟩
 | rule _ k ih=>intro Q E p s t h;exact ih () t h
 | «at» _ k ih=>intro Q E p s t h;exact ih () t h
 | load a _ k ih=>intro Q E p s t ⟨o,q,h⟩;exact⟨o,q,ih o (t o) h⟩
 | update a _ f k ih=>
  intro Q E p s t ⟨q,h⟩;refine⟨q,?_⟩;have:=ih () t.2 h;exact Sem.wp_mono _ _ _ (λa p' s' z=>⟨z.1,(DK.update t.1).trans z.2⟩) (λa p' s' z=>⟨z.1,(DK.update t.1).trans z.2⟩) _ _ this
 | alloc o k ih=>
  intro Q E p s t h;have:=ih _ (t _) h;have pu:DK s.heap (s.heap.push o):=λb o' q=>⟨o',aJ _ q,rfl⟩
  exact Sem.wp_mono _ _ _ (λa p' s' z=>⟨z.1,pu.trans z.2⟩) (λa p' s' z=>⟨z.1,pu.trans z.2⟩) _ _ this
 | loadIfAlive a k ih=>intro Q E p s t h;exact ih _ (t _) h
 | point _ k ih=>intro Q E p s t h;exact ih () t h
 | stack k ih=>intro Q E p s t h;exact ih _ (t _) h
 | unsupported _=>intro Q E p s _ h;exact h.elim
 | finish _=>intro Q E p s _ h;exact h.elim
 | register _ _=>intro Q E p s _ h;exact h.elim
 | _=>intro Q E p s t h;exact False.elim t
theorem bO {α β:Type}{f:α->Sem β}: ∀{t:Sem α},kA t->(∀a,kA<|f a)->kA (t.bind f):=by
 intro t
 induction t with
 | pure a=>intro _ h;exact h a
 | raise e=>intro _ _;exact trivial
 | unsupported _=>intro _ _;exact trivial
 | finish _=>intro _ _;exact trivial
 | rule _ k ih=>intro t h;exact ih () t h
 | «at» _ k ih=>intro t h;exact ih () t h
 | load a _ k ih=>intro t h o;exact ih o (t o) h
 | update a _ f k ih=>intro t h;exact⟨t.1,ih () t.2 h⟩
 | alloc o k ih=>intro t h a;exact ih a (t a) h
 | loadIfAlive a k ih=>intro t h o;exact ih o (t o) h
 | point _ k ih=>intro t h;exact ih () t h
 | register _ _=>intro _ _;exact trivial
 | stack k ih=>intro t h l;exact ih l (t l) h
 | _=>intro t _;exact False.elim t
theorem sR {α:Type}{M:Model}{t:Sem α}{Q:α->Shared->Prop}(c:kA t)(h:wpAny M A t Q E s):wpAny M A t (λa s'=>Q a s'/\DK s.heap s'.heap) (λe s'=>E e s'/\DK s.heap s'.heap) s:=λΓ p hin=>c08 c (h Γ p hin)
theorem aI0 {part:Option Value}:kA (loadPart a part):=λ_=>trivial
theorem aT8 (v:Value):kA (fieldsOf v):=by
 unfold fieldsOf;split
 .refine bO aI0 λo=> ?_
  split<;>exact trivial
 .exact trivial
theorem sS (v:Value)(i:Nat):kA (PySem.field v i):=bO (aT8 v) λvs=>by
 split<;>exact trivial
theorem aT9 (f:Array Value->Array Value):Calm (Obj.mapFields f):=λo=>by
 obtain⟨c,d,dt,sl⟩:=o;cases dt<;>exact⟨rfl,λh=>h⟩
theorem pZ (v:Value)(i:Nat)(x:Value):kA (setField v i x):=by
 unfold setField;split
 .unfold updateField;refine bO aI0 λo=> ?_
  split
  .split
   .exact⟨aT9 _,trivial⟩
   .exact trivial
  .exact trivial
 .exact trivial
theorem uB (e:Value)(f:Option Addr):kA (setFlight e f):=bO (sS _ _) λtb=>by
 split
 .exact pZ _ _ _
 .exact trivial
theorem xL:kA stack:=λ_=>trivial
theorem b14 (f:Addr)(b:Bool):kA (entryPlaceOf f b):=bO xL λl=>by
 split<;>exact trivial
theorem bN6 (cls:Value)(data:Data)(d:Option Addr):kA (newObj cls data d):=by
 have as:kA (newObjAsIs cls data d):=by
  refine bO (λ_=>trivial) λa=> ?_
  split
  .refine bO ?_ λb=> ?_
   .unfold classHasDel;refine bO (λ_=>trivial) λo=> ?_
    split<;>exact trivial
   .split<;>exact trivial
  .exact trivial
 unfold newObj;split<;>first|exact as| (split<;>first|exact as|exact trivial| (refine bO trivial λ_=>as))
theorem b15 (a b c d e:Value)(pl:List Value):kA (EntryCells.newEntry a b c d e pl):=by
 unfold EntryCells.newEntry newFields;exact bN6 _ _ _
theorem a94: ∀l:List Env,kA (readyFrames l)
 | []=>trivial
 | env::outer=>by
  unfold readyFrames;split
  .refine bO (λ_=>trivial) λo=> ?_
   split
   .exact trivial
   .refine bO ?_ λb=> ?_
    .unfold behindIsImport;split
     .exact trivial
     .split
      .exact trivial
      .exact bO (sS _ _) λ_=>trivial
    .refine bO ?_ λv=> ?_
     .unfold keptBack;split
      .split
       .exact trivial
       .exact bO (bO xL λ_=>trivial) λ_=>trivial
      .exact trivial
     .exact⟨λo=>⟨rfl,λh=>by obtain⟨c,d,dt,sl⟩:=o;cases dt<;>exact h⟩,a94 outer⟩
  .exact trivial
theorem b16 (env:Env):kA (PySem.frameOf env):=by
 refine bO (bO xL λ_=>trivial) λl=>bO ?_ λo=> ?_
 .unfold frameObject;split
  .exact trivial
  .exact bO (a94 _) λ_=>trivial
 .split<;>exact trivial
theorem aI1 (e:Value)(env:Env):kA (noteFrame e env):=by
 have last: ∀h f,kA (do setField e 1 (<-EntryCells.newEntry h (<-PySem.frameOf env) .none (rawInt f) .none (<-entryPlaceOf f (h != .none)))):=λh f=>
  bO (b16 env) λa=>bO (b14 _ _) λb=>bO (b15 _ _ _ _ _ _) λc=>pZ _ _ _
 unfold noteFrame;split
 .refine bO (sS _ _) λh=> ?_
  split
  .refine bO (sS _ _) λx=> ?_
   split
   .exact trivial
   .exact bO (pZ _ _ _) λ_=>last _ _
  .exact last _ _
 .exact trivial
theorem yH (env:Env)(e:Value):kA (leaving env e):=bO (aI1 e env) λ_=>uB e none
def Tr (h:Heap)(e T:Addr):Prop:= ∃oe vs,h.get? e=some oe/\oe.data= .fields vs/\vs[1]? =some (.ref T)
theorem Tr.one {e T T':Addr}(a:Tr h e T)(b:Tr h e T'):T=T':=by
 obtain⟨o,vs,h1,h2,h3⟩:=a;obtain⟨o',vs',g1,g2,g3⟩:=b;rw[h1]at g1;cases g1;rw[h2]at g2;cases g2;rw[h3]at g3;cases g3;rfl
structure vL (fs:List Addr)(e:Addr)(h h':Heap):Prop where
 keep: ∀b o,h.get? b=some o->b ∉ fs->b≠e-> ¬Tr h e b->h'.get? b=some o
 slot:h.UpToSlots h'
 tr: ∀T,Tr h' e T->T∈fs\/T=e\/Tr h e T\/h.get? T=none
 rcd: ∀T,Tr h' e T-> ∃o vs,h'.get? T=some o/\o.data= .fields vs
structure aD9 (fs:List Addr)(e:Addr)(h h':Heap):Prop extends vL fs e h h' where
 dk:DK h h'
theorem aN1 {e:Addr}{cls a0:Value}(t:h.TracedAtW base e cls a0 fl): ∃T,Tr h e T/\base.get? T=none/\T≠e/\ ∃o vs,h.get? T=some o/\o.data= .fields vs:=by
 obtain⟨oe,vs,T,oT,ts,he,_,hd,h1,hb,hne,hT,hdT,_⟩:=t;exact⟨T,⟨oe,vs,he,hd,h1⟩,hb,hne,oT,ts,hT,hdT⟩
theorem l4 {B:Heap}{e T:Addr}{cls a0:Value}(t:h.TracedAtW base e cls a0 fl)(x:Tr h e T)(hn:B.get? T=none):h.TracedAtW B e cls a0 fl:=by
 obtain⟨oe,vs,T',oT,ts,he,hc,hd,h1,hb,hne,hT,hdT,h3⟩:=t;obtain rfl:=x.one ⟨oe,vs,he,hd,h1⟩;exact⟨oe,vs,T,oT,ts,he,hc,hd,h1,hn,hne,hT,hdT,h3⟩
section
variable {base h:Heap}{l:List Env}{e T:Addr}{cls a0 fl:Value}
nonrec def hid (h:Heap)(l:List Env)(e T:Addr):Heap:=PySem.W.hideAll h (frs l++[e,T])
theorem qO {b:Addr}(hb:b∈frs l\/b=e\/b=T):(hid h l e T).get? b=none:=PySem.W.hideAll_none _ (by
 rcases hb with z|z|z
 .exact bH.mpr (.inl z)
 .exact bH.mpr (.inr<|by simp[z])
 .exact bH.mpr (.inr<|by simp[z]))
theorem yI {b:Addr}(q:h.get? b=some o)(h1:b ∉ frs l)(h2:b≠e)(h3:b≠T):(hid h l e T).get? b=some o:=PySem.W.hideAll_get _ q (by
 intro z;rcases bH.mp z with z|z
 .exact h1 z
 .simp at z
  exact z.elim h2 h3)
theorem sT (f:h.FunFrames base l):h.FunFrames (hid h l e T) l:=PySem.W.funFrames_hide f λenv he b hb=>bH.mpr (.inl<|wR.mpr ⟨env,he,hb⟩)
theorem v9 (st:base.StaysIn h)(f:h.FunFrames base l)(he:base.get? e=none)(hT:base.get? T=none):base.StaysIn (hid h l e T):=λb o q=>yI (st b o q) (λz=>by rw[(f.mem z).1]at q;cases q) (λz=>by rw[z,he]at q;cases q) λz=>by rw[z,hT]at q;cases q
theorem qP {B h':Heap}(st:base.StaysIn B): ∀{l:List Env},h'.FunFrames B l->h'.FunFrames base l
 | [],_=>trivial
 | env::_,⟨hk,⟨L,o,hf,hn,ho,hd⟩,hr⟩=>⟨hk,⟨L,o,hf,(by
   cases q:base.get? L with
   | none=>rfl
   | some u=>have:=st L u q;rw[hn]at this;cases this),ho,hd⟩,qP st hr⟩
theorem none_of {B:Heap}(st:base.StaysIn B){b:Addr}(q:B.get? b=none):base.get? b=none:=by
 cases z:base.get? b with
 | none=>rfl
 | some u=>have:=st b u z;rw[q]at this;cases this
theorem aN2 {l':List Env}(x:Tr h e T)(st:(hid h l e T).StaysIn h')(t:h'.TracedAtW (hid h l e T) e cls a0 fl)(up:h.UpToSlots h'):vL (frs l) e h h':=by
 refine⟨λb o q h1 h2 h3=>st b o (yI q h1 h2 λz=>h3 (by rw[z];exact x)),up,λT' x'=> ?_,λT' x'=> ?_⟩
 .obtain⟨T2,y,hn,_,_⟩:=aN1 t;obtain rfl:=x'.one y
  by_cases c1:T'∈frs l
  .exact .inl c1
  by_cases c2:T'=e
  .exact .inr (.inl c2)
  by_cases c3:T'=T
  .exact .inr (.inr<|.inl (by rw[c3];exact x))
  refine .inr (.inr<|.inr ?_)
  cases q:h.get? T' with
  | none=>rfl
  | some o=>rw[yI q c1 c2 c3]at hn;cases hn
 .obtain⟨T2,y,_,_,z⟩:=aN1 t;obtain rfl:=x'.one y;exact z
end
section
variable {M:Model}{A:Around}{E:Value->Shared->Prop}{s:Shared}{base:Heap}{env:Env}{outer:List Env}{L e:Addr}{cls a0:Value}{Q:Unit->Shared->Prop}
theorem b17 (hfr:A.frames=some (env::outer))(hf:env.frame=some L)(F:FlyingW base (env::outer) e cls a0 s.heap)
  (hQ: ∀h',FlyingW base outer e cls a0 h'->vL (frs (env::outer)) e s.heap h'->Q () {s with heap:=h'}):wpAny M A (leaving env<|.ref e) Q E s:=by
 obtain⟨f1,f2,f3,f4⟩:=F;obtain⟨T,x,hT,_,_⟩:=aN1 f4;have stB:=v9 f1 f3 f2 hT;refine wpAny_leaves_onW hfr hf ⟨λb o q=>o9 _ q,qO<|.inr<|.inl rfl,sT f3,l4 f4 x<|qO<|.inr<|.inr rfl⟩ λh' F' up=> ?_
 obtain⟨g1,g2,g3,g4⟩:=F';obtain⟨T',x',hT',_,_⟩:=aN1 g4;exact hQ h' ⟨λb o q=>g1 b o (stB b o q),f2,qP stB g3,l4 g4 x'<|none_of stB hT'⟩ (aN2 (l':=outer) x g1 g4 up)
theorem bD4 (hfr:A.frames=some (env::outer))(hf:env.frame=some L)(F:FlyingW base (env::outer) e cls a0 s.heap)
  (hQ: ∀h',HeldW base (env::outer) e cls a0 L h'->vL (frs (env::outer)) e s.heap h'->Q () {s with heap:=h'}):wpAny M A (noteFrame (.ref e) env) Q E s:=by
 obtain⟨f1,f2,f3,f4⟩:=F;obtain⟨T,x,hT,_,_⟩:=aN1 f4;have stB:=v9 f1 f3 f2 hT;refine wpAny_looks_onW hfr hf ⟨λb o q=>o9 _ q,qO<|.inr<|.inl rfl,sT f3,l4 f4 x<|qO<|.inr<|.inr rfl⟩ λh' F' up=> ?_
 obtain⟨g1,g2,g3,g4⟩:=F';obtain⟨T',x',hT',_,_⟩:=aN1 g4;exact hQ h' ⟨λb o q=>g1 b o (stB b o q),f2,qP stB g3,l4 g4 x'<|none_of stB hT'⟩ (aN2 (l':=outer) x g1 g4 up)
theorem bD5 {l:List Env}(F:base.StaysIn s.heap/\base.get? e=none/\s.heap.FunFrames base l/\s.heap.TracedAtW base e cls a0 fl)
  (hQ: ∀h',FlyingW base l e cls a0 h'->vL (frs l) e s.heap h'->Q () {s with heap:=h'}):wpAny M A (setFlight (.ref e) none) Q E s:=by
 obtain⟨f1,f2,f3,f4⟩:=F;obtain⟨T,x,hT,_,_⟩:=aN1 f4;have stB:=v9 f1 f3 f2 hT;refine wpAny_setFlight_noneW (base:=hid s.heap l e T) (λb o q=>o9 _ q) (sT f3) (l4 f4 x<|qO<|.inr<|.inr rfl) λh' g1 g3 g4 up=> ?_
 obtain⟨T',x',hT',_,_⟩:=aN1 g4;exact hQ h' ⟨λb o q=>g1 b o (stB b o q),f2,qP stB g3,l4 g4 x'<|none_of stB hT'⟩ (aN2 (l':=l) x g1 g4 λb o q n=>⟨o.slots,up b o q n⟩)
theorem aN3 (hfr:A.frames=some (env::outer))(hl:s.heap.FunFrames base (env::outer))(hf:env.frame=some L)(he:s.heap.get? e=some oe)(hkb:base.StaysIn s.heap)(hen:base.get? e=none)(hd:oe.data= .fields vs)(h1:vs[1]? =some .none)(h0:vs[0]? =some a0)
  (hQ: ∀h',FlyingW base outer e oe.cls a0 h'->vL (frs (env::outer)) e s.heap h'->Q () {s with heap:=h'}):wpAny M A (leaving env<|.ref e) Q E s:=by
 have stB:=v9 (e:=e) (T:=e) hkb hl hen hen;have nt: ∀T,¬Tr s.heap e T:=by
  rintro T ⟨o,ws,k1,k2,k3⟩;rw[he]at k1;cases k1;rw[hd]at k2;cases k2;rw[h1]at k3;cases k3
 refine wpAny_leaving_firstW (base:=hid s.heap (env::outer) e e) hfr (sT hl) hf he (λb o q=>o9 _ q) (qO<|.inr<|.inl rfl) hd h1 h0 λh' F'=> ?_
 obtain⟨g1,⟨_,_,g3⟩,g4,up⟩:=F';obtain⟨T',x',hT',hne,hrec⟩:=aN1 (fl:= .none) g4;refine hQ h' ⟨λb o q=>g1 b o (stB b o q),hen,qP stB g3,l4 (fl:= .none) g4 x'<|none_of stB hT'⟩ ⟨λb o q k1 k2 _=>g1 b o (yI q k1 k2 k2),up,λT x2=> ?_,λT x2=> ?_⟩
 .obtain rfl:=x2.one x'
  by_cases c1:T∈frs (env::outer)
  .exact .inl c1
  refine .inr (.inr<|.inr ?_)
  cases q:s.heap.get? T with
  | none=>rfl
  | some o=>rw[yI q c1 hne hne]at hT';cases hT'
 .obtain rfl:=x2.one x';exact hrec
theorem bD6 (hfr:A.frames=some (env::outer))(hf:env.frame=some L)(F:FlyingW base (env::outer) e cls a0 s.heap)
  (hQ: ∀h',FlyingW base outer e cls a0 h'->aD9 (frs (env::outer)) e s.heap h'->Q () {s with heap:=h'}):wpAny M A (leaving env<|.ref e) Q E s:=
 aS (sR (yH env<|.ref e)<|b17 (Q:=λ_ s'=> ∃h',s'={s with heap:=h'}/\FlyingW base outer e cls a0 h'/\vL (frs (env::outer)) e s.heap h') hfr hf F λh' a b=>⟨h',rfl,a,b⟩) (λ_ s' ⟨⟨h',q,a,b⟩,dk⟩=>by subst q;exact hQ h' a ⟨b,dk⟩) λ_ _ z=>z.1
theorem aU0 (hfr:A.frames=some (env::outer))(hf:env.frame=some L)(F:FlyingW base (env::outer) e cls a0 s.heap)
  (hQ: ∀h',HeldW base (env::outer) e cls a0 L h'->aD9 (frs (env::outer)) e s.heap h'->Q () {s with heap:=h'}):wpAny M A (noteFrame (.ref e) env) Q E s:=
 aS (sR (aI1 (.ref e) env)<|bD4 (Q:=λ_ s'=> ∃h',s'={s with heap:=h'}/\HeldW base (env::outer) e cls a0 L h'/\vL (frs (env::outer)) e s.heap h') hfr hf F λh' a b=>⟨h',rfl,a,b⟩) (λ_ s' ⟨⟨h',q,a,b⟩,dk⟩=>by subst q;exact hQ h' a ⟨b,dk⟩) λ_ _ z=>z.1
theorem yJ {l:List Env}(F:base.StaysIn s.heap/\base.get? e=none/\s.heap.FunFrames base l/\s.heap.TracedAtW base e cls a0 fl)
  (hQ: ∀h',FlyingW base l e cls a0 h'->aD9 (frs l) e s.heap h'->Q () {s with heap:=h'}):wpAny M A (setFlight (.ref e) none) Q E s:=
 aS (sR (uB (.ref e) none)<|bD5 (Q:=λ_ s'=> ∃h',s'={s with heap:=h'}/\FlyingW base l e cls a0 h'/\vL (frs l) e s.heap h') F λh' a b=>⟨h',rfl,a,b⟩) (λ_ s' ⟨⟨h',q,a,b⟩,dk⟩=>by subst q;exact hQ h' a ⟨b,dk⟩) λ_ _ z=>z.1
theorem aU1 (hfr:A.frames=some (env::outer))(hl:s.heap.FunFrames base (env::outer))(hf:env.frame=some L)(he:s.heap.get? e=some oe)(hkb:base.StaysIn s.heap)(hen:base.get? e=none)(hd:oe.data= .fields vs)(h1:vs[1]? =some .none)(h0:vs[0]? =some a0)
  (hQ: ∀h',FlyingW base outer e oe.cls a0 h'->aD9 (frs (env::outer)) e s.heap h'->Q () {s with heap:=h'}):wpAny M A (leaving env<|.ref e) Q E s:=
 aS (sR (yH env<|.ref e)<|aN3 (Q:=λ_ s'=> ∃h',s'={s with heap:=h'}/\FlyingW base outer e oe.cls a0 h'/\vL (frs (env::outer)) e s.heap h') hfr hl hf he hkb hen hd h1 h0 λh' a b=>⟨h',rfl,a,b⟩) (λ_ s' ⟨⟨h',q,a,b⟩,dk⟩=>by subst q;exact hQ h' a ⟨b,dk⟩) λ_ _ z=>z.1
end
structure Fly (base:Heap)(l:List Env)(e C:Addr)(H:Hp)(h:Heap):Prop where
 fl: ∃a0,FlyingW base l e (.ref C) a0 h
 he:H e=none
 ht: ∀T,Tr h e T->H T=none
structure aI2 (g:Heap)(e:Addr)(h:Heap):Prop where
 he:g.get? e=none
 ht: ∀T,Tr h e T->g.get? T=none
def XAt (h:Heap)(a:Addr)(o:Option Addr):Prop:= ∀d,o=some d-> ∃oe,h.get? a=some oe/\oe.dict=some d
theorem XAt.dk {o:Option Addr}(x:XAt h a o)(k:DK h h'):XAt h' a o:=λd q=>by
 obtain⟨oe,e1,e2⟩:=x d q;obtain⟨o',e3,e4⟩:=k a oe e1;exact⟨o',e3,e4.trans e2⟩
nonrec def CXr (P:Program)(w:World)(base:Heap):CXT:=λouter H s E e s'=> ∃a C o H',e= .ref a/\s'.os=s.os/\AllBare s'.gens/\Un (frs outer) [] H H' s.heap s'.heap/\HOk P w H' s'.heap/\Fly base outer a C H' s'.heap/\aI2 s.heap a s'.heap/\XAt s'.heap a o/\E (.ref C) o H'
section
variable {P:Program}{w:World}{H H0:Hp}{h h':Heap}{fs:List Addr}{e:Addr}
theorem HOk.past (x:HOk P w H h)(p:aD9 fs e h h')(hf: ∀b∈fs,H b=none)(he:H e=none)(ht: ∀T,Tr h e T->H T=none):HOk P w H h':=λa o q=>
 (x a o q).stay (λb u hb r=>by
  have tracked:H b≠none:=by
   rcases hb with rfl|hb
   .rw[q];simp
   .rw[hb];simp
  exact p.keep b u r (λz=>tracked (hf b z)) (λz=>tracked (by rw[z];exact he)) λz=>tracked (ht b z)) (λ_ q=>q) λ_ _ q=>q
theorem HOk.there (x:HOk P w H h){b:Addr}(n:h.get? b=none):H b=none:=by
 cases q:H b with
 | none=>rfl
 | some o=>
  have hh: ∃ob,h.get? b=some ob:=by
   have y:=x b o q;cases o with
   | lst xs=>obtain⟨_,_,_,_,e⟩:=y;exact⟨_,e⟩
   | tup xs=>obtain⟨_,_,_,ob,e,_⟩:=y;exact⟨_,e⟩
   | dK kvs=>obtain⟨_,_,_,_,o,_,_,e,_⟩:=y;exact⟨_,e⟩
   | dT kvs=>obtain⟨_,_,_,_,o,_,_,e,_⟩:=y;exact⟨_,e⟩
   | set S n=>obtain⟨o,_,_,_,e,_⟩:=y;exact⟨_,e⟩
   | ins C dx fs=>obtain⟨_,_,_,e,_⟩:=y;exact⟨_,e⟩
   | own y'=>exact y
   | xd fs=>obtain⟨_,⟨_,_,_,e,_⟩,_⟩:=y;exact⟨_,e⟩
   | rng lo hi=>obtain⟨_,_,_,e⟩:=y;exact⟨_,e⟩
   | frz ob u=>obtain⟨e,_⟩:=y;exact⟨_,e⟩
   | tbl ps=>exact⟨_,(show h.get? b=some _ from y)⟩
   | met f y'=>exact⟨_,(show h.get? b=some _ from y)⟩
   | ext φ=>obtain⟨_,e,_⟩:=y;exact e
  obtain⟨ob,e⟩:=hh;rw[n]at e;cases e
theorem vA (x:HOk P w H h)(p:aD9 fs e h h')(hf: ∀b∈fs,H b=none)(he:H e=none)(ht: ∀T,Tr h e T->H T=none): ∀T,Tr h' e T->H T=none:=λT q=>by
 rcases p.tr T q with z|z|z|z
 .exact hf T z
 .rw[z];exact he
 .exact ht T z
 .exact x.there z
end
section
variable {X:Cx}{pins:List (Addr×Obj)}{σ:St}{H:Hp}{s:Shared}{h':Heap}{e:Addr}
theorem Un.past {fs fs':List Addr}{H0:Hp}{L:Addr}(u:Un fs [] H0 H g s.heap)(p:aD9 fs' e s.heap h')(hfs: ∀b∈fs',b=L\/b∈fs)(hL:g.get? L=none)(ne:g.get? e=none)(nt: ∀T,Tr s.heap e T->g.get? T=none)(hd: ∀b∈fs,∀o,s.heap.get? b=some o-> ∀vs,o.data≠ .fields vs):Un fs [] H0 H g h' where
 keep:=λb o q n hb hx=>p.keep b o (u.keep b o q n hb hx) (λz=>by
  rcases hfs b z with z|z
  .rw[z,hL]at q;cases q
  .exact hb z) (λz=>by rw[z,ne]at q;cases q) λz=>by rw[nt b z]at q;cases q
 slot:=λb o q n hb hx=>by
  obtain⟨sl,e1⟩:=u.slot b o q n hb hx;obtain⟨sl',e2⟩:=p.slot b _ e1 (hd b hb _ e1);exact⟨sl',e2⟩
 free:=u.free
 there:=λb o q hx=>by
  obtain⟨o',e1⟩:=u.there b o q hx
  by_cases c:b∈fs
  .obtain⟨sl,e2⟩:=p.slot b _ e1 (hd b c _ e1);exact⟨_,e2⟩
  .exact⟨o',p.keep b o' e1 (λz=>by
    rcases hfs b z with z|z
    .rw[z,hL]at q;cases q
    .exact c z) (λz=>by rw[z,ne]at q;cases q) λz=>by rw[nt b z]at q;cases q⟩
 tups:=u.tups
 frzs:=u.frzs
 tbls:=u.tbls
end
section
variable {P:Program}{w:World}{K:PySem.W.Frag}{mg:Str->Option Value}{base:Heap}{N:List Str}{qual:Str}{scope:Scope}{f:Addr}{cd:Value}{A:Around}{outer:List Env}{s0:Shared}{H0:Hp}{E:XK}{CX:CXT}
theorem bN7 {σ:St}{H:Hp}{o:Option Addr}(I:Inv (sM (CXr P w base) P w K mg base N qual scope f cd A outer s0 H0 E) pins σ H s')(F:Fly base (envOfC qual scope s0.heap.objs.size f cd::outer) a C H s'.heap)(nw:aI2 s0.heap a s'.heap)(xa:XAt s'.heap a o)(hE:E (.ref C) o H) :
  (sM (CXr P w base) P w K mg base N qual scope f cd A outer s0 H0 E).xe (.ref a) s':=by
 obtain⟨⟨a0,fl⟩,he,ht⟩:=F;have fr:(A.deeper<|envOfC qual scope s0.heap.objs.size f cd).frames=some (envOfC qual scope s0.heap.objs.size f cd::outer):=I.ok.frames;have sf: ∀b∈frs (envOfC qual scope s0.heap.objs.size f cd::outer),H b=none:=I.stkFree;have fm: ∀b∈frs (envOfC qual scope s0.heap.objs.size f cd::outer),b=s0.heap.objs.size\/b∈frs outer:=λb hb=>by
  unfold frs at hb⊢;rw[i7]at hb;have e:(envOfC qual scope s0.heap.objs.size f cd).frame=some s0.heap.objs.size:=rfl;rw[e]at hb;exact aG.mp hb
 show wpAny _ _ (leaving _<|.ref a) _ _ s'
 refine bD6 fr (L:=s0.heap.objs.size) rfl fl λh' fl' p=> ?_
 have hd: ∀b∈frs outer,∀o,s'.heap.get? b=some o-> ∀vs,o.data≠ .fields vs:=λb hb o q=>by
  obtain⟨_,o',q',n⟩:=fl.2.2.1.mem (b:=b) (by
   unfold frs at hb;rw[i7];have e:(envOfC qual scope s0.heap.objs.size f cd).frame=some s0.heap.objs.size:=rfl;rw[e];exact aG.mpr (.inr hb))
  rw[q]at q';cases q';exact n
 have un:Un (frs outer) [] H0 H s0.heap h':=I.base.past p fm (kG<|aC _) nw.he nw.ht hd;refine⟨a,C,o,H,rfl,I.os,I.bare,un,I.hok.past p sf he ht,⟨⟨a0,fl'⟩,he,vA I.hok p sf he ht⟩,⟨nw.he,λT q=> ?_⟩,xa.dk p.dk,hE⟩
 rcases p.tr T q with z|z|z|z
 .rcases fm T z with z|z
  .rw[z];exact kG (aC _)
  .exfalso
   obtain⟨o,vs,q1,q2⟩:=p.rcd T q;obtain⟨_,o',q',n⟩:=fl'.2.2.1.mem (b:=T) z;rw[q1]at q';cases q';exact n vs q2
 .rw[z];exact nw.he
 .exact nw.ht T z
 .cases r:s0.heap.get? T with
  | none=>rfl
  | some o=>
   obtain⟨o',q'⟩:=I.base.there T o r (show T ∉ ([]:List Addr)by simp)
   rw[z]at q';cases q'
theorem passX:xG (CXr P w base) (sM (CXr P w base) P w K mg base N qual scope f cd A outer s0 H0 E) E:=by
 rintro pins σ H s e s' I ⟨a,C,o,H',rfl,ho,hb,un,hok,F,nw,xa,hE⟩;have I':=I.call' (s':=s') ho un hok hb (λb z=>absurd z ae)
 refine bN7 I' F ⟨?_,λT q=> ?_⟩ xa hE
 .cases r:s0.heap.get? a with
  | none=>rfl
  | some o=>
   obtain⟨o',q'⟩:=I.base.there a o r (show a ∉ ([]:List Addr)by simp)
   rw[nw.he]at q';cases q'
 .have:=nw.ht T q;cases r:s0.heap.get? T with
  | none=>rfl
  | some o=>
   obtain⟨o',q'⟩:=I.base.there T o r (show T ∉ ([]:List Addr)by simp)
   rw[this]at q';cases q'
end
inductive XO (h:Heap) (C N:Addr) (bm:List Value) (newId:String):Prop
 | mk (nm q:Str) (bs:List Value) (hd:Bool) (sn:List Str) (sub:List Value) (ab:Bool) (col:Option Bool) (dd:Option Addr) (k0 k1 k2 k3 k5:Option Value) (o:h.get? C=some (excClassObj nm q C N bs bm hd sn sub ab col dd k0 k1 k2 k3 k5 newId)):XO h C N bm newId
inductive XCls (h:Heap) (C:Addr) (bmB bm:List Value) (newId:String):Prop
 | mk (N:Addr) (mN:Str->Option Value) (o:XO h C N bm newId) (n:h.Ns N mN) (i:mN "__init__"=none) (t:OwnTail h bmB bm):XCls h C bmB bm newId
theorem aN4 (X:K.In h)(q:excIn K C bmB newId=true): ∃bm,XCls h C bmB bm newId:=by
 unfold excIn at q;split at q
 .rename_i od ck slots look
  split at q
  .rename_i C2 tail a0 a1 a2 a3 nid a5 em es
   simp only[bK,jL,wW]at q;obtain⟨⟨⟨⟨⟨rfl,rfl⟩,nodel⟩,tk⟩,nk⟩,ni⟩:=q;obtain⟨c1,c2,c3,c4,c5,c6,c7,c8,c9,c10,c11⟩:=ck;dsimp only at em nodel nk ni;subst em nodel;obtain⟨sll⟩:=slots;subst es;exact⟨tail,_,_,⟨_,_,_,_,_,_,_,_,_,_,_,_,_,_,X _ _ look⟩,.of_isNs<|PySem.W.isNs_of_in X nk,PySem.W.nsMap_none_of_in X nk ni,PySem.W.tail_of_in X tk⟩
  .cases q
 .cases q
section
variable {X:Cx}{E:XK}{C:Addr}
def b18 (X:Cx)(E:XK)(C:Addr):Prop:= ∀(pins:List (Addr×Obj)) (σ:St) (H:Hp) (s:Shared) (a:Addr) (oe:Obj) (vs:Array Value) (a0:Value) (o:Option Addr),Inv X pins σ H s->s.heap.get? a=some oe->oe.cls= .ref C->oe.data= .fields vs->vs[0]? =some a0->vs[1]? =some .none->H a=none->X.s₀.heap.get? a=none->XAt s.heap a o->E (.ref C) o H->X.xe (.ref a) s
theorem throwX {cd:Value}{s0:Shared}{H0:Hp} :
  b18 (sM (CXr P w base) P w K mg base N qual scope f cd A outer s0 H0 E) E C:=by
 intro pins σ H s a oe vs a0 o I he hc hd h0 h1 nH n0 xa hE;have fr:(A.deeper<|envOfC qual scope s0.heap.objs.size f cd).frames=some (envOfC qual scope s0.heap.objs.size f cd::outer):=I.ok.frames;have sf: ∀b∈frs (envOfC qual scope s0.heap.objs.size f cd::outer),H b=none:=I.stkFree;have fl0:s.heap.FunFrames base (envOfC qual scope s0.heap.objs.size f cd::outer):=I.stack
 have fm: ∀b∈frs (envOfC qual scope s0.heap.objs.size f cd::outer),b=s0.heap.objs.size\/b∈frs outer:=λb hb=>by
  exact aG.mp hb
 have nt: ∀T,¬Tr s.heap a T:=by
  rintro T ⟨o,ws,k1,k2,k3⟩;rw[he]at k1;cases k1;rw[hd]at k2;cases k2;rw[h1]at k3;cases k3
 have nb:base.get? a=none:=by
  cases q:base.get? a with
  | none=>rfl
  | some o=>rw[(I.ok.bs a o q).1]at n0;cases n0
 have st:base.StaysIn s.heap:=I.bk;refine aU1 fr fl0 rfl he st nb hd h1 h0 λh' fl' p=> ?_
 rw[hc]at fl';have hdf: ∀b∈frs outer,∀o,s.heap.get? b=some o-> ∀vs,o.data≠ .fields vs:=λb hb o q=>by
  obtain⟨_,o',q',n⟩:=fl0.mem (by
   exact aG.mpr (.inr hb))
  rw[q]at q';cases q';exact n
 have un:Un (frs outer) [] H0 H s0.heap h':=I.base.past p fm (kG<|aC _) n0 (λT q=>absurd q (nt T)) hdf
 have ht: ∀T,Tr s.heap a T->H T=none:=λT q=>absurd q (nt T)
 refine⟨a,C,o,H,rfl,I.os,I.bare,un,I.hok.past p sf nH ht,⟨⟨a0,fl'⟩,nH,vA I.hok p sf nH ht⟩,⟨n0,λT q=> ?_⟩,xa.dk p.dk,hE⟩
 rcases p.tr T q with z|z|z|z
 .rcases fm T z with z|z
  .rw[z];exact kG (aC _)
  .exfalso
   obtain⟨o,ws,q1,q2⟩:=p.rcd T q;obtain⟨_,o',q',n⟩:=fl'.2.2.1.mem z;rw[q1]at q';cases q';exact n ws q2
 .rw[z];exact n0
 .exact absurd z (nt T)
 .cases r:s0.heap.get? T with
  | none=>rfl
  | some o=>
   obtain⟨o',q'⟩:=I.base.there T o r (show T ∉ ([]:List Addr)by simp)
   rw[z]at q';cases q'
def bN8 (C:Addr)(E:XK)(ta:TA):TS:=λ_ σ H=>ta σ H λvs H1=>vs.length<=sizeLine/\E (.ref C) none H1
theorem bN9 {np:Pos}{ta:TA}{B:String}(FB:ExcBaseFacts B newId initId bmB)(q:excIn X.K C bmB newId=true)(hg:Gl X x)(hm:X.mg x=some (.ref C))(hc:X.calm=true)(ha:PA X (e::es) ta)(th:b18 X E C)
  (he:↥(starEach (e::es) X.env=(false,eval e X.env)::starEach es X.env)) (hpl:↥((backTo cpos<|starEach es X.env).any (·.1)=false)) (hd:⇑(x∪0)) (hex:↥(X.ex=[])) :
  PS X (.Raise (some<|.Call (.Name x np) (e::es) [] cpos) none pos) (bN8 C E ta):=by
 intro pins s σ H D I h;obtain⟨bm,N,mN,⟨nm,qn,bs,hdd,sn,sub,ab,col,dd,k0,k1,k2,k3,k5,hC⟩,hN,hni,tl⟩:=aN4 I.mod.kin q;have keepS: ∀{pins:List (Addr×Obj)} {σ:St} {H:Hp} {s2:Shared},Inv X pins σ H s2-> ∀b o,X.base.get? b=some o->s2.heap.get? b=some o:=λJ=>J.bk
 refine wpAny_Raise_call_subT (nm:=nm) (q:=qn) (N:=N) (bs:=bs) (hdct:=hdd) (sn:=sn) (sub:=sub) (ab:=ab) (col:=col) (dd:=dd) (k0:=k0) (k1:=k1) (k2:=k2) (k3:=k3) (k5:=k5) FB (tl.hasType FB.hasBase) (I.ok.hd hc) ?_ hni (sK I hg hm ⟨rfl,?_⟩ hd)
 .rw[he];show(false||(backTo cpos<|starEach es X.env).any (·.1))=false;rw[hpl];rfl
 .have hh:=ha cpos pins s σ H _ I h;rw[he]at hh⊢;refine Calls.evalArgs_plain (aS hh (λus s2 ⟨vs,H1,I1,r1,q1⟩=>⟨rfl,by rw[<-r1.length];exact q1.1,keepS I1 _ _ hC,hN.keeps<|keepS I1,tl.keeps<|keepS I1,λh' a mk=> ?_⟩) λ_ _ y=>y)
  obtain⟨t,m1,m2,m3⟩:=mk.there;have I2:Inv X pins σ H1 {s2 with heap:=h'}:=I1.kept mk.keeps;refine th pins σ H1 _ a _ _ (.ref t) none I2 m1 rfl rfl rfl rfl (I1.hok.there mk.new) ?_ (λd z=>by cases z) q1.2
  cases r:X.s₀.heap.get? a with
  | none=>rfl
  | some o=>
   obtain⟨o',q'⟩:=I1.base.there a o r (by rw[hex];simp)
   rw[mk.new]at q';cases q'
end
section
variable {prog:Program}{w:World}{A:Around}{E:Value->Shared->Prop}{hp:Heap}{gn:Array GenState}{dr:Drawn}{tn:Nat}{os:OsState}
variable {nm qn:Str}{C N:Addr}{bs bm bmB:List Value}{hdd:Bool}{sn:List Str}{sub:List Value}{ab:Bool}{col:Option Bool}{dd:Option Addr}{k0 k1 k2 k3 k5:Option Value}{B newId initId:String}
end
open Builtin Builtin.ObjectAttr
nonrec def aI3 (K:PySem.W.Frag)(C fI:Addr)(bmB:List Value)(newId:String):Bool:=match K.lookup C with
 | some ⟨.type "type",_,.cls ck,sl⟩=>(match ck.mro,sl.toList with
  | .ref C2::tail,[_,_,_,_,some<|.builtin nid,_]=>C2==C&&nid==newId&& !ck.hasDel&&PySem.W.tailIn K bmB tail&&PySem.W.nsOkIn K ck.ns&&nsIn K ck.ns "__init__"==some (some<|.ref fI)
  | _,_=>false)
 | _=>false
theorem c09 {N:Addr}{n:Str}(X:K.In h)(G:h.Ns N mg)(e:nsIn K N n=some (some v)):mg n=some v:=by
 obtain⟨ob,ents,np,look0,dat,_,find0⟩:=G;unfold nsIn at e;split at e
 .rename_i look
  have same:=X _ _ look;rw[look0]at same;cases same;cases dat;split at e
  .rename_i en found
   cases e;rw[<-find0];unfold nsFind findBy;rw[<-Array.find?_toList,found];rfl
  .split at e<;>cases e
 .cases e
inductive c56 (h:Heap) (C fI:Addr) (bmB bm:List Value) (newId:String):Prop
 | mk (N:Addr) (mN:Str->Option Value) (o:XO h C N bm newId) (n:h.Ns N mN) (i:mN "__init__"=some (.ref fI)) (t:OwnTail h bmB bm):c56 h C fI bmB bm newId
theorem aU2 {fI:Addr}(X:K.In h)(q:aI3 K C fI bmB newId=true): ∃bm,c56 h C fI bmB bm newId:=by
 unfold aI3 at q;split at q
 .rename_i od ck slots look
  split at q
  .rename_i C2 tail a0 a1 a2 a3 nid a5 em es
   simp only[bK,jL,wW]at q;obtain⟨⟨⟨⟨⟨rfl,rfl⟩,nodel⟩,tk⟩,nk⟩,ni⟩:=q;obtain⟨c1,c2,c3,c4,c5,c6,c7,c8,c9,c10,c11⟩:=ck;dsimp only at em nodel nk ni;subst em nodel;obtain⟨sll⟩:=slots;subst es;have nsk:h.Ns c4 (h.nsMap c4):= .of_isNs (PySem.W.isNs_of_in X nk);exact⟨tail,_,_,⟨_,_,_,_,_,_,_,_,_,_,_,_,_,_,X _ _ look⟩,nsk,c09 X nsk ni,PySem.W.tail_of_in X tk⟩
  .cases q
 .cases q
section
variable {M:Model}{A:Around}{E:Value->Shared->Prop}{s:Shared}{env:Env}
variable {nm qn:Str}{C N:Addr}{bs bm:List Value}{hdd:Bool}{sn:List Str}{sub:List Value}{ab:Bool}{col:Option Bool}{dd:Option Addr}{k0 k1 k2 k3 k5:Option Value}{newId:String}
end
end L2
namespace M
abbrev XP:=Str->List D->Prop
abbrev ΦX:=List D->(B->Prop)->XP->Prop
nonrec def vM (n:Str):List Str:=if n="FallsApart" then ["left","right"]else if n="NotWhole" then ["prime","number"]else []
nonrec def XR (K:PySem.W.Frag)(A:AS)(H:Hp)(n:Str)(ds:List D):Option Addr->Prop
 | none=>vM n=[]
 | some d=> ∃vs,¬A d/\H d=some (.xd<|(vM n).zip vs)/\(vM n).length=vs.length/\aV K A H ds vs
theorem XR.mono {K:PySem.W.Frag}{A A':AS}{H H':Hp}{n:Str}{ds:List D}(p:jS A H A' H'): ∀{o:Option Addr},XR K A H n ds o->XR K A' H' n ds o
 | none,h=>h
 | some d,⟨vs,h1,h2,h3,h4⟩=>⟨vs,(p d _ h1 h2).1,(p d _ h1 h2).2,h3,h4.mono p⟩
nonrec def spX (K:PySem.W.Frag)(mg:Str->Option Value)(φ:ΦX):Sp:=λvs H Q E=> ∃A ds Q0 Ex,(∀a,A a->H a≠none)/\aV K A H ds vs/\φ ds Q0 Ex/\(∀b v H',Q0 b->eE H H'->lM K A H H' b v->Q v H')/\ ∀n C es o H',Ex n es->mg n=some (.ref C)->eE H H'->XR K A H' n es o->E (.ref C) o H'
structure FnX (P:Program)(w:World)(K:PySem.W.Frag)(mg:Str->Option Value)(base:Heap)(x:Str)(ps:List Str)(k:Nat)(φ:ΦX):Prop where
 ex: ∃f fd,pL P w K mg base (CXr P w base) k f fd ps (spX K mg φ)/\Binds K fd ps []/\keepIn K (.ref f)=true/\mg x=some (.ref f)
abbrev USX:=XP->US
def lSX (K:PySem.W.Frag)(mg:Str->Option Value)(E:XK)(t:USX):TS:=λD σ H=> ∃C ρ D0 Ex,EOk K C ρ σ H/\t Ex D0 ρ/\DOk K C D0 D/\ ∀n Cl es o H',Ex n es->mg n=some (.ref Cl)->eE C.H0 H'->XR K C.A0 H' n es o->E (.ref Cl) o H'
def bO0 (X:Cx)(E:XK)(st:Stmt)(t:USX):Prop:=PS X st (lSX X.K X.mg E t)
def tM (X:Cx)(E:XK)(sts:List Stmt)(t:USX):Prop:=PSs X sts (lSX X.K X.mg E t)
section
variable {X:Cx}{E:XK}{st:Stmt}{sts:List Stmt}{t u:USX}{e:Expr}{es:List Expr}{pos:Pos}
theorem a95 {t:US}(h:mP X sts t):tM X E sts (λ_=>t):=aL3 h λD σ H ⟨C,ρ,D0,Ex,I,h,k,_⟩=>⟨C,ρ,D0,I,h,k⟩
theorem b70 (h1:bO0 X E st t)(h2:tM X E sts u):tM X E (st::sts) (λEx=>b4 (t Ex) (u Ex)):=
 aL3 (aQ6 h1 h2) λD σ H ⟨C,ρ,D0,Ex,I,h,k,kx⟩=>⟨C,ρ,{D0 with nx:=u Ex D0},Ex,I,h,⟨λρ' σ' H' q I'=>⟨C,ρ',D0,Ex,I',q,k,kx⟩,k.rt,k.bk,k.ct⟩,kx⟩
theorem ux_one (h1:bO0 X E st t):tM X E [st] t:=b49 h1
theorem ux_nil:tM X E [] (λ_=>gF):=a95 bI0
theorem ux_if {a b:List Stmt}{tc:UT}(hc:PUT X c tc)(ha:tM X E a t)(hb:tM X E b u):bO0 X E (.If c a b pos) (λEx=>jW tc (t Ex) (u Ex)):=
 tH (c43 hc ha hb) λD σ H ⟨C,ρ,D0,Ex,I,h,k,kx⟩=>⟨C,ρ,_,I,h,λc ρ1 H1 q f s=>by
  have I1:=(I.frz f).same s;cases c with
  | true=>
   exact⟨C,ρ1,D0,Ex,I1,q,k,kx⟩
  | false=>
   exact⟨C,ρ1,D0,Ex,I1,q,k,kx⟩⟩
def b19 (φ:ΦX)(t:UA)(Ex:XP):UE:=λρ Q=>t ρ λds ρ1=>φ ds (λb=>Q b ρ1) Ex
theorem spX_of {φ:ΦX}{C:C0}{ρ ρ1:Ev}{σ:L2.St}{H H1:Hp}{ds:List D}{vs:List V}{Q0:B->Prop}{Ex:XP}{Q:VK}(I:EOk X.K C ρ σ H)(f:Frz ρ ρ1)(s:eE H H1)(r:aV X.K (Av C ρ1 σ) H1 ds vs)(q:φ ds Q0 Ex)(kq: ∀b v H',Q0 b->eE H1 H'->lM X.K (Av C ρ1 σ) H1 H' b v->Q v H')(kx: ∀n Cl es o H',Ex n es->X.mg n=some (.ref Cl)->eE C.H0 H'->XR X.K C.A0 H' n es o->E (.ref Cl) o H'):spX X.K X.mg φ (vs++[]) H1 Q E:=by
 have I1:=(I.frz f).same s;rw[iB];exact⟨Av C ρ1 σ,ds,Q0,Ex,λa z=>I1.avSome z,r,q,kq,λn Cl es o H' ex hm s' x=>kx n Cl es o H' ex hm (I1.ext.trans s') (x.mono<|.sub (.refl _) λa z=> .inl z)⟩
theorem ux_set {ps:List Str}{φ:ΦX}{t:UA}(i:Nat)(F:FnX X.prog X.w X.K X.mg X.base x ps k φ)(hr:gR k' X.A)(hk:k<=k')(hp:xG (CXr X.prog X.w X.base) X E)(hg:Gl X x)(ha:PUA X (e::es) t)(hN:X.N.Nodup)(hi:X.N[i]? =some y)(hx:Loc X.env.scope y)(hdb:⇑(x∪0))
  (he:↥(starEach (e::es) X.env=(false,eval e X.env)::starEach es X.env)) (hpl:↥((backTo cpos<|starEach es X.env).any (·.1)=false)) (hs:↥(swapsWith (.Call (.Name x p) (e::es) [] cpos) (some<|.Name y pos') pos.line X.env=pure false)) (hf:X.fn y=true\/X.env.scope.names.lookup y=some .local:=by walk_at "z")
  (hl: ∀pins σ H s,Inv X pins σ H s->i<σ.length:=by intro pins σ H s I;rw[I.len];decide) :
  bO0 X E (.Assign [.Name y pos'] (.Call (.Name x p) (e::es) [] cpos) pos) (λEx=>cN i (b19 φ t Ex)):=by
 obtain⟨f,fd,G,b,kp,m⟩:=F.ex;intro pins s σ H D J q;refine bG0 hN hi hx (b52 G (hr.mono hk) hg m kp b .nil hp ha hdb he hpl) hs hf pins s σ H D J ?_;obtain⟨C,ρ,D0,Ex,I,h,k,kx⟩:=q;exact⟨C,ρ,_,I,h,λds ρ1 vs H1 q f s1 r=>spX_of I f s1 r q (λb v H' q' s' r'=>k.nx _ _ _ q' (((I.frz f).same s1).store s' r'<|hl pins σ H s J)) kx⟩
def aN5 (x:Str)(t:UA)(Ex:XP):US:=λ_ ρ=>t ρ λds _=>ds.length<=sizeLine/\Ex x []
theorem lRaise {t:UA}(hm:X.mg x=some (.ref C))(hk:vM x=[])(D:zE)(σ:L2.St)(H:Hp)(h:lSX X.K X.mg E (λEx=>aN5 x t Ex) D σ H):bN8 C E (lA X.K t) D σ H:=by
 obtain⟨C0,ρ,D0,Ex,I,h,k,kx⟩:=h;exact⟨C0,ρ,_,I,h,λds ρ1 vs H1 q f s r=>⟨by rw[<-r.length];exact q.1,kx x C [] none H1 q.2 hm (I.ext.trans s) hk⟩⟩
def c12 (x:Str)(t1 t2:UE)(Ex:XP):US:=λ_ ρ=>t1 ρ λa ρ1=>t2 ρ1 λb _=>Ex x [a.d,b.d]
theorem bO1 {np:Pos}{t:UA}{B:String}(FB:ExcBaseFacts B newId initId bmB)(q:excIn X.K C bmB newId=true)(hg:Gl X x)(hm:X.mg x=some (.ref C))(hc:X.calm=true)(ha:PUA X (e::es) t)(th:b18 X E C)(hk:vM x=[])
  (he:↥(starEach (e::es) X.env=(false,eval e X.env)::starEach es X.env)) (hpl:↥((backTo cpos<|starEach es X.env).any (·.1)=false)) (hd:⇑(x∪0)) (hex:↥(X.ex=[])) :
  bO0 X E (.Raise (some<|.Call (.Name x np) (e::es) [] cpos) none pos) (λEx=>aN5 x t Ex):=tH (bN9 FB q hg hm hc ha th he hpl hd hex) (lRaise hm hk)
theorem bO2 {st:Stmt}{ps:List Str}{φ:ΦX}(F:Fun K x qual st f fd)(S:bN N ps (aI st))
  (len: ∀ds Q Ex,φ ds Q Ex->ds.length=ps.length) {t:USX}
  (der: ∀(cdv:Value) (A:Around) (outer:List Env) (s:Shared) (H:Hp) (E:XK),gR k (A.deeper<|envOfC qual (aI st) s.heap.objs.size f cdv)->tM (sM (CXr P w base) P w K mg base N qual (aI st) f cdv A outer s H E) E (eY st) t)
  (rd: ∀ds Q Ex,φ ds Q Ex->t Ex {Q with} (init N ds)) :
  pL P w K mg base (CXr P w base) (k+1) f fd ps (spX K mg φ):=by
 obtain⟨oc,od,kV,doc,pm,an,cdv,ct,osl,rfl,lk,hcd⟩:=F.ex;refine c44 lk hcd S (λvs H Q E h=> ?_) λA outer s H vs Q E hr h=> ?_
 .obtain⟨A,ds,Q0,Ex,_,r,h,_⟩:=h;rw[<-r.length];exact len ds Q0 Ex h
 .obtain⟨A',ds,Q0,Ex,hA,r,h,q,qx⟩:=h;refine⟨_,der cdv A outer s H E hr,⟨H,A'⟩,init N ds,_,Ex,b63 hA r,rd ds Q0 Ex h,⟨λρ σ H' z I=> ?_,λb v H' z s r=>q b v H' z s r,λ_ _ _ z=>z.elim,λ_ _ _ z=>z.elim⟩,qx⟩
  exact q _ _ H' z I.ext (show Rep _ _ _ _ _ by simp only[Rep])
theorem FnX.mk' {st:Stmt}{ps:List Str}{φ:ΦX}(F:Fun K x qual st f fd)(m:mg x=some (.ref f))(b:Binds K fd ps [])(S:bN N ps (aI st))
  (len: ∀ds Q Ex,φ ds Q Ex->ds.length=ps.length) {t:USX}
  (der: ∀(cdv:Value) (A:Around) (outer:List Env) (s:Shared) (H:Hp) (E:XK),gR k (A.deeper<|envOfC qual (aI st) s.heap.objs.size f cdv)->tM (sM (CXr P w base) P w K mg base N qual (aI st) f cdv A outer s H E) E (eY st) t)
  (rd: ∀ds Q Ex,φ ds Q Ex->t Ex {Q with} (init N ds)):FnX<$>x ps (k+1) φ:=
 ⟨f,fd,bO2 F S len der rd,b,F.kp,m⟩
end
end M
section
namespace L2
section
variable {X:Cx}{pins:List (Addr×Obj)}{σ:St}{H:Hp}{s:Shared}{h':Heap}{e:Addr}
theorem Inv.past (I:Inv X pins σ H s)(p:aD9 (frs X.stack) e s.heap h')(hstk:X.stack=X.env::X.outer)(hfr:X.env.frame=some X.env.locals)(hex:X.ex=[])(gs: ∀b o,X.s₀.heap.get? b=some o-> ∃o',g.get? b=some o')(gp: ∀q∈X.pn++pins,∃o',g.get? q.1=some o')(ne:g.get? e=none)(nt: ∀T,Tr s.heap e T->g.get? T=none)(he:H e=none)(ht: ∀T,Tr s.heap e T->H T=none):Inv X pins σ H {s with heap:=h'}:=by
 have none0: ∀b,g.get? b=none->X.s₀.heap.get? b=none:=λb q=>by
  cases r:X.s₀.heap.get? b with
  | none=>rfl
  | some o=>obtain⟨o',q'⟩:=gs b o r;rw[q]at q';cases q'
 have fm: ∀b∈frs X.stack,b=X.env.locals\/b∈X.fs:=λb hb=>by
  rw[hstk]at hb;unfold Cx.fs;unfold frs at hb⊢;rw[i7,hfr]at hb;exact aG.mp hb
 have hL:X.s₀.heap.get? X.env.locals=none:=kG I.ok.above;have hd: ∀b∈X.fs,∀o,s.heap.get? b=some o-> ∀vs,o.data≠ .fields vs:=λb hb o q=>by
  have fl:=I.stack;rw[hstk]at fl;obtain⟨_,o',q',n⟩:=fl.mem (b:=b) (by
   unfold Cx.fs frs at hb;rw[i7,hfr];exact aG.mpr (.inr hb))
  rw[q]at q';cases q';exact n
 have hb0:=I.base;rw[hex]at hb0;have un:=hb0.past p fm hL (none0 e ne) (λT q=>none0 T (nt T q)) hd
 have cellS: ∀c v,s.heap.IsCell c v->h'.IsCell c v:=λc v ⟨o,q1,q2⟩=>by
  obtain⟨sl,q3⟩:=p.slot c o q1 (λvs z=>by rw[q2]at z;cases z)
  exact⟨_,q3,q2⟩
 refine⟨I.ok,I.os,I.bare,by rw[hex];exact un,?_,λx c q=> ?_,I.free,I.freeC,λq hq=> ?_,I.hok.past p I.stkFree he ht,I.len⟩
 .obtain⟨m,hn,hl⟩:=I.loc;refine⟨m,p.slot.ns hn,λi x v a b c=> ?_⟩
  obtain⟨u,r,lo⟩:=hl i x v a b c;refine⟨u,r,?_⟩;rcases lo with z| ⟨z1,c,z2,z3⟩
  .exact .inl z
  .exact .inr ⟨z1,c,z2,cellS c _ z3⟩
 .obtain⟨v,z⟩:=I.cell x c q;exact⟨v,cellS c v z⟩
 .obtain⟨z1,z2,z3,z4,z5⟩:=I.pin q hq;obtain⟨o',g1⟩:=gp q hq;refine⟨p.keep q.1 q.2 z1 (λz=> ?_) (λz=>by rw[z,ne]at g1;cases g1) (λz=>by rw[nt _ z]at g1;cases g1),z2,z3,z4,z5⟩
  rcases fm _ z with y|y
  .exact z3 y
  .exact z4 y
end
noncomputable abbrev Cx.inX (X:Cx)(e:Addr):Cx:={X with A:=X.A.mark (some<|.ref e),calm:=false,xe:=λ_ _=>False}
theorem Cx.Ok.inX {X:Cx}(ok:X.Ok)(e:Addr):(X.inX e).Ok:=
 ⟨ok.mod,ok.kind,ok.glob,ok.blt,ok.above,ok.inj,ok.has,ok.cab,(λz=>by cases z),ok.frames,ok.stk,ok.exf,ok.bs,ok.bsz,ok.noex,ok.exfs,ok.funs,ok.frf⟩
section
variable {X:Cx}{pins:List (Addr×Obj)}{σ:St}{H:Hp}{s:Shared}{e:Addr}
theorem Inv.inX (I:Inv X pins σ H s)(e:Addr):Inv (X.inX e) pins σ H s:=⟨I.ok.inX e,I.os,I.bare,I.base,I.loc,I.cell,I.free,I.freeC,I.pin,I.hok,I.len⟩
theorem Cx.Ok.outX {X:Cx}{Y:Cx}(okY:Y.Ok){e:Addr}(ok:(X.inX e).Ok)(hd:X.calm=true->X.A.handled=none):X.Ok:=
 ⟨ok.mod,ok.kind,ok.glob,ok.blt,ok.above,ok.inj,ok.has,ok.cab,hd,ok.frames,ok.stk,ok.exf,ok.bs,ok.bsz,ok.noex,ok.exfs,ok.funs,ok.frf⟩
theorem Inv.outX (I:Inv (X.inX e) pins σ H s)(hd:X.calm=true->X.A.handled=none):Inv X pins σ H s:=⟨I.ok.outX I.ok hd,I.os,I.bare,I.base,I.loc,I.cell,I.free,I.freeC,I.pin,I.hok,I.len⟩
theorem SP.outX {D:zE}{f:Flow}(h:SP (X.inX e) pins D f s')(hd:X.calm=true->X.A.handled=none):SP X pins D f s':=by
 cases f with
 | next=>obtain⟨σ',H',I,q⟩:=h;exact⟨σ',H',I.outX hd,q⟩
 | brk=>obtain⟨σ',H',I,q⟩:=h;exact⟨σ',H',I.outX hd,q⟩
 | cont=>obtain⟨σ',H',I,q⟩:=h;exact⟨σ',H',I.outX hd,q⟩
 | ret u=>obtain⟨v,σ',H',I,r,q⟩:=h;exact⟨v,σ',H',I.outX hd,r,q⟩
end
theorem aI2.past {fs:List Addr}{e:Addr}(n:aI2 g e h)(p:aD9 fs e h h')(gh: ∀b o,g.get? b=some o-> ∃o',h.get? b=some o')(hf: ∀b∈fs,∀o,h'.get? b=some o-> ∀vs,o.data≠ .fields vs):aI2 g e h':=by
 refine⟨n.he,λT q=> ?_⟩
 rcases p.tr T q with z|z|z|z
 .obtain⟨o,vs,q1,q2⟩:=p.rcd T q;exact absurd q2 (hf T z o q1 vs)
 .rw[z];exact n.he
 .exact n.ht T z
 .cases r:g.get? T with
  | none=>rfl
  | some o=>obtain⟨o',q'⟩:=gh T o r;rw[z]at q';cases q'
theorem sU {fs:List Addr}{e:Addr}(n:aI2 g e h)(p:aD9 fs e h h')(gh: ∀b o,g.get? b=some o-> ∃o',h.get? b=some o')(hf: ∀b∈fs,∀o,h.get? b=some o-> ∀vs,o.data≠ .fields vs): ∀b o,g.get? b=some o-> ∃o',h'.get? b=some o':=λb o q=>by
 obtain⟨o',q'⟩:=gh b o q
 by_cases c:b∈fs
 .obtain⟨sl,z⟩:=p.slot b o' q' (hf b c o' q');exact⟨_,z⟩
 .exact⟨o',p.keep b o' q' c (λz=>by rw[z,n.he]at q;cases q) λz=>by rw[n.ht b z]at q;cases q⟩
theorem aU3 {l:List Env}(f:h.FunFrames base l): ∀b∈frs l,∀o,h.get? b=some o-> ∀vs,o.data≠ .fields vs:=λb hb o q=>by
 obtain⟨_,o',q',n⟩:=f.mem hb;rw[q]at q';cases q';exact n
def qQ (CX:CXT)(X:Cx)(E:XK)(pins:List (Addr×Obj))(σ:St):Prop:= ∀(H:Hp) (s:Shared) (e:Value) (s':Shared),Inv X pins σ H s->CX X.stack H s E e s'->X.xe e s'
def p6 (K:PySem.W.Frag)(R C:Addr)(bmB:List Value)(newId:String):Prop:=(excIn K C bmB newId=true\/ ∃fI,aI3 K C fI bmB newId=true)/\ ∃cd,PySem.W.clsIn K C=some cd/\cd.mro.contains (.ref R)=true
def a96 (K:PySem.W.Frag)(R C:Addr)(bmB:List Value)(newId:String)(b:Bool):Prop:=(excIn K C bmB newId=true\/ ∃fI,aI3 K C fI bmB newId=true)/\ ∃cd,PySem.W.clsIn K C=some cd/\cd.mro.contains (.ref R)=b
theorem bO3 {N:Addr}{bm:List Value}{cd:ClassData}(X:K.In h)
  (o:XO h C N bm newId) (hc:PySem.W.clsIn K C=some cd):cd.mro=Value.ref C::bm:=by
 cases o with|mk _ _ _ _ _ _ _ _ _ _ _ _ _ _ hC;unfold PySem.W.clsIn at hc;split at hc
 .rename_i look
  have same:=X _ _ look;rw[hC]at same;cases hc
  injection same with same
  injection same with _ _ same _
  injection same with same
  rw[<-same]
 .cases hc
theorem underB {b:Bool}(X:K.In h)(u:a96 K R C bmB newId b): ∃N bm,XO h C N bm newId/\(Value.ref C::bm).contains (.ref R)=b:=by
 obtain⟨a,cd,hc,hr⟩:=u;rcases a with a| ⟨fI,a⟩
 .obtain⟨bm,N,_,o,_⟩:=aN4 X a;exact⟨N,bm,o,by rw[<-bO3 X o hc];exact hr⟩
 .obtain⟨bm,N,_,o,_⟩:=aU2 X a;exact⟨N,bm,o,by rw[<-bO3 X o hc];exact hr⟩
end L2
namespace M
section
variable {X:Cx}{e:Expr}{es:List Expr}{pos:Pos}{te:UE}{K:PySem.W.Frag}{A:AS}{H:Hp}
theorem aV.field {f:Str}{d:D}: ∀{ks:List Str} {l:List D} {vs:List V},aV K A H l vs->(ks.zip l).lookup f=some d-> ∃v,(ks.zip vs).lookup f=some v/\Rep K A H d v/\f∈ks
 | [],_,_,_,h=>by simp at h
 | _::_,[],_,_,h=>by simp at h
 | q::ks,a::l,vs,r,h=>by
  obtain⟨v,vr,rfl,r1,r2⟩:=r.uncons;rw[List.zip_cons_cons,cF]at h;rw[List.zip_cons_cons,cF];cases c:f==q with
  | true=>
   rw[c]at h;cases h;exact⟨v,rfl,r1,by rw[jL.mp c];simp⟩
  | false=>
   rw[c]at h;obtain⟨w,h1,h2,h3⟩:=aV.field r2 h;exact⟨w,h1,h2,aU _ h3⟩
end
section
variable {P:Program}{w:World}{K:PySem.W.Frag}{mg:Str->Option Value}{base:Heap}
theorem zS {cd:ClassData}(h:excIn K C bmB newId=true\/ ∃fI,aI3 K C fI bmB newId=true)(hc:PySem.W.clsIn K C=some cd)(hm:cd.mro.contains (.ref R)=true):p6 K R C bmB newId:=⟨h,cd,hc,hm⟩
theorem Fn.mkA {ps:List Str}(F:Fun K y qual st f fd)(m:mg x=some (.ref f))(b:Binds K fd ps [])(S:bN N ps (aI st))
  (len: ∀ds Q,φ ds Q->ds.length=ps.length) {t:US}
  (der: ∀(cdv:Value) (A:Around) (outer:List Env) (s:Shared) (H:Hp) (E:XK),gR k (A.deeper<|envOfC qual (aI st) s.heap.objs.size f cdv)->mP (sM CX0 P w K mg base N qual (aI st) f cdv A outer s H E).nox (eY st) t)
  (rd: ∀ds Q,φ ds Q->t {Q with} (init N ds)):Fn<$>x ps (k+1) φ:=
 ⟨f,fd,aM0 F S len λcdv A outer s H E hr=>⟨t,der cdv A outer s H E hr,rd⟩,b,F.kp,m⟩
end
end M
end
section
namespace L2
open PySem PySem.Spec PySem.W PySem.Calls PyProof.Rows Builtin Builtin.ObjectAttr Builtin.Getset_descriptor
section
variable {prog:Program}{w:World}{A:Around}{E:Value->Shared->Prop}{s:Shared}{K:Frag}{x D:Addr}{ox:Obj}{a g:Value}{name:Str}
theorem b71 {M:Model}(hx:h.get? x=some ox)(hc:ox.cls= .ref D):Looks M h (typeOf<|.ref x) (.ref D):=by
 rw[<-hc];exact(Looks.ld hx).andThen .now
theorem c13 {M:Model}(X:K.In h)(ha:findIn K (.ref D) name=some (some a))(hg:specialIn K a "__get__"=some (some g))(ht:takesIn K a=some true):Looks M h (find (.ref x) (.ref D) name) (.bind g a):=by
 have u3:Looks M h (dataDescriptor? (some a)<|some g) (some (g,a)):=(looks_takesIn X ht).andThen .now;have u2:Looks M h (getOf<|some a) (some g):=looks_specialIn X hg;exact(looks_findIn X ha).andThen (u2.andThen<|u3.andThen<|Looks.tag .now)
theorem c14 {Q:Option Value->Shared->Prop}(X:K.In s.heap)(hx:s.heap.get? x=some ox)(hc:ox.cls= .ref D)(hg:findIn K (.ref D) "__getattribute__"=some (some<|.builtin "BaseException.__getattribute__"))(hh:findIn K (.ref D) "__getattr__"=some none)(ha:findIn K (.ref D) "__class__"=some (some<|.builtin "object.__class__"))
  (hn:specialIn K (.builtin "object.__class__") "__get__"=some (some<|.builtin "getset_descriptor.__get__")) (ht:takesIn K (.builtin "object.__class__")=some true) (hm:mroIn K D (.type "object")=some true) (hb:mroIn K D (.type "BaseException")=some true) (h:Q (some<|.ref D) {s with toks:=s.toks+1}) :
  wpAny (model prog w) A (getAttr? (.ref x) "__class__") Q E s:=by
 obtain⟨hp,gn,dr,tn,os⟩:=s;have v0:=b71 (M:=model prog w) hx hc;have v1:=looks_findIn (M:=model prog w) X hg;have v2:=c13 (M:=model prog w) (x:=x) X ha hn ht;have v3:=looks_findIn (M:=model prog w) X hh;have v4:=looks_mroIn (M:=model prog w) X hm;have v5:=looks_mroIn (M:=model prog w) X hb
 have v6:Looks (model prog w) hp (bindSpecial (.builtin "BaseException.__getattribute__")<|.ref x) (.builtin "BaseException.__getattribute__",[.ref x]):=Looks.of_pure (PySem.F.excAttr_ValueError.ga.bind<|.ref x);unfold getAttr? getAttrBy?;unfold getAttrBy;refine a6 (wpAny_mkText<|a6<|gN<|cC<|a6<|v0.at<|a6<|v1.at ?_);show wpAny _ _ (getAttrByItsOwn _ _ _ _ _ _) _ _ _
 unfold getAttrByItsOwn hookBefore;refine a6 (v3.at<|a6<|gN<|cC ?_);show wpAny _ _ (boundAndCalled _ _ _) _ _ _;unfold boundAndCalled;refine a6 (v6.at ?_);have bk:builtinKind "BaseException.__getattribute__"=some .slot:=af
 have hsp:splitId "BaseException.__getattribute__"=some ("BaseException","__getattribute__"):=af
 have har:=F.args_bexc_ga (.ref x) (.str "__class__" tn);refine wpAny_call (wO PySem.F.excAttr_ValueError.ga.plain F.entry_bexc_ga ?_);simp only[checkBuiltinCall,bk,hsp];refine a6 ?_;unfold isInstance;have w1:=looks_findIn (M:=model prog w) X ha;have w2:Looks (model prog w) hp (getOf<|some<|.builtin "object.__class__") (some<|.builtin "getset_descriptor.__get__"):=looks_specialIn X hn
 have w3:Looks (model prog w) hp (dataDescriptor? (some<|.builtin "object.__class__")<|some<|.builtin "getset_descriptor.__get__") (some (.builtin "getset_descriptor.__get__",.builtin "object.__class__")):=(looks_takesIn X ht).andThen .now
 repeat (any_goals (first|assumption|with_reducible refine v0.at ?_|with_reducible refine v5.at ?_|with_reducible refine w1.at ?_|with_reducible refine w2.at ?_|with_reducible refine w3.at ?_|wp_step))
 refine wO KF.slot_gs.plain KF.entry_gs ?_
 refine KF.slot_gs.check _ _ _ _ _ _ _ _ KF.type_class (KF.args_gs _ _ _) ?_
 unfold Builtin.«getset_descriptor.__get__»; unfold descrGet;rw[dga_obj];refine a6 ?_;refine aA ?_;unfold descrGetter;unfold descrCheckInstance descrNameAndClass;unfold isInstance;simp only[KF.owner_class]
 repeat lk
 refine⟨Code.quiet_builtin _ af,?_⟩
 refine iD KF.entry_class ?_
 unfold Builtin.«object.__class__»; unfold shownTypeOf
 repeat lk
 repeat (first|exact h|wp_step)
structure bO4 (K:Frag)(C:Addr):Prop where
 ci:(clsIn K C).isSome=true
 ga:findIn K (.ref C) "__getattribute__"=some (some<|.builtin "BaseException.__getattribute__")
 gh:findIn K (.ref C) "__getattr__"=some none
 ha:findIn K (.ref C) "__class__"=some (some<|.builtin "object.__class__")
 hn:specialIn K (.builtin "object.__class__") "__get__"=some (some<|.builtin "getset_descriptor.__get__")
 tk:takesIn K (.builtin "object.__class__")=some true
 hm:mroIn K C (.type "object")=some true
 hb:mroIn K C (.type "BaseException")=some true
theorem bO5 (k:bO4 K C):KitX K (.ref x) (.ref C) (λh=> ∃o,h.get? x=some o/\o.cls= .ref C) where
 ty:=λ_ _ _ ⟨_,h1,h2⟩=>b71 h1 h2
 it:=λM h X _=>by
  obtain⟨cd,e⟩:=rE.mp k.ci;unfold clsIn at e;split at e
  .rename_i look
   intro A' Q' E' s' keep q;unfold isType loadHead;exact a6 (wpAny_loadPart (keep _ _<|X _ _ look)<|aA q)
  .cases e
 ne:=λh tp dd its n sl X at_=>by
  obtain⟨cd,e⟩:=rE.mp k.ci;rw[Bool.eq_false_iff];intro q;cases (jL.mp q:Value.ref C= .ref tp);unfold clsIn at e;split at e
  .rename_i look
   cases (X _ _ look).symm.trans at_
  .cases e
 ca:=λX ⟨_,h1,h2⟩ q=>c14 X h1 h2 k.ga k.gh k.ha k.hn k.tk k.hm k.hb q
end
end L2
namespace M
def XD (a:Addr)(oe:Obj)(x:D):Prop:=x= .adr a\/ ∃d ks l,x= .xob a d ks l/\oe.dict=some d/\ ∀c,oe.data≠ .cls c
theorem XD.rep {A:AS}{H:Hp}{x:D}{v:V}(h:XD a oe x)(r:Rep K A H x v):v= .ref a:=by
 rcases h with rfl| ⟨d,ks,l,rfl,_⟩
 .simpa only[Rep]using r
 .simp only[Rep]at r;obtain⟨vs,e,_⟩:=r;exact e
def gIs (x d:D)(b:Bool):List D->(B->Prop)->Prop:=λds Q=>ds=[x,d]/\Q (.pu<|.bl b)
def clsV:D->Option (V×Value)
 | .adr R=>some (.ref R,.ref R)
 | .ty T=>some (.ty T,.type T)
 | _=>none
section
variable {X:Cx}{a C:Addr}{oe:Obj}{e0 d:D}{v:V}{u:Value}{b:Bool}
theorem cu_is (k:bO4 X.K C)(hp:(a,oe)∈X.pn)(hc:oe.cls= .ref C)(h0:XD a oe e0)(hd:clsV d=some (v,u))(e:kitOne X.K (.ref C) u=some b):tG X (.builtin "isinstance") (gIs e0 d b):=by
 intro A H ds vs Q0 Q hA r ⟨g1,g2⟩ q;subst g1;obtain⟨x,vr,rfl,r1,r2⟩:=r.uncons;obtain⟨y,vr2,rfl,r3,r4⟩:=r2.uncons;cases r4.unnil;have ex:x= .ref a:=h0.rep r1;have ey:y=v/\ ∀z,RelV v z->z=u:=by
  cases d with
  | adr R=>cases hd;exact⟨by simpa only[Rep]using r3,λz h=>h⟩
  | ty T=>cases hd;exact⟨by simpa only[Rep]using r3,λz h=>h⟩
  | _=>cases hd
 obtain⟨rfl,ey⟩:=ey;subst ex;refine⟨λxs H Q=>xs=[.ref a,y]/\Q (.bl b) H,?_,rfl,q _ _ H g2 (.refl _) iH⟩
 rintro pins s σ H' xs us Q' I rv ⟨rfl,hq⟩;obtain⟨w1,w2,rfl,q1,q2⟩:=vals2 rv;obtain rfl:w1=Value.ref a:=q1;obtain rfl:=ey _ q2;have pin:=I.pin (a,oe) (bH.mpr<|.inl hp);exact PySem.W.kia_one (bO5 k) I.kIn ⟨_,pin.1,hc⟩ e (λz=>nomatch z) λtk=>⟨.bl b,H',I.tok _,rfl,hq⟩
end
end M
end
section
namespace L2
section
variable {X:Cx}{pins:List (Addr×Obj)}{σ:St}{H:Hp}{s:Shared}
theorem a61 {M:Model}{Q:Unit->Shared->Prop}(I:Inv X pins σ H s)(hN:X.N.Nodup)(hi:X.N[i]? =some y)(hy:X.env.scope.names.lookup y=some .local)
  (h: ∀s',Inv X pins (σ.set i none) H s'->Q () s'):wpAny M A (do bindName X.env y .none;unbindBehindTheSuite X.env y pos) Q E s:=by
 obtain⟨m,hn,hl⟩:=id I.loc;have lt: ∀{b:Addr} {o:Obj},X.s₀.heap.get? b=some o->b≠X.env.locals:=λe=>aO (b7 (aH e) I.ok.above)
 have iσ:i<σ.length:=by rw[I.len];exact(dN.mp hi).1
 refine wpAny_nameGoes_keeps hy hn (by rw[I.ok.kind];rfl) λh' v hn' hs=>h _ ⟨I.ok,I.os,I.bare,⟨λb o e n hb hx=>(hs.2 b<|lt e).trans (I.base.keep b o e n hb hx),λb o e n hb hx=> ?_,I.base.free,λb o e hx=> ?_,I.base.tups,I.base.frzs,I.base.tbls⟩,⟨_,hn',λj z v' e1 e2 e3=> ?_⟩,λz c e=> ?_,I.free,I.freeC,λp hp=> ?_,λb ob e=> ?_,by exists I.len⟩
 .obtain⟨sl,e1⟩:=I.base.slot b o e n hb hx;exact⟨sl,(hs.2 b<|lt e).trans e1⟩
 .obtain⟨o',e1⟩:=I.base.there b o e hx;exact⟨o',(hs.2 b<|lt e).trans e1⟩
 .by_cases hj:j=i
  .subst hj;rw[rH iσ]at e2;cases e2
  .rw[kI<|Ne.symm hj]at e2;obtain⟨u',r',q⟩:=hl j z v' e1 e2 e3;refine⟨u',r',?_⟩;rcases q with⟨k,e⟩| ⟨k,c,e,t⟩
   .have ne:z≠y:=λe=>hj (a67 hN e1<|e▸hi)
    exact .inl ⟨k,by simp[ne,e]⟩
   .exact .inr ⟨k,c,e,t.sameBut hs<|I.cne z c e⟩
 .obtain⟨w',t⟩:=I.cell z c e;exact⟨w',t.sameBut hs<|I.cne z c e⟩
 .obtain⟨e,n,ne,nf,d⟩:=I.pin p hp;exact⟨(hs.2 p.1 ne).trans e,n,ne,nf,d⟩
 .refine(I.hok b ob e).stay (λc w' hc q=>(hs.2 c ?_).trans q) (λ_ q=>q) λ_ _ q=>q
  intro z;subst z;have fr:=I.free;rcases hc with hc|hc
  .subst hc;rw[fr]at e;cases e
  .rw[fr]at hc;cases hc
theorem p6.b (u:p6 K R C bmB newId):a96 K R C bmB newId true:=u
def XOk (K:PySem.W.Frag)(C:Addr)(bmB:List Value)(newId:String):Prop:=excIn K C bmB newId=true\/ ∃fI,aI3 K C fI bmB newId=true
theorem xok_of (X:K.In h)(a:XOk K C bmB newId): ∃N bm,XO h C N bm newId/\OwnTail h bmB bm:=by
 rcases a with a| ⟨fI,a⟩
 .obtain⟨bm,N,_,o,_,_,tl⟩:=aN4 X a;exact⟨N,bm,o,tl⟩
 .obtain⟨bm,N,_,o,_,_,tl⟩:=aU2 X a;exact⟨N,bm,o,tl⟩
theorem b72 {M:Model}{A:Around}{E:Value->Shared->Prop}{s:Shared}{e C R:Addr}{oe:Obj}{Q:Bool->Shared->Prop}{b:Bool}{K:PySem.W.Frag}{B newId initId:String}{bmB:List Value}(FB:ExcBaseFacts B newId initId bmB)(X:K.In s.heap)(u:a96 K R C bmB newId b)(hR:XOk K R bmB newId)
  (he:s.heap.get? e=some oe) (hcl:oe.cls= .ref C) (hq:Q b s):wpAny M A (excMatches (.ref e)<|.ref R) Q E s:=by
 obtain⟨N,bm,⟨_,_,_,_,_,_,_,_,_,_,_,_,_,_,hC⟩,hin⟩:=underB X u;obtain⟨_,bm',⟨_,_,_,_,_,_,_,_,_,_,_,_,_,_,hRo⟩,tl'⟩:=xok_of X hR;have hb:=tl'.hasType FB.hasBase;obtain⟨hp,gn,dr,tn,os⟩:=s;have t1:(Value.ref R::bm').contains (.type "BaseException")=true:=by rw[List.contains_cons,hb,Bool.or_true]
 have t2:=tc_notTuple;unfold excMatches
 repeat (first
  | (with_reducible refine wpAny_loadPart_at he ?_;rw[hcl])
  | with_reducible refine wpAny_loadPart_at hRo ?_
  | (with_reducible refine wpAny_isSubtype_exc hRo ?_;rw[t1])
  | (with_reducible refine wpAny_isSubtype_exc hC ?_;rw[hin])
  | wp_step)
 cases b with
 | true=>repeat (first|exact hq|wp_step)
 | false=>repeat (first|exact hq|wp_step)
end
section
variable {X:Cx}
noncomputable abbrev Cx.asX (X:Cx)(a:Addr)(oe:Obj):Cx:={X.inX a with pn:=(a,oe)::X.pn}
def aN6 (i:Nat)(D:zE):zE:={D with nx:=λσ H=>D.nx (σ.set i none) H,bk:=λσ H=>D.bk (σ.set i none) H,ct:=λσ H=>D.ct (σ.set i none) H}
end
section
variable {X:Cx}{CX:CXT}{k:Nat}{f:Addr}{fd:FuncData}{ps:List Str}{sp:Sp}{E:XK}{x:Str}{p pos:Pos}{e:Expr}{es:List Expr}{t:TA}
theorem c15 {pins:List (Addr×Obj)}{σ:St}{H:Hp}{s:Shared}{Q:VK}(F:pL X.prog X.w X.K X.mg X.base CX k f fd ps sp)(hr:gR k X.A)(hg:Gl X x)(hm:X.mg x=some (.ref f))(hk:keepIn X.K (.ref f)=true)(hb:Binds X.K fd ps [])(hx:qQ CX X E pins σ)
  (ha:PA X (e::es) t) (I:Inv X pins σ H s) (h:b51 sp [] E t σ H Q) (hdb:x∪0) (he:starEach (e::es) X.env=(false,eval e X.env)::starEach es X.env) (hpl:(backTo pos<|starEach es X.env).any (·.1)=false) :
  X∩(eval (.Call (.Name x p) (e::es) [] pos) X.env) (EP X pins σ Q) X.xe s:=by
 refine kM (sK I hg hm ?_ hdb)
 refine PySem.W.callWith_K (h₀:=X.base) I.ok.mod.kin hk (thn (ha pos pins s σ H _ I h) λus s1 ⟨vs,H1,I1,r,q⟩=>⟨I1.kIn,?_⟩) he hpl
 have r2:Vals (vs++[]) (us++[]):=r.append .nil;have hl:(us++[]).length=ps.length:=by rw[<-r2.length];exact F.len _ _ _ _ q
 refine wpAny_call (kU (F.run X.A X.stack s1 H1 ⟨us,[]⟩ (us++[]) (vs++[]) Q E hr I1.env0 (hb s1 us I1.kIn hl) r2 q) λr s' hq=> ?_)
 cases r with
 | error e=>exact hx H1 s1 e s' I1 hq
 | ok fl=>
  cases fl with
  | ret u=>exact I1.after hq
  | next=>exact False.elim hq
  | brk=>exact False.elim hq
  | cont=>exact False.elim hq
end
end L2
namespace M
abbrev USY:=(Str->List D->Ev->Prop)->US
def lSY (K:PySem.W.Frag)(mg:Str->Option Value)(E:XK)(t:USY):TS:=λD σ H=> ∃C ρ D0 Ex,EOk K C ρ σ H/\t Ex D0 ρ/\DOk K C D0 D/\ ∀n Cl es o ρ1 H',Ex n es ρ1->mg n=some (.ref Cl)->EOk K C ρ1 σ H'->XR K (Av C ρ1 σ) H' n es o->E (.ref Cl) o H'
def PUY (X:Cx)(body:List Stmt)(t:USY):Prop:= ∀(xe:Value->Shared->Prop) (E:XK) (pins:List (Addr×Obj)) (s:Shared) (σ:L2.St) (H:Hp) (D:zE),Inv (X.wish xe) pins σ H s->qQ (CXr X.prog X.w X.base) (X.wish xe) E pins σ->lSY X.K X.mg E t D σ H->X∩(execs body X.env) (SP (X.wish xe) pins D) xe s
def aN7 (φ:ΦX)(t:UA)(Ex:Str->List D->Ev->Prop):UE:=λρ Q=>t ρ λds ρ1=>φ ds (λb=>Q b ρ1) λn es=>Ex n es ρ1
section
variable {X:Cx}{e c:Expr}{es:List Expr}{a b:List Stmt}{pos:Pos}{t u:USY}{tc:UT}{K:PySem.W.Frag}{C:C0}{ρ:Ev}{σ:L2.St}{H:Hp}
theorem b73 {ps:List Str}{φ:ΦX}{t:UA}(F:FnX X.prog X.w X.K X.mg X.base x ps k φ)(hr:gR k' X.A)(hk:k<=k')(hg:Gl X x)(ha: ∀xe,PUA (X.wish xe) (e::es) t)(hdb:⇑(x∪0))
  (he:↥(starEach (e::es) X.env=(false,eval e X.env)::starEach es X.env)) (hpl:↥((backTo cpos<|starEach es X.env).any (·.1)=false)) (hs:↥(swapsWith (.Call (.Name x p) (e::es) [] cpos) none pos.line X.env=pure false)) :
  PUY X [.Expr (.Call (.Name x p) (e::es) [] cpos) pos] (λEx=>b67 (aN7 φ t Ex)):=by
 rintro xe E pins s σ H D I pa ⟨C,ρ,D0,Ex,I0,h,k,kx⟩;obtain⟨f,fd,G,b,kp,m⟩:=F.ex;refine x8 (wpAny_Expr_any (thn (c15 (X:=X.wish xe) (Q:=λ_ H1=>D.nx σ H1) G (hr.mono hk) hg m kp b pa (ha xe) I ⟨C,ρ,_,I0,h,λds ρ1 vs H1 q f s r=> ?_⟩ hdb he hpl) λv s1 ⟨_,H1,I1,_,q1⟩=>jE ⟨σ,H1,I1,q1⟩) I.quiet hs)
 have I1:=(I0.frz f).same s;show spX X.K X.mg φ (vs++[]) H1 _ E;rw[iB];exact⟨Av C ρ1 σ,ds,_,_,λa z=>I1.avSome z,r,q,λb v H' q' s' r'=>k.nx _ _ _ q' (I1.same s'),λn Cl es o H' ex hm s' xr=>kx n Cl es o ρ1 H' ex hm (I1.same s') xr⟩
theorem EOk.gone (I:EOk K C ρ σ H)(i:Nat):EOk K C (ρ.set i none) (σ.set i none) H:=by
 have at_: ∀{j:Nat} {b:B},(ρ.set i none)[j]? =some (some b)->j≠i/\ρ[j]? =some (some b):=λ{j b} e=>by
  by_cases c:j=i
  .subst c
   by_cases l:j<ρ.length
   .rw[rH l]at e;cases e
   .rw[eK (by rw[cS];omega)]at e;cases e
  .rw[kI<|Ne.symm c]at e;exact⟨c,e⟩
 have own: ∀a,Av C (ρ.set i none) (σ.set i none) a->Av C ρ σ a:=λa z=>by
  rcases z with z| ⟨j,l,e1,e2⟩
  .exact .inl z
  .obtain⟨n,e1⟩:=at_ e1;rw[kI<|Ne.symm n]at e2;exact .inr ⟨j,l,e1,e2⟩
 have pr:jS (Av C ρ σ) H (Av C (ρ.set i none)<|σ.set i none) H:=λb o n q=>⟨λz=>n (own b z),q⟩
 have sg: ∀{j:Nat},j≠i->(σ.set i none)[j]? =σ[j]? :=λn=>kI (Ne.symm n)
 refine⟨by simpa using I.len,λj d e=> ?_,λj l e=> ?_,λj j' l l' a e1 e2 e3 e4=> ?_,λj l e=> ?_,I.ext,I.a0⟩
 .obtain⟨n,e⟩:=at_ e;obtain⟨v,e1,r⟩:=I.pu j d e;exact⟨v,by rw[sg n];exact e1,r.mono pr⟩
 .obtain⟨n,e⟩:=at_ e;obtain⟨a,vs,e1,e2,e3,r⟩:=I.ow j l e;exact⟨a,vs,by rw[sg n];exact e1,e2,e3,r.mono pr⟩
 .obtain⟨n1,e1⟩:=at_ e1;obtain⟨n2,e2⟩:=at_ e2;rw[sg n1]at e3;rw[sg n2]at e4;exact I.inj j j' l l' a e1 e2 e3 e4
 .obtain⟨n,e⟩:=at_ e;obtain⟨a,vs,e1,e2,e3,r⟩:=I.bo j l e;exact⟨a,vs,by rw[sg n];exact e1,e2,e3,r.mono pr⟩
def aI4 (i:Nat)(E:UD):UD:={E with nx:=λρ=>E.nx (ρ.set i none),bk:=λρ=>E.bk (ρ.set i none),ct:=λρ=>E.ct (ρ.set i none)}
def mkX (n:Str)(mk:Addr->Addr->List D->D):Prop:=(vM n=[]/\mk=λa _ _=> .adr a)\/(vM n≠[]/\mk=λa d es=> .xob a d (vM n) es)
theorem aE0:bootBuiltins "ValueError"=some (.type "ValueError"):=af
def bO6 (x:D)(i:Nat)(b:Bool):UE:=λρ Q=>ρ[i]? =some (some<|.pu x)/\Q (.pu<|.bl b) ρ
theorem bO7 {r:Str}(hg:Gl X r)(hm:X.mg r=some (.ref R))(hd:⇑(r∪0)):PU X (.Name r p) (uC<|.adr R):=aL1 (b48 (v:= .ref R) hg hm rfl hd) λA H=>by simp only[Rep]
theorem b20 {x:Addr}{e0:D}{C:Addr}{d:D}{v:V}{w:Value}{o:Bool}{r:Str}{pr:Pos}(i:Nat)(k:bO4 X.K C)(hp:(x,oe)∈X.pn)(hc:oe.cls= .ref C)(h0:XD x oe e0)(hy:PE X (.Name y py) (a34 i))(hr:PU X (.Name r pr) (uC d))(hv:clsV d=some (v,w))(hk:kitOne X.K (.ref C) w=some o)
  (hg:Gl X "isinstance") (hm:X.mg "isinstance"=none) (he:↥(starEach [.Name y py,.Name r pr] X.env=(false,eval (.Name y py) X.env)::starEach [.Name r pr] X.env)) (he2:↥(starEach [.Name r pr] X.env=(false,eval (.Name r pr) X.env)::starEach [] X.env)) (hpl:↥((backTo pos<|starEach [.Name r pr] X.env).any (·.1)=false)) :
  PU X (.Call (.Name "isinstance" p) [.Name y py,.Name r pr] [] pos) (bO6 e0 i o):=
 fE (eH (cu_is k hp hc h0 hv hk) hg hm boot_isinstance (aF (mO i hy) (aF hr aB he2) he) ac ac he hpl) λσ H Q ⟨C0,ρ,Q0,I,⟨h1,h2⟩,kk⟩=>⟨C0,ρ,Q0,I,by
  simp only[aX,a9,aD,aF7,h1,uC,aP,B.d]
  first|exact⟨rfl,h2⟩|exact⟨trivial,h2⟩,kk⟩
end
end M
end
section
namespace L2
section
variable {X:Cx}
def tTryN (C1:Addr)(i:Nat)(tb:XK->TS)(th1:Addr->Option Addr->TS):TS:=λD σ H=> ∃E,tb E D σ H/\ ∀C o H',E (.ref C) o H'->C=C1/\ ∀a,th1 a o (aN6 i D) (σ.set i<|some<|.ref a) H'
theorem c16 {body:List Stmt}{b0:Stmt}{suite1:List Stmt}{hrest:List ExceptHandler}{r1 y:Str}{rp1 hp1 pos:Pos}{C1 R1:Addr}{B newId initId:String}{bmB:List Value}{tb:XK->TS}{th1:Addr->Option Addr->TS}{i:Nat}(FB:ExcBaseFacts B newId initId bmB)(hstk:X.stack=X.env::X.outer)(hfr:X.env.frame=some X.env.locals)(hex:X.ex=[])(hc:X.calm=true)
  (hbody: ∀(xe:Value->Shared->Prop) (E:XK) (pins:List (Addr×Obj)) (s:Shared) (σ:St) (H:Hp) (D:zE),Inv (X.wish xe) pins σ H s->qQ (CXr X.prog X.w X.base) (X.wish xe) E pins σ->tb E D σ H->X∩(execs body X.env) (SP (X.wish xe) pins D) xe s)
  (hs1: ∀a oe o,oe.cls= .ref C1->(∀d,o=some d->oe.dict=some d)->(∀c,oe.data≠ .cls c)->PSs (X.asX a oe) (b0::suite1) (th1 a o)) (hg1:Gl X r1) (hm1:X.mg r1=some (.ref R1)) (hR1:XOk X.K R1 bmB newId)
  (hu:a96 X.K R1 C1 bmB newId true) (hN:X.N.Nodup) (hi:X.N[i]? =some y) (hy:X.env.scope.names.lookup y=some .local) (hd1:⇑(r1∪0)) :
  PS X (.Try body (.ExceptHandler (some<|.Name r1 rp1) (some y) (b0::suite1) hp1::hrest) [] [] pos) (tTryN C1 i tb th1):=by
 rintro pins s σ H D I ⟨E,hb,hx⟩;refine wpAny_Try_except ?_
 have goX:qQ (CXr X.prog X.w X.base) (X.wish λe s1=>X∩(noteFrame e X.env) (λ_ s2=>X∩(setFlight e none) (λ_ s3=>X∩(handleBy e X.env (.ExceptHandler (some<|.Name r1 rp1) (some y) (b0::suite1) hp1::hrest)) (SP X pins D) X.xe s3) X.xe s2) X.xe s1) E pins σ:=by
  rintro H1 s1 e s' J ⟨a,C,o',H',rfl,ho,hbr,un,hok,⟨⟨a0,fl⟩,fe,ft⟩,nw,xa,hE⟩;have J0:=J.unwish;have J1:Inv X pins σ H' s':=J0.call' ho un hok hbr (λb z=>absurd z ae)
  have fl':FlyingW X.base X.stack a (.ref C) a0 s'.heap:=fl;have frs':=J1.ok.frames;have g0: ∀b o,s1.heap.get? b=some o-> ∃o',s'.heap.get? b=some o':=λb o q=>un.there b o q ae
  have gs: ∀b o,X.s₀.heap.get? b=some o-> ∃o',s1.heap.get? b=some o':=λb o q=>J0.base.there b o q (by rw[hex];simp)
  have gp: ∀q∈X.pn++pins,∃o',s1.heap.get? q.1=some o':=λq hq=>⟨_,(J0.pin q hq).1⟩
  show wpAny _ _ (noteFrame (.ref a) X.env) _ _ s'
  rw[hstk]at fl' frs';refine aU0 frs' hfr fl' λh2 held p2=> ?_
  rw[<-hstk]at p2 held fl';have J2:=J1.past (g:=s1.heap) p2 hstk hfr hex gs gp nw.he nw.ht fe ft;have n2:=nw.past p2 g0 (aU3 held.2.2.1);have g2:=sU nw p2 g0 (aU3 fl'.2.2.1);have t2:=vA J1.hok p2 J1.stkFree fe ft;refine yJ held λh3 fl3 p3=> ?_
  have J3:=J2.past (g:=s1.heap) p3 hstk hfr hex gs gp n2.he n2.ht fe t2;have n3:=n2.past p3 g2 (aU3 fl3.2.2.1);have g3:=sU n2 p3 g2 (aU3 held.2.2.1);have t3:=vA J2.hok p3 J2.stkFree fe t2;obtain⟨oe,he,hcl⟩:=fl3.there;obtain⟨rfl,hth⟩:=hx C o' H' hE
  .refine wpAny_handleBy_cons (codeAny_handlers_test<|sK (X:=X.inX a) (J3.inX a) hg1 hm1 ?_ hd1) (by intro q;cases q)
   refine b72 FB J3.kIn hu hR1 he hcl ?_
   refine codeAny_handlers_suite_as (yJ fl3 λh4 fl4 p4=> ?_)
   have J4:=J3.past (g:=s1.heap) p4 hstk hfr hex gs gp n3.he n3.ht fe t3;obtain⟨oe4,he4,hcl4⟩:=fl4.there;have xa4: ∀d,o'=some d->oe4.dict=some d:=λd q=>by
    obtain⟨o5,e1,e2⟩:=((xa.dk p2.dk).dk p3.dk).dk p4.dk d q;rw[he4]at e1;cases e1;exact e2
   have nc4: ∀c,oe4.data≠ .cls c:=λc z=>by
    obtain⟨_,_,_,oe5,vs5,_,_,_,he5,_,hd5,_⟩:=fl4;rw[he5]at he4;cases he4;rw[hd5]at z;cases z
   have notF:a ∉ frs X.stack:=λz=>by
    obtain⟨_,o',q',n⟩:=fl4.2.2.1.mem (b:=a) z;obtain⟨_,_,_,oe5,vs5,_,_,_,he5,_,hd5,_⟩:=fl4;rw[he5]at q';cases q';exact n vs5 hd5
   have hin: ∀b,b∈frs X.stack↔b=X.env.locals\/b∈X.fs:=λb=>by
    rw[hstk];unfold Cx.fs frs;rw[i7,hfr];exact aG
   have J5:Inv (X.asX a oe4) pins σ H' {s' with heap:=h4}:=by
    have K4:=J4.inX a;refine⟨⟨K4.ok.mod,K4.ok.kind,K4.ok.glob,K4.ok.blt,K4.ok.above,K4.ok.inj,K4.ok.has,K4.ok.cab,K4.ok.hd,K4.ok.frames,K4.ok.stk,K4.ok.exf,K4.ok.bs,K4.ok.bsz,K4.ok.noex,K4.ok.exfs,K4.ok.funs,K4.ok.frf⟩,K4.os,K4.bare,K4.base,K4.loc,K4.cell,K4.free,K4.freeC,λp hp=> ?_,K4.hok,K4.len⟩
    rcases aG.mp (show p∈(a,oe4)::(X.pn++pins)from hp)with rfl|hp
    .refine⟨he4,fe,λz=>notF ((hin a).mpr<|.inl z),λz=>notF ((hin a).mpr<|.inr z),λv z=> ?_⟩
     obtain⟨_,_,_,oe5,vs5,_,_,_,he5,_,hd5,_⟩:=fl4;rw[he5]at he4;cases he4;rw[hd5]at z;cases z
    .exact K4.pin p hp
   refine y3 (X:=X.asX a oe4) J5 hN hi (.inl hy) (show RelV (.ref a) (.ref a)from rfl) (λs6 J6=> ?_) (.inr hy)
   have out: ∀{σ':St} {H2:Hp} {s7:Shared},Inv (X.asX a oe4) pins σ' H2 s7->Inv X pins σ' H2 s7:=λz=>
    Inv.outX (e:=a) ⟨⟨z.ok.mod,z.ok.kind,z.ok.glob,z.ok.blt,z.ok.above,z.ok.inj,z.ok.has,z.ok.cab,z.ok.hd,z.ok.frames,z.ok.stk,z.ok.exf,z.ok.bs,z.ok.bsz,z.ok.noex,z.ok.exfs,z.ok.funs,z.ok.frf⟩,z.os,z.bare,z.base,z.loc,z.cell,z.free,z.freeC,λp hp=>z.pin p (aU _ hp),z.hok,z.len⟩ λ_=>J4.ok.hd hc
   refine aS (hs1 a oe4 o' hcl4 xa4 nc4 pins _ _ H' (aN6 i D) J6<|hth a) (λf s7 q=> ?_) λ_ _ z=>z.elim
   show wpAny _ _ (do bindName X.env y .none;unbindBehindTheSuite X.env y hp1) _ _ s7
   cases f with
   | next=>obtain⟨σ',H2,I7,q⟩:=q;exact a61 (out I7) hN hi hy λs8 I8=>⟨_,H2,I8,q⟩
   | brk=>obtain⟨σ',H2,I7,q⟩:=q;exact a61 (out I7) hN hi hy λs8 I8=>⟨_,H2,I8,q⟩
   | cont=>obtain⟨σ',H2,I7,q⟩:=q;exact a61 (out I7) hN hi hy λs8 I8=>⟨_,H2,I8,q⟩
   | ret u=>obtain⟨v,σ',H2,I7,r,q⟩:=q;exact a61 (out I7) hN hi hy λs8 I8=>⟨v,_,H2,I8,r,q⟩
 refine aS (hbody _ E pins s σ H D (I.wish _) goX hb) (λf s1 q=> ?_) λ_ _ z=>z
 have q':=q.unwish;cases f with
 | next=>exact jE q'
 | ret v=>exact q'
 | brk=>exact q'
 | cont=>exact q'
end
end L2
namespace M
section
variable {X:Cx}{e c:Expr}{es:List Expr}{a b:List Stmt}{pos:Pos}{t u:USY}{tc:UT}{K:PySem.W.Frag}
def bO8 (i:Nat)(n1:Str)(mk:Addr->Addr->List D->D)(tb:USY)(th1:D->US):US:=λE ρ=>tb (λn es ρ1=>n=n1/\ ∀a d,th1 (mk a d es) (aI4 i E)<|ρ1.set i<|some<|.pu<|mk a d es) E ρ
end
section
variable {X:Cx}{e c:Expr}{es:List Expr}{a b:List Stmt}{pos:Pos}{t u:USY}{tc:UT}{K:PySem.W.Frag}
theorem c17 {b0:Stmt}{suite1:List Stmt}{hrest:List ExceptHandler}{r1 n1:Str}{rp1 hp1:Pos}{R1 C1:Addr}{B:String}{tb:USY}{th1:D->US}{mk:Addr->Addr->List D->D}(i:Nat)(hmk:mkX n1 mk)(FB:ExcBaseFacts B newId initId bmB)(hstk:X.stack=X.env::X.outer)(hfr:X.env.frame=some X.env.locals)(hex:X.ex=[])(hc:X.calm=true)
  (hbody:PUY X body tb) (hs1: ∀a oe x,oe.cls= .ref C1->XD a oe x->mP (X.asX a oe) (b0::suite1) (th1 x)) (hg1:Gl X r1) (hm1:X.mg r1=some (.ref R1)) (hR1:XOk X.K R1 bmB newId) (hm2:X.mg n1=some (.ref C1))
  (hu:p6 X.K R1 C1 bmB newId) (hN:X.N.Nodup) (hi:X.N[i]? =some y) (hy:X.env.scope.names.lookup y=some .local) (hl: ∀pins σ H s,Inv X pins σ H s->i<σ.length) (hd1:⇑(r1∪0)) :
  PUS X (.Try body (.ExceptHandler (some<|.Name r1 rp1) (some y) (b0::suite1) hp1::hrest) [] [] pos) (bO8 i n1 mk tb th1):=by
 intro pins s σ H D J ⟨C0,ρ,D0,I,h,k⟩;refine c16 (C1:=C1) (R1:=R1) (i:=i) (tb:=λE=>lSY X.K X.mg E tb) (th1:=λa o D σ H=> ∃x,(x= .adr a\/ ∃d ks l,x= .xob a d ks l/\o=some d)/\lS X.K (th1 x) D σ H) FB hstk hfr hex hc hbody (λa oe o ho hod hnc=> ?_) hg1 hm1 hR1 hu hN hi hy hd1 pins s σ H D J ?_
 .rintro pins s σ H D J ⟨x,hx,hl⟩;refine hs1 a oe x ho ?_ pins s σ H D J hl;rcases hx with rfl| ⟨d,ks,l,rfl,e⟩
  .exact .inl rfl
  .exact .inr ⟨d,ks,l,rfl,hod d e,hnc⟩
 refine⟨λcls o H'=> ∃n Cl es ρ1,cls=Value.ref Cl/\X.mg n=some (.ref Cl)/\(n=n1/\ ∀a d,th1 (mk a d es) (aI4 i D0)<|ρ1.set i<|some<|.pu<|mk a d es)/\EOk X.K C0 ρ1 σ H'/\XR X.K (Av C0 ρ1 σ) H' n es o,?_,?_⟩
 .exact⟨C0,ρ,D0,_,I,h,k,λn Cl es o ρ1 H' ex hm I' xr=>⟨n,Cl,es,ρ1,rfl,hm,ex,I',xr⟩⟩
 .rintro Cl o H' ⟨n,Cl',es,ρ1,e1,hm,ex,I',xr⟩;cases e1;obtain⟨rfl,ht⟩:=ex
  .rw[hm2]at hm;cases hm;refine⟨rfl,λa=> ?_⟩
   have fin:DOk X.K C0 (aI4 i D0) (aN6 i D):=⟨λρ' σ' H2 q I2=>k.nx _ _ _ q (I2.gone i),k.rt,λρ' σ' H2 q I2=>k.bk _ _ _ q (I2.gone i),λρ' σ' H2 q I2=>k.ct _ _ _ q (I2.gone i)⟩
   rcases hmk with⟨hk,rfl⟩| ⟨hk,rfl⟩
   .exact⟨.adr a,.inl rfl,C0,_,aI4 i D0,I'.store (.refl _) (show lM X.K (Av C0 ρ1 σ) H' H' (.pu<|.adr a) (.ref a)from by simp only[lM,Rep])<|hl pins σ H s J,ht a a,fin⟩
   .cases o with
    | none=>exact absurd xr hk
    | some d=>
     refine⟨.xob a d (vM n) es,.inr ⟨d,_,_,rfl,rfl⟩,C0,_,aI4 i D0,I'.store (.refl _) (show lM X.K (Av C0 ρ1 σ) H' H' (.pu<|.xob a d (vM n) es) (.ref a)from ?_)<|hl pins σ H s J,ht a d,fin⟩
     obtain⟨vs,x1,x2,x3,x4⟩:=xr;simp only[lM,Rep];exact⟨vs,trivial,x1,x2,x3,x4⟩
end
end M
end
section
namespace L2
section
variable {X:Cx}
def tTryU (C1:Addr)(tb:XK->TS)(th1:TS):TS:=λD σ H=> ∃E,tb E D σ H/\ ∀C o H',E (.ref C) o H'->C=C1/\th1 D σ H'
theorem c18 {body:List Stmt}{b0:Stmt}{suite1:List Stmt}{hrest:List ExceptHandler}{r1:Str}{rp1 hp1 pos:Pos}{C1 R1:Addr}{B newId initId:String}{bmB:List Value}{tb:XK->TS}{th1:TS}(FB:ExcBaseFacts B newId initId bmB)(hstk:X.stack=X.env::X.outer)(hfr:X.env.frame=some X.env.locals)(hex:X.ex=[])(hc:X.calm=true)
  (hbody: ∀(xe:Value->Shared->Prop) (E:XK) (pins:List (Addr×Obj)) (s:Shared) (σ:St) (H:Hp) (D:zE),Inv (X.wish xe) pins σ H s->qQ (CXr X.prog X.w X.base) (X.wish xe) E pins σ->tb E D σ H->X∩(execs body X.env) (SP (X.wish xe) pins D) xe s)
  (hs1: ∀a,PSs (X.inX a) (b0::suite1) th1) (hg1:Gl X r1) (hm1:X.mg r1=some (.ref R1)) (hR1:XOk X.K R1 bmB newId)
  (hu:a96 X.K R1 C1 bmB newId true) (hd1:⇑(r1∪0)) :
  PS X (.Try body (.ExceptHandler (some<|.Name r1 rp1) none (b0::suite1) hp1::hrest) [] [] pos) (tTryU C1 tb th1):=by
 rintro pins s σ H D I ⟨E,hb,hx⟩;refine wpAny_Try_except ?_
 have goX:qQ (CXr X.prog X.w X.base) (X.wish λe s1=>X∩(noteFrame e X.env) (λ_ s2=>X∩(setFlight e none) (λ_ s3=>X∩(handleBy e X.env (.ExceptHandler (some<|.Name r1 rp1) none (b0::suite1) hp1::hrest)) (SP X pins D) X.xe s3) X.xe s2) X.xe s1) E pins σ:=by
  rintro H1 s1 e s' J ⟨a,C,o',H',rfl,ho,hbr,un,hok,⟨⟨a0,fl⟩,fe,ft⟩,nw,xa,hE⟩;have J0:=J.unwish;have J1:Inv X pins σ H' s':=J0.call' ho un hok hbr (λb z=>absurd z ae)
  have fl':FlyingW X.base X.stack a (.ref C) a0 s'.heap:=fl;have frs':=J1.ok.frames;have g0: ∀b o,s1.heap.get? b=some o-> ∃o',s'.heap.get? b=some o':=λb o q=>un.there b o q ae
  have gs: ∀b o,X.s₀.heap.get? b=some o-> ∃o',s1.heap.get? b=some o':=λb o q=>J0.base.there b o q (by rw[hex];simp)
  have gp: ∀q∈X.pn++pins,∃o',s1.heap.get? q.1=some o':=λq hq=>⟨_,(J0.pin q hq).1⟩
  show wpAny _ _ (noteFrame (.ref a) X.env) _ _ s'
  rw[hstk]at fl' frs';refine aU0 frs' hfr fl' λh2 held p2=> ?_
  rw[<-hstk]at p2 held fl';have J2:=J1.past (g:=s1.heap) p2 hstk hfr hex gs gp nw.he nw.ht fe ft;have n2:=nw.past p2 g0 (aU3 held.2.2.1);have g2:=sU nw p2 g0 (aU3 fl'.2.2.1);have t2:=vA J1.hok p2 J1.stkFree fe ft;refine yJ held λh3 fl3 p3=> ?_
  have J3:=J2.past (g:=s1.heap) p3 hstk hfr hex gs gp n2.he n2.ht fe t2;have n3:=n2.past p3 g2 (aU3 fl3.2.2.1);have g3:=sU n2 p3 g2 (aU3 held.2.2.1);have t3:=vA J2.hok p3 J2.stkFree fe t2;obtain⟨oe,he,hcl⟩:=fl3.there;obtain⟨rfl,hth⟩:=hx C o' H' hE;refine wpAny_handleBy_cons (codeAny_handlers_test<|sK (X:=X.inX a) (J3.inX a) hg1 hm1 ?_ hd1) (by intro q;cases q)
  refine b72 FB J3.kIn hu hR1 he hcl ?_
  refine codeAny_handlers_suite (yJ fl3 λh4 fl4 p4=> ?_)
  have J4:=J3.past (g:=s1.heap) p4 hstk hfr hex gs gp n3.he n3.ht fe t3;exact aS (hs1 a pins _ σ H' D (J4.inX a) hth) (λf s2 q=>q.outX λ_=>J4.ok.hd hc) λ_ _ z=>z.elim
 refine aS (hbody _ E pins s σ H D (I.wish _) goX hb) (λf s1 q=> ?_) λ_ _ z=>z
 have q':=q.unwish;cases f with
 | next=>exact jE q'
 | ret v=>exact q'
 | brk=>exact q'
 | cont=>exact q'
end
end L2
namespace M
section
variable {X:Cx}{pos:Pos}
def bO9 (n1:Str)(tb:USY)(th1:US):US:=λE ρ=>tb (λn _ ρ1=>n=n1/\th1 E ρ1) E ρ
theorem c19 {b0:Stmt}{suite1:List Stmt}{hrest:List ExceptHandler}{r1 n1:Str}{rp1 hp1:Pos}{R1 C1:Addr}{B:String}{tb:USY}{th1:US}(FB:ExcBaseFacts B newId initId bmB)(hstk:X.stack=X.env::X.outer)(hfr:X.env.frame=some X.env.locals)(hex:X.ex=[])(hc:X.calm=true)
  (hbody:PUY X body tb) (hs1: ∀a,mP (X.inX a) (b0::suite1) th1) (hg1:Gl X r1) (hm1:X.mg r1=some (.ref R1)) (hR1:XOk X.K R1 bmB newId) (hm2:X.mg n1=some (.ref C1))
  (hu:p6 X.K R1 C1 bmB newId) (hd1:⇑(r1∪0)) :
  PUS X (.Try body (.ExceptHandler (some<|.Name r1 rp1) none (b0::suite1) hp1::hrest) [] [] pos) (bO9 n1 tb th1):=by
 intro pins s σ H D J ⟨C0,ρ,D0,I,h,k⟩;refine c18 (C1:=C1) (R1:=R1) (tb:=λE=>lSY X.K X.mg E tb) (th1:=lS X.K th1) FB hstk hfr hex hc hbody hs1 hg1 hm1 hR1 hu hd1 pins s σ H D J ?_
 refine⟨λcls o H'=> ∃n Cl es ρ1,cls=Value.ref Cl/\X.mg n=some (.ref Cl)/\(n=n1/\th1 D0 ρ1)/\EOk X.K C0 ρ1 σ H'/\XR X.K (Av C0 ρ1 σ) H' n es o,?_,?_⟩
 .exact⟨C0,ρ,D0,_,I,h,k,λn Cl es o ρ1 H' ex hm I' xr=>⟨n,Cl,es,ρ1,rfl,hm,ex,I',xr⟩⟩
 .rintro Cl o H' ⟨n,Cl',es,ρ1,e1,hm,⟨rfl,ht⟩,I',xr⟩;cases e1;rw[hm2]at hm;cases hm;exact⟨rfl,C0,ρ1,D0,I',ht,k⟩
end
end M
end
end
open L2
section
open PySem L2 M
local macro_rules| `(tactic| left)=> `(tactic| simp only[b4,cN,dW,uRetN,a71,jW,fX,uOp,uC,aD,aF7,b6,b57,uV,uIx,gIx,lQ,oS,aX,a9,aP,iP,gS,aL8,kB,yC,j0,M.gSub,fT,bX3,iS,a36,gI2,tW,i5,isB,B.d,aZ6,uOr,aR5,qF,bW8,b58,eU,gF,uPar,bB8,uSl,a77,sN,gSl,bX6,gMax,gMin,aZ8,lN,a58,aR7,g1,g2,bX5,b60,uIf,wB,nW,List.set_cons_zero,List.set_cons_succ,gK,kS,oC,jG,oI,wW,rG,fS,dF,reduceCtorEq,aM3,gSum,b67,bY0,pP,xI,bY1,bind_some,Option.bind_none,rW,Option.map_none,Option.join,uRev,gRev,bY8,gSlT,bB7,y9,gT,vH,tI,b59,uRngD,bL0,uZip,bK9,oU,b03,uPop,bL6,gMulT,gAny,uIsN,D.isN,gMaxL,uLook,uLookE,uAppZ,b07,uSS,b13,aN7,bO8,bO9,bO6,aI4,aN5,c12,b19,b68])
namespace M
local macro_rules|`(!$t)=>`(some (B.pu (D.int $t)))|`(~~~$t)=>`(some (B.pu $t))|`(↑$t)=>`(some (B.ow $t))|`(∅)=>`(Nat->Int)
abbrev Ra (a:Φ)(t:US)(N:List Str):Prop:=∀ds Q,a ds Q->t {Q with} (init N ds)
variable {j x v a e u p c w s y q:Int}{i k last t0 n U:Nat}{ui:UI}{g F:Nat×∅}{ρ:Ev}{xs:List ((Nat×∅)×Nat)}{l:List D}{ns ks:List Int}{js:List Nat}{cap:List (Option Nat)}{te:UE}{Q:B->Ev->Prop}{f:∅}
def yK:Φ:=λds Q=> ∃c k p:Int,ds=[.int c,.int k,.int p]/\0<=k/\k<4294967296/\0<p/\ ∀r:Int,0<=r->r<p->Q (.pu<|.int r)
def a97:US:=(b4 (cN 3<|uOp iS (uOp fT (uOp j0 (uOp j0 (uOp j0 (aD 0)<|uOp fT (uOp fT @7<|aD 1)<|aD 1)<|uOp fT @13<|aD 1)<|@5)<|@48271)<|@2147483647)<|b4 (cN 3<|uOp iS (uOp fT (aD 3)<|aD 3)<|@2147483629)<|dW<|uOp iS (uOp fT (aD 3)<|@39373)<|aD 2)
theorem bU (i:Int)(h:0<j):i.fmod j=i%j:=vW i (Int.le_of_lt h)
theorem bP0 (i:Int)(h:0<j):i.fdiv j=i/j:=Int.fdiv_eq_ediv_of_nonneg i (Int.le_of_lt h)
theorem cmR {i:Int}(h1: -18446744073709551616<j)(h2:j<18446744073709551616):aY7 i j\/(Sm i/\Sm j):= .inl (.inr ⟨h1,h2⟩)
theorem cmL {i:Int}(h1: -18446744073709551616<i)(h2:i<18446744073709551616):aY7 i j\/(Sm i/\Sm j):= .inl (.inl ⟨h1,h2⟩)
theorem bP1: Ra yK a97 ["c","k","p","f"]:=by
 rintro ds Q ⟨c,k,p,rfl,h0,h1,hp,h⟩;unfold a97;show(b4 _ _:US) _ [!c,!k,!p,none];left;rw[bU _ (by decide:(0:Int)<2147483647),bU _ (by decide:(0:Int)<2147483629),bU _ hp]
 refine⟨cmL ac ac,cmR aa aa,cmL ac ac,cmR ac ac,ac,cmR aa aa,ac,cmR ac ac,aa,?_⟩
 exact h _ (bC _ aa) (b9 _ hp)
theorem dI {g:UG}{tb:US}{D:UD}(n:Nat)(it:Nat->M.D)(ρ1:Ev)(hui: ∀Q:Nat->(Nat->M.D)->Ev->Prop,Q n it ρ1->ui ρ Q)(Pv:Nat->Ev->Prop)(h0:Pv 0 ρ1)
  (hs: ∀i ρ,i<n->Pv i ρ->g (.pu<|it i) ρ λρ2=>tb {D with nx:=Pv (i+1),ct:=Pv (i+1),bk:=D.nx} ρ2) (hd: ∀ρ,Pv n ρ->D.nx ρ):tV ui g tb D ρ:=hui _ ⟨Pv,h0,hs,hd⟩
theorem b74 {ws:List Int}(h:i<ws.length):atI (ws.map D.int) (0+(i:Int))=some (.int ws[i]):=by
 rw[cT];exact dS (by rw[bP,aW h];rfl)
def Below (xs ws:List Int):Prop:=xs.length=ws.length/\ ∀(j:Nat) (x w:Int),xs[j]? =some x->ws[j]? =some w->0<=x/\x<w
theorem cpl {i:Int}(h1:0<=j)(h2:j<=1000000)(h3:i.natAbs<2^64):bG3 i j:=⟨h1,h2,h3⟩
def p7:Φ:=λds Q=> ∃(c:Int) (ws:List Int) (p:Int),ds=[.int c,.lst<|ws.map .int,.int p]/\ws.length<=1000/\0<p/\(∀w∈ws,0<w/\w<18446744073709551616)/\ ∀xs:List Int,Below xs ws->Q (.ow<|xs.map .int)
def a98:US:=(b4 (cN 3<|@0)<|b4 (jW (fX<|uOp (tW λi j=>decide (j<=i)) (aD 0)<|uOp a36 @10<|@18) (cN 3<|uOp M.gSub (aD 0)<|uOp a36 @10<|@18) gF)<|b4 (cN 4<|iP aP)<|b4 (tV (tI<|a9 (lQ<|b6 1) aP) (eU 5)<|jW (fX<|uOp (tW λi j=>decide (j<i)) (aD 3)<|@1) (b4 (aL8 4<|uOp iS (aD 3)<|uIx (b6 1)<|aD 5)<|cN 3<|uOp bX3 (aD 3)<|uIx (b6 1)<|aD 5)<|aL8 4<|uOp iS (aX yK<|a9 (aD 0)<|a9 (aD 5)<|a9 (aD 2) aP)<|uIx (b6 1)<|aD 5)<|a71 4)
theorem sm64 {i:Int}(h1: -18446744073709551616<i)(h2:i<18446744073709551616):Sm i:=by
 have h3:i.natAbs<18446744073709551616:=aa
 exact b7 h3 af
theorem a99 {xs ws:List Int}(h: ∀(j:Nat) (x w:Int),xs[j]? =some x->ws[j]? =some w->0<=x/\x<w)(hl:xs.length<ws.length)(h0:0<=x)(h1:x<ws[xs.length]) :
  ∀(j:Nat) (y w:Int),(xs++[x])[j]? =some y->ws[j]? =some w->0<=y/\y<w:=by
 intro j y w e1 e2
 by_cases hj:j<xs.length
 .rw[rC hj]at e1;exact h j y w e1 e2
 .rw[vV ad]at e1
  by_cases hj':j=xs.length
  .subst hj';simp at e1;subst e1;rw[aW hl]at e2;cases e2;exact⟨h0,h1⟩
  .have:j-xs.length≠0:=ad
   cases e:j-xs.length with
   | zero=>lia
   | succ n=>rw[e]at e1;simp at e1
theorem bP2: Ra p7 a98 ["c","w","p","l","f","k"]:=by
 rintro ds Q ⟨c,ws,p,rfl,hlen,hp,hw,h⟩;unfold a98;have tail: ∀left:Int,(b4 (cN 4<|iP aP) (b4 (tV (tI<|a9 (lQ<|b6 1) aP) (eU 5)<|jW (fX<|uOp (tW λi j=>decide (j<i)) (aD 3)<|@1) (b4 (aL8 4<|uOp iS (aD 3)<|uIx (b6 1)<|aD 5)<|cN 3<|uOp bX3 (aD 3)<|uIx (b6 1)<|aD 5)<|aL8 4<|uOp iS (aX yK<|a9 (aD 0)<|a9 (aD 5)<|a9 (aD 2) aP)<|uIx (b6 1)<|aD 5)<|a71 4):US)
   {Q with} [!c,~~~.lst (ws.map .int),!p,!left,none,none]:=by
  intro left;rw[b4];left;refine⟨ac,?_⟩
  refine dI ws.length (λi=> .int (0+i)) [!c,~~~.lst (ws.map .int),!p,!left,↑[],none] ?_
   (λi ρ=> ∃(l:Int) (xs:List Int) (kk:Option B),ρ=[!c,~~~.lst (ws.map .int),!p,!l,↑(xs.map .int),kk]/\xs.length=i/\ ∀(j:Nat) (x w:Int),xs[j]? =some x->ws[j]? =some w->0<=x/\x<w)
   ⟨left,[],none,rfl,rfl,λj x w e=>by simp at e⟩ ?_ ?_
  .intro Q q;simp only[tI];left;rw[aK];refine⟨⟨ad,ad⟩,?_⟩
   rw[bB];exact q
  .rintro i ρ hi ⟨l,xs,kk,rfl,hl,hb⟩;subst hl;obtain⟨w0,w1⟩:=hw _ (e9 hi);left;refine⟨ac,?_⟩
   by_cases hc:1<l
   .rw[a8 hc];simp only[b74 hi];rw[bU _ w0,bP0 _ w0];refine⟨ad,?_,⟨ad,sm64 ad w1⟩,_,xs++[l%ws[xs.length]],_,by rw[bS];rfl,ae,a99 hb hi (bC _ ad)<|b9 _ w0⟩
    rw[aK];exact b7 hi (aN hlen ac)
   .rw[a7 hc];refine⟨c,(0+(xs.length:Int)),p,rfl,ad,ad,hp,λr r0 r1=> ?_⟩
    simp only[b74 hi];rw[bU _ w0];refine⟨ad,?_,l,xs++[r%ws[xs.length]],_,by rw[bS];rfl,ae,a99 hb hi (bC _ ad)<|b9 _ w0⟩
    rw[aK];exact b7 hi (aN hlen ac)
  .rintro ρ ⟨l,xs,kk,rfl,hl,hb⟩;left;exact h xs ⟨hl,hb⟩
 show(b4 _ _:US) _ [!c,~~~.lst (ws.map .int),!p,none,none,none]
 refine(show bG3 10 18/\(if decide ((10:Int)^(18:Int).toNat<=c)=true then _ else _)from⟨cpl ac ac ac,?_⟩)
 split
 .exact⟨cpl ac ac ac,tail _⟩
 .exact tail _
theorem uD {d:D}:atI (d::l) 0=some d:=dS rfl
theorem bP3 (xs:List Int)(lo hi:Option Int): ∃ys:List Int,cutD (xs.map .int) lo hi=ys.map .int:=by
 unfold cutD;refine⟨(xs.drop<|HT.sIx (xs.map D.int).length 0 lo).take<|HT.sIx (xs.map D.int).length (xs.map D.int).length hi-HT.sIx (xs.map D.int).length 0 lo,?_⟩;rw[oK,map_drop]
theorem aU4 {ys:List Int}(h:i< (ys.map D.int).length): ∃z,(ys.map D.int).getD i .non= .int z:=by
 rw[aK]at h;exact⟨ys[i],by rw[bI,bP,aW h];rfl⟩
theorem qR (k:Nat)(z:Int):(replicate k [D.int z]).flatten=(replicate k z).map .int:=by
 induction k with
 | zero=>rfl
 | succ k ih=>rw[eM,i9,ih];rfl
def b21:Φ:=λds Q=> ∃c n m p:Int,ds=[.int c,.int n,.int m,.int p]/\0<=n/\n<=500/\20<=m/\0<p/\ ∀r:Int,-m<=r->r<=m->Q (.pu<|.int r)
def b22:US:=(b4 (cN 4<|aX p7<|a9 (aD 0)<|a9 (uOp j0 (iP<|a9 @6 aP)<|uOp fT (iP<|a9 (uOp a36 @10<|@8) aP)<|aD 1)<|a9 (aD 3) aP)<|b4 (cN 5<|@0)<|b4 (tV (oU<|uSl (b6 4) (a77<|@1) sN) (eU 6)<|cN 5<|uOp j0 (uOp fT (aD 5)<|uOp a36 @10<|@8)<|aD 6)<|b4 (jW (fX<|uOp (i5 false) (uIx (b6 4)<|@0)<|@0) (dW<|@0) gF)<|b4 (jW (fX<|uOp (i5 false) (uIx (b6 4)<|@0)<|@1) (dW<|uOp M.gSub (uOp iS (aD 5)<|@41)<|@20) gF)<|dW<|uOp M.gSub (uOp iS (aD 5)<|uOp j0 (uOp fT @2<|aD 2)<|@1)<|aD 2)
theorem rd_far: Ra b21 b22 ["c","n","m","p","f","a","b"]:=by
 rintro ds Q ⟨c,n,m,p,rfl,n0,n1,hm,hp,h⟩;unfold b22;show(b4 _ _:US) _ [!c,!n,!m,!p,none,none,none];left;refine⟨ac,cpl ac ac ac,ac,⟨ad,ad,?_⟩,?_,?_⟩
 .show 1*n.toNat<=sizeLine
  have:n.toNat<=500:=ad
  exact aN ad (show 500<=sizeLine by decide)
 .rw[qR,aK,cQ];exact aN (show 1+n.toNat<=501 by lia) ac
 refine⟨c,6::replicate n.toNat 100000000,p,by rw[qR];rfl,?_,hp,?_,λxs hx=> ?_⟩
 .rw[gK,cQ];lia
 .intro w hw;rcases aG.mp hw with rfl|hw
  .decide
  .rw[rF hw];decide
 obtain⟨x0,r,rfl⟩: ∃x0 r,xs=x0::r:=by
  cases xs with
  | nil=>have:=hx.1;simp at this
  | cons a r=>exact⟨a,r,rfl⟩
 obtain⟨ys,hy⟩:=bP3 (x0::r) (some 1) none;refine dI (ys.map D.int).length (λi=>(ys.map D.int).getD i .non) [!c,!n,!m,!p,↑((x0::r).map .int),!0,none] ?_
  (λi ρ=> ∃(f:Int) (kk:Option B),ρ=[!c,!n,!m,!p,↑((x0::r).map .int),!f,kk])
  ⟨0,none,rfl⟩ ?_ ?_
 .intro Q q;simp only[oU];left;rw[hy];exact q
 .rintro i ρ hi ⟨f,kk,rfl⟩;obtain⟨z,hz⟩:=aU4 hi;rw[hz];left;exact⟨ac,cpl ac ac ac,cmR ac ac,_,_,rfl⟩
 .rintro ρ ⟨f,kk,rfl⟩;left;simp only[bX,uD];split
  .exact h 0 ad ad
  .split
   .rw[bU _ ac]
    refine⟨ac,h _ ?_ ?_⟩<;>lia
   .refine⟨cmL ac ac,ad,?_⟩
    rw[bU _ ad]
    have a1:=bC f (show(2*m+1)≠0 by lia)
    have a2:=b9 f (show 0<2*m+1 by lia)
    exact h _ ad ad
def sV:Φ:=λds Q=> ∃(ns:List Int) (k:Int),ds=[.rol<|ns.map .int,.int k]/\ns.length<=63/\0<=k/\k<4294967296/\ ∀r:Int,Q (.pu<|.int r)
def aN8:US:=(b4 (jW (fX<|uOp (i5 false) (lQ<|b6 0)<|@0) (dW<|uOp fT @7919<|uOp j0 (aD 1)<|@1) gF)<|b4 (jW (fX<|uOp (tW λi j=>decide (i<j)) (aD 1)<|lQ<|b6 0) (dW<|uIx (b6 0)<|aD 1) gF)<|dW<|uOp j0 (uIx (b6 0)<|uOp iS (aD 1)<|lQ<|b6 0)<|uOp fT @104729<|aD 1)
theorem bP4 {k:Int}(h0:0<=k)(h1:k<ns.length): ∃z,atI (ns.map D.int) k=some (.int z):=by
 obtain⟨i,rfl⟩: ∃i:Nat,k=(i:Int):=⟨k.toNat,ad⟩
 have hi:i<ns.length:=ad
 exact⟨ns[i],dS (by rw[bP,aW hi];rfl)⟩
theorem c20: Ra sV aN8 ["s","k"]:=by
 rintro ds Q ⟨ns,k,rfl,hl,k0,k1,h⟩;unfold aN8;show(b4 _ _:US) _ [~~~.rol (ns.map .int),!k];left;rw[aK];split
 .exact⟨cmL ac ac,h _⟩
 .split
  .obtain⟨z,hz⟩:=bP4 (ns:=ns) k0 ad
   rw[hz];exact h z
  .refine⟨ad,?_⟩
   rw[bU _ ad]
   obtain⟨z,hz⟩:=bP4 (ns:=ns) (k:=k%ns.length) (bC _ ad) (b9 _ ad)
   rw[hz];exact⟨cmL ac ac,h _⟩
def uE:Φ:=λds Q=> ∃i:Int,ds=[.int i]/\Q (.pu<|.bl true)
def aA0:US:=(dW<|qF (aX aR7<|a9 (aD 0)<|a9 (uC<|.ty "int") aP)<|b58<|aX aR7<|a9 (aD 0)<|a9 (uC<|.ty "bool") aP)
theorem bP5: Ra uE aA0 ["f"]:=by
 rintro ds Q ⟨i,rfl,h⟩;unfold aA0;show(dW _:US) _ [!i];left
 exists h
theorem bP6:bootBuiltins "abs"=some (.builtin "abs"):=af
theorem bt_max:bootBuiltins "max"=some (.builtin "max"):=af
theorem gY:bootBuiltins "isinstance"=some (.builtin "isinstance"):=af
theorem bP7:bootBuiltins "int"=some (.type "int"):=af
theorem b75:bootBuiltins "bool"=some (.type "bool"):=af
theorem lW:bootBuiltins "tuple"=some (.type "tuple"):=af
theorem aN9:bootBuiltins "list"=some (.type "list"):=af
theorem c21: ∀ds Q,aR8 ds Q->ds.length=1:=by rintro ds Q ⟨i,rfl,_⟩;rfl
theorem nM (t:UE)(D:UD)(ρ:Ev):dW t D ρ=t ρ (λb _=>D.rt b):=rfl
theorem p8 (φ:Φ)(t:UA)(ρ:Ev)(Q:B->Ev->Prop):aX φ t ρ Q=t ρ λds ρ1=>φ ds λb=>Q b ρ1:=rfl
theorem pA (t:UE)(u:UA)(ρ:Ev)(Q:List D->Ev->Prop):a9 t u ρ Q=t ρ λx ρ1=>u ρ1 λxs ρ2=>Q (x.d::xs) ρ2:=rfl
theorem b5 (t u:US)(D:UD)(ρ:Ev):b4 t u D ρ=t {D with nx:=u D} ρ:=rfl
theorem iU (n:Nat)(it:Nat->D)(ρ1:Ev)(hui: ∀Q:Nat->(Nat->D)->Ev->Prop,Q n it ρ1->ui ρ Q)(hn:n<=1000000)
  (G:Option B->List D->Ev) (x0:Option B) (h0:pP (xI ρ1 js) cap last=G x0 []) (h1: ∀x l b,(G x l).set t0 (some b)=G (some b) l) (h1': ∀x l,t0< (G x l).length) (h2: ∀x l (Q:List D->Prop),Q l->kB (G x l) last Q) (h3: ∀x l l',(G x l).set last (↑l')=G x l')
  (f:Nat->D) (hte: ∀i l (Q':B->Ev->Prop),i<n->Q' (.pu<|f i) (G (~~~it i) l)->te (G (~~~it i) l) Q') (hq:Q (.ow<|(List.range n).map f) (xI ρ1 js)) :
  hZ js cap last ui (eU t0) (λρ Q=>Q true ρ) te ρ Q:=by
 refine hui _ ⟨λi ρ'=> ∃x,ρ'=G x ((List.range i).map f),⟨x0,h0⟩,?_,?_⟩
 .rintro i ρ' hi ⟨x,rfl⟩;refine⟨h1' _ _,?_⟩;rw[h1];right;rw[a8 rfl];refine hte i _ _ hi (h2 _ _ _ ⟨?_,~~~it i,?_⟩)
  .rw[aK,wX];exact b7 hi (aN hn ac)
  .rw[h3,oH,bS];rfl
 .rintro ρ' ⟨x,rfl⟩;exact h2 _ _ _ hq
nonrec def cB (r:List Int):D:= .tup (r.map .int)
theorem bP8 (l:List D)(i:Nat)(h:i<=l.length):cutD l none (some (i:Int))=l.take i:=by
 unfold cutD;rw[HT.sIx_none,HT.sIx_nat,xF h];simp
theorem aU5 (l:List D)(i:Nat)(h:i<=l.length):cutD l (some (i:Int)) none=l.drop i:=by
 unfold cutD;rw[HT.sIx_nat,xF h];rw[List.take_of_length_le (by rw[jD];exact aC _)]
theorem Sm.pow {i:Int}(h:i.natAbs<=2^k)(hk:k<9000):Sm i:=rM h (Nat.pow_lt_pow_right ac hk)
theorem aU6 {r:List Int}(h:0<r.length):atI (r.map D.int) 0=some (.int<|r.getD 0 0):=by
 refine dS ?_
 rw[bP,bI,aW h];rfl
theorem aA1 {t1:Nat}(n:Nat)(i1 i2:Nat->D)(ρ1:Ev)(hui: ∀Q:Nat->(Nat->D)->Ev->Prop,Q n (λi=> .tup [i1 i,i2 i]) ρ1->ui ρ Q)(hn:n<=1000000)
  (G:Option B->Option B->List D->Ev) (x0 y0:Option B) (h0:pP (xI ρ1 js) cap last=G x0 y0 []) (h1: ∀x y l b c,((G x y l).set t0<|some b).set t1 (some c)=G (some b) (some c) l) (h1': ∀x y l,t0< (G x y l).length/\t1< (G x y l).length)
  (h2: ∀x y l (Q:List D->Prop),Q l->kB (G x y l) last Q) (h3: ∀x y l l',(G x y l).set last (↑l')=G x y l')
  (f:Nat->D) (hte: ∀i l (Q':B->Ev->Prop),i<n->Q' (.pu<|f i) (G (~~~i1 i) (~~~i2 i) l)->te (G (~~~i1 i) (~~~i2 i) l) Q') (hq:Q (.ow<|(List.range n).map f) (xI ρ1 js)) :
  hZ js cap last ui (y9<|gT t0<|gT t1 vH) (λρ Q=>Q true ρ) te ρ Q:=by
 refine hui _ ⟨λi ρ'=> ∃x y,ρ'=G x y ((List.range i).map f),⟨x0,y0,h0⟩,?_,?_⟩
 .rintro i ρ' hi ⟨x,y,rfl⟩;refine⟨(h1' _ _ _).1,by rw[cS];exact(h1' _ _ _).2,rfl,?_⟩
  rw[h1];right;rw[a8 rfl];refine hte i _ _ hi (h2 _ _ _ _ ⟨?_,~~~i1 i,~~~i2 i,?_⟩)
  .rw[aK,wX];exact b7 hi (aN hn ac)
  .rw[h3,oH,bS];rfl
 .rintro ρ' ⟨x,y,rfl⟩;exact h2 _ _ _ _ hq
theorem vO (h1:0<=j)(h2:j<=1000000):bG3 10 j:=⟨h1,h2,ac⟩
nonrec def rwF (n:Nat)(f:∅):List Int:=(List.range n).map f
theorem b76 (n:Nat)(f:∅):(rwF n f).length=n:=by simp[rwF]
theorem c22 (h:i<n):(rwF n f)[i]? =some (f i):=by simp[rwF,h]
theorem bE (n:Nat)(f:∅):((rwF n f).map D.int).length=n:=by simp[rwF]
theorem qS (h:i<n):((rwF n f).map D.int)[i]? =some (.int<|f i):=by simp[rwF,h]
theorem pB (h:i<n):((rwF n f).map D.int).getD i .non= .int (f i):=by rw[bI,qS h];rfl
theorem l6 (h:i<n):atI ((rwF n f).map D.int) (i:Int)=some (.int<|f i):=dS (qS h)
theorem a62 {j:Nat}(h:j<n):((rwF n f).map D.int).set j (.int v)=(rwF n λx=>if x=j then v else f x).map D.int:=by
 apply wV
 intro k
 by_cases hk:k<n
 .rw[qS hk]
  by_cases e:j=k
  .subst e;rw[eF (by rw[bE];exact hk),a8 rfl]
  .rw[get_set_ne e,qS hk,a7 λz=>e z.symm]
 .rw[eK (by rw[cS,bE];omega),eK (by rw[bE];omega)]
theorem fZ {g:∅}(h: ∀i,i<n->f i=g i):rwF n f=rwF n g:=by
 apply List.map_congr_left
 intro i hi;exact h i (bW.mp hi)
theorem rwF_of (r:List Int):r=rwF r.length (λj=>r.getD j 0):=by
 apply wV
 intro k
 by_cases hk:k<r.length
 .rw[c22 hk,bI,aW hk];rfl
 .rw[eK aa,eK (by rw[b76];omega)]
theorem yL (n:Nat)(f:∅):(List.range n).map (λk=>D.int (f k))=(rwF n f).map D.int:=by
 unfold rwF;rw[kW];rfl
theorem aO0 (h:i<n):ixN n (i:Int)=some i:=by
 unfold ixN;have h2:(i:Int)< (n:Int):=aa
 simp[h2]
theorem bP9 (g:D->D->(B->Prop)->Prop)(ta tb:UE)(ρ:Ev)(Q:B->Ev->Prop):uOp g ta tb ρ Q=ta ρ λx ρ1=>tb ρ1 λy ρ2=>g x.d y.d λb=>Q b ρ2:=rfl
theorem aU7: ∀r:List Int,pdL (r.map D.int)=some (r.map PyData.int)
 | []=>by simp[pdL]
 | a::r=>by simp[pdL,pd,aU7 r]
theorem bQ0 (r:List Int):pd (cB r)=some (.tuple<|r.map .int):=by simp[cB,pd,aU7]
theorem aU8: ∀r:List Int,PyData.depthAll (r.map PyData.int)=0
 | []=>by simp[PyData.depthAll]
 | a::r=>by simp[PyData.depthAll,PyData.depth,aU8 r]
theorem c23 (r:List Int):(PyData.tuple<|r.map .int).depth<=60:=by simp[PyData.depth,aU8]
theorem c24 (a b:List Int):(PyData.tuple<|a.map .int).eqv (.tuple<|b.map .int)=decide (a=b):=by simp only[PyData.eqv];exact PySem.W.ked_eqvAll a b
theorem bQ1 {neg:Bool}{a b:List Int}{Q:B->Prop}(h:Q (.pu<|.bl<|neg ^^ decide (a=b))):bK6 neg (cB a) (cB b) Q:=⟨_,_,bQ0 a,bQ0 b,c23 a,by rw[c24];exact h⟩
nonrec def dB (f:∅):Nat->Nat
 | 0=>0
 | n+1=>if f n=0 then dB f n else n+1
theorem yM (f:∅): ∀n,dB f n<=n
 | 0=>aC _
 | n+1=>by
  unfold dB;split
  .have:=yM f n;lia
  .exact aC _
theorem aI5 (f:∅): ∀n,dB f n=0\/f (dB f n-1)≠0
 | 0=> .inl rfl
 | n+1=>by
  unfold dB;split
  .exact aI5 f n
  .rename_i h
   exact .inr (by exists h)
theorem aI6 (f:∅): ∀n m,dB f n<=m->m<n->f m=0
 | n+1,m,h1,h2=>by
  unfold dB at h1;split at h1
  .rename_i h
   by_cases e:m=n
   .rw[e];exact h
   .exact aI6 f n m h1 ad
  .lia
theorem nN {f:∅}{k:Nat}: ∀{n:Nat},k<=n->(∀m,k<=m->m<n->f m=0)->(k=0\/f (k-1)≠0)->dB f n=k
 | 0,h,_,_=>by have:k=0:=ad
               rw[this];rfl
 | n+1,h,hz,hl=>by
  unfold dB
  by_cases e:k=n+1
  .subst e;rw[a7];rcases hl with h0|h0
   .lia
   .exists h0
  .rw[a8<|hz n ad ad]
   exact nN ad (λm h1 h2=>hz m h1 ad) hl
theorem aA2 {f g:∅}: ∀{n:Nat},(∀m,m<n->f m=g m)->dB f n=dB g n
 | 0,_=>rfl
 | n+1,h=>by
  unfold dB;rw[h n<|jC n,aA2 λm hm=>h m (cW hm)]
theorem aA3 (n k:Nat)(f:∅)(h:k<=n):(rwF n f).take k=rwF k f:=by
 unfold rwF;rw[<-oK,List.take_range,xF h]
def uF:Φ:=λds Q=> ∃(n:Nat) (f:∅),ds=[cB<|rwF n f]/\n<=1000/\Q (.pu<|cB<|rwF (dB f n) f)
def aA4:US:=(b4 (cN 1<|lQ<|b6 0)<|b4 (aL7 (aZ6 (fX<|uOp (tW λi j=>decide (j<i)) (aD 1)<|@0)<|fX<|uOp (i5 false) (uIx (b6 0)<|uOp M.gSub (aD 1)<|@1)<|@0)<|bB8 1 (gI2 λi j Q=>Q (.pu<|.int<|i-j))<|@1)<|dW<|bY8 (aD 0) sN<|a77<|aD 1)
theorem bQ2: Ra uF aA4 ["r","s"]:=by
 rintro ds Q ⟨n,f,rfl,hn,h⟩;unfold aA4;simp only[cB];show(b4 _ _:US) _ [~~~.tup ((rwF n f).map .int),none];rw[b5];left;rw[bE];refine⟨λm ρ=>ρ=[~~~.tup ((rwF n f).map .int),!(m:Int)]/\m<=n/\dB f m=dB f n,⟨n,rfl,aC _,rfl⟩,?_⟩
 rintro m ρ ⟨rfl,hm,hc⟩;left;have fin:dB f m=m->Q (.pu<|.tup<|cutD ((rwF n f).map D.int) none<|some (m:Int)):=λe=>by
  rw[bP8 _ _ (by rw[bE];exact hm),<-oK,aA3 _ _ _ hm]
  rw[<-hc,e]at h;exact h
 split
 .rename_i h0
  obtain⟨m',rfl⟩: ∃m',m=m'+1:=⟨m-1,ad⟩
  rw[show((m'+1:Nat):Int)-1=(m':Int)by lia,l6<|show m'<n by lia]
  right;split
  .rename_i h1
   refine⟨m',ad,?_,ad,?_⟩
   .simp
   .rw[<-hc];show _=if f m'=0 then dB f m' else m'+1;rw[a8 h1]
  .rename_i h1
   refine fin ?_
   show(if f m'=0 then dB f m' else m'+1)=m'+1
   rw[a7 h1]
 .have:m=0:=ad
  subst this;exact fin rfl
nonrec def shF (b:∅)(n m:Nat):Int:=if n<=m then b (m-n)else 0
nonrec def divS (b:∅)(d n:Nat)(f:∅):∅:=λm=>f m-f (n+d)*shF b n m
nonrec def divL (b:∅)(d:Nat):Nat->∅->∅
 | 0,f=>f
 | n+1,f=>divL b d n (divS b d n f)
nonrec def divQ (b:∅)(d:Nat):Nat->∅->∅
 | 0,_=>λ_=>0
 | n+1,f=>λx=>if x=n then f (n+d)else divQ b d n (divS b d n f) x
structure PartOk (L d a e:Nat)(f b:∅):Prop where
 L9:L<=100
 d9:d<=100
 one:b d=1
 beyond: ∀j,d<j->b j=0
 fb: ∀m,m<L->(f m).natAbs<=2^a
 bb: ∀j,(b j).natAbs<=2^e
 room:a+(e+1)*L<8000
 e8:e<8000
theorem b23 {b:∅}{d a e L:Nat}(hn:n+d<L)(hf: ∀m,m<L->(f m).natAbs<=2^a)(hb: ∀j,(b j).natAbs<=2^e): ∀m,m<L->(divS b d n f m).natAbs<=2^(a+(e+1)):=by
 intro m hm;unfold divS;have h1:=hf m hm;have h2:=hf (n+d) hn;have h3:(shF b n m).natAbs<=2^e:=by
  unfold shF;split
  .exact hb _
  .simp
 have h4:(f (n+d)*shF b n m).natAbs<=2^a*2^e:=by rw[Int.natAbs_mul];exact rX h2 h3
 have h5:=Int.natAbs_sub_le (f m) (f (n+d)*shF b n m);have h6:2^a<=2^a*2^e:=Nat.le_mul_of_pos_right _ (Nat.pow_pos ac)
 lia
theorem zT (k:Nat):(replicate k [D.int 0]).flatten=(rwF k λ_=>0).map .int:=by
 rw[qR]
 congr 1
 apply oE<;>simp[rwF]
def l7:Φ:=λds Q=> ∃(L d a e:Nat) (f b:∅),ds=[cB<|rwF L f,cB<|rwF (d+1) b]/\PartOk L d a e f b/\
 Q (.pu<|.tup [cB<|rwF (dB (divQ b d (L-d) f)<|L-d)<|divQ b d (L-d) f,cB<|rwF (dB (divL b d (L-d) f) L)<|divL b d (L-d) f])
def pQ:US:=(dW<|gS<|a9 (aX uF<|a9 (aX lN<|a9 (aD 5) aP) aP)<|a9 (aX uF<|a9 (aX lN<|a9 (aD 4) aP) aP) aP)
def pR:US:=(b4 (tV (bL0<|a9 (aD 3) aP) (eU 6)<|b4 (cN 7<|uIx (b6 4)<|uOp j0 (aD 6)<|aD 2)<|b4 (b60 5 (aD 7)<|aD 6)<|tV (bK9<|a9 (aD 1) aP) (y9<|gT 8<|gT 9 vH)<|bK5 4 (λi j=>i-j) (uOp j0 (aD 6)<|aD 8)<|uOp fT (aD 7)<|aD 9) pQ)
def l8:US:=(b4 (cN 2<|uOp M.gSub (lQ<|b6 1)<|@1)<|b4 (cN 3<|aX gMax<|a9 @0<|a9 (uOp M.gSub (lQ<|b6 0)<|aD 2) aP)<|b4 (cN 4<|aX a58<|a9 (aD 0) aP)<|b4 (cN 5<|uOp fT (iP<|a9 @0 aP)<|aD 3) pR)
theorem zU: Ra l7 l8 ["f","g","d","s","l","q","a","m","j","c"]:=by
 rintro ds Q ⟨L,d,a,e,f,b,rfl,ok,h⟩;have L9:=ok.L9;have d9:=ok.d9;have room:=ok.room;unfold l8;simp only[cB]at h⊢;show(b4 _ _:US) _ [~~~.tup ((rwF L f).map .int),~~~.tup ((rwF (d+1) b).map .int),none,none,none,none,none,none,none,none];left;rw[bE,bE];obtain⟨N,hN⟩: ∃N:Nat,N=L-d:=⟨_,rfl⟩;have e1:((d+1:Nat):Int)-1=(d:Int):=ad
 have e2:(if(L:Int)-(d:Int)>0 then(L:Int)-(d:Int)else 0)=(N:Int):=by split<;>lia
 rw[e1,e2,bB,zT];refine⟨ac,⟨ad,ad,aN (show 1*N<=100 by lia) ac⟩,?_⟩
 unfold pR;rw[b5];rw[<-hN]at h;refine dI N (λk=> .int (((N:Int))-1-k)) [~~~.tup ((rwF L f).map .int),~~~.tup ((rwF (d+1) b).map .int),!(d:Int),!(N:Int),↑((rwF L f).map .int),some<|.ow<|(rwF N λ_=>0).map .int,none,none,none,none] ?_
  (λk ρ=> ∃g q z6 z7 z8 z9,ρ=[~~~.tup ((rwF L f).map .int),~~~.tup ((rwF (d+1) b).map .int),!(d:Int),!(N:Int),↑((rwF L g).map .int),↑((rwF N q).map .int),z6,z7,z8,z9]/\
   divL b d (N-k) g=divL b d N f/\(∀x,x<N->divQ b d N f x=if x<N-k then divQ b d (N-k) g x else q x)/\ ∀m,m<L->(g m).natAbs<=2^(a+(e+1)*k))
  ⟨f,λ_=>0,none,none,none,none,rfl,rfl,λx hx=>by rw[sub_zero,a8 hx],λm hm=>by simpa using ok.fb m hm⟩ ?_ ?_
 .intro Q' q;left;refine⟨⟨ad,ad⟩,?_⟩
  rw[bB];exact q
 .rintro k ρ hk ⟨g,q,z6,z7,z8,z9,rfl,hL,hQ,hb⟩;obtain⟨i,hi⟩: ∃i:Nat,i=N-1-k:=⟨_,rfl⟩;have ei:(N:Int)-1-(k:Int)=(i:Int):=ad
  have hiN:i<N:=ad
  have hid:i+d<L:=ad
  rw[ei];have c1:(i:Int)+(d:Int)=((i+d:Nat):Int):=ad
  left
  rw[c1,l6 hid];right;rw[bE,aO0 hiN];right;rw[a62 hiN];refine⟨ae,?_⟩
  have smg:Sm (g<|i+d):=Sm.pow (hb _ hid) (by
   have:(e+1)*k<=(e+1)*L:=rL _ ad
   lia)
  refine dI (d+1) (λj=> .tup [.int (j:Int),((rwF (d+1) b).map D.int).getD j .non]) [~~~.tup ((rwF L f).map .int),~~~.tup ((rwF (d+1) b).map .int),!(d:Int),!(N:Int),↑((rwF L g).map .int),some<|.ow<|(rwF N λx=>if x=i then g (i+d)else q x).map .int,!(i:Int),!g (i+d),z8,z9] ?_
   (λj ρ=> ∃z8 z9,ρ=[~~~.tup ((rwF L f).map .int),~~~.tup ((rwF (d+1) b).map .int),!(d:Int),!(N:Int),some<|.ow<|(rwF L λm=>if m<i+j then divS b d i g m else g m).map .int,some<|.ow<|(rwF N λx=>if x=i then g (i+d)else q x).map .int,!(i:Int),!g (i+d),z8,z9]) ⟨z8,z9,?_⟩ ?_ ?_
  .intro Q' qq;left;rw[bE];exact qq
  .have:(rwF L λm=>if m<i+0 then divS b d i g m else g m)=rwF L g:=by
    apply fZ
    intro m hm
    by_cases c:m<i+0
    .rw[a8 c];unfold divS shF;rw[a7 ad]
     lia
    .rw[a7 c]
   rw[this]
  .rintro j ρ hj ⟨z8,z9,rfl⟩;rw[pB hj];have hij:i+j<L:=ad
   have c2:(i:Int)+(j:Int)=((i+j:Nat):Int):=ad
   simp only[bK5];left;rw[c2,bE];refine⟨ae,ae,trivial,_,i+j,g<|i+j,rfl,aO0 hij,by rw[qS hij,a7 ad],.inr ⟨smg,Sm.pow (ok.bb j) (by have:=ok.e8;lia)⟩,_,rfl,!(j:Int),!b j,?_⟩
   rw[a62 hij];have:(rwF L λx=>if x=i+j then g (i+j)-g (i+d)*b j else if x<i+j then divS b d i g x else g x)=rwF L λm=>if m<i+(j+1)then divS b d i g m else g m:=by
    apply fZ
    intro m hm
    by_cases c:m=i+j
    .subst c;rw[a8 rfl,a8 ad]
     unfold divS shF;rw[a8 ad,show i+j-i=j by lia]
    .rw[a7 c]
     by_cases c3:m<i+j
     .rw[a8 c3,a8 ad]
     .rw[a7 c3,a7 ad]
   rw[this]
  .rintro ρ ⟨z8,z9,rfl⟩;have eg:(rwF L λm=>if m<i+(d+1)then divS b d i g m else g m)=rwF L (divS b d i g):=by
    apply fZ
    intro m hm
    by_cases c:m<i+(d+1)
    .rw[a8 c]
    .rw[a7 c];unfold divS shF;rw[a8 ad,ok.beyond _ ad]
     lia
   rw[eg];have en:N-k=i+1:=ad
   have en2:N-(k+1)=i:=ad
   rw[en]at hL hQ;refine⟨_,_,_,_,_,_,rfl,by rw[en2];exact hL,λx hx=> ?_,?_⟩
   .rw[en2,hQ x hx]
    by_cases c:x<i
    .rw[a8 c,a8 ad]
     show(if x=i then _ else divQ b d i (divS b d i g) x)=_
     rw[a7 ad]
    .rw[a7 c]
     by_cases c2:x=i
     .subst c2;rw[a8 ad,a8 rfl]
      show(if x=x then _ else _)=_
      rw[a8 rfl]
     .rw[a7 ad,a7 c2]
   .have:=b23 hid hb ok.bb;rw[show a+(e+1)*(k+1)=a+(e+1)*k+(e+1)by rw[mul_succ];lia]
    exact this
 .rintro ρ ⟨g,q,z6,z7,z8,z9,rfl,hL,hQ,hb⟩;right;unfold pQ;rw[Nat.sub_self]at hL hQ;have hg:g=divL b d N f:=hL;have hq: ∀x,x<N->divQ b d N f x=q x:=λx hx=>by rw[hQ x hx,a7 ad]
  left
  refine⟨N,q,rfl,ad,?_⟩
  refine⟨L,g,rfl,ad,?_⟩
  left
  refine⟨ac,?_⟩
  have e3:dB (divQ b d N f) N=dB q N:=aA2 λm hm=>hq m hm
  have e4:rwF (dB q N) (divQ b d N f)=rwF (dB q N) q:=fZ λm hm=>hq m (by have:=yM q N;lia)
  rw[e3,e4,<-hg]at h;exact h
nonrec def conv (u b:∅):Nat->∅
 | 0,_=>0
 | n+1,m=>conv u b n m+u n*shF b n m
theorem iV {u b:∅}{d:Nat}(hb: ∀j,d<j->b j=0): ∀(n m:Nat),n+d<=m->conv u b n m=0
 | 0,m,_=>rfl
 | n+1,m,h=>by
  show conv u b n m+u n*shF b n m=0
  rw[iV hb n m ad]
  unfold shF;rw[a8 ad,hb _ ad]
  lia
theorem aU9 {u b low:∅}{d:Nat}(h1:b d=1)(hb: ∀j,d<j->b j=0)(hl: ∀m,d<=m->low m=0): ∀(n:Nat),divL b d n (λm=>conv u b n m+low m)=low/\ ∀x,x<n->divQ b d n (λm=>conv u b n m+low m) x=u x
 | 0=>⟨by funext m;show 0+low m=low m;lia,λx hx=>ad⟩
 | n+1=>by
  have top:conv u b (n+1) (n+d)+low (n+d)=u n:=by
   show conv u b n (n+d)+u n*shF b n (n+d)+low (n+d)=u n
   rw[iV hb n _<|aC _,hl _ ad]
   unfold shF;rw[a8 ad,show n+d-n=d by lia,h1]
   lia
  have st:divS b d n (λm=>conv u b (n+1) m+low m)=λm=>conv u b n m+low m:=by
   funext m
   show(conv u b (n+1) m+low m)-(conv u b (n+1) (n+d)+low (n+d))*shF b n m=_
   rw[top];show conv u b n m+u n*shF b n m+low m-u n*shF b n m=_
   lia
  obtain⟨i1,i2⟩:=aU9 (u:=u) h1 hb hl n;refine⟨?_,λx hx=> ?_⟩
  .show divL b d n (divS b d n _)=low
   rw[st];exact i1
  .show(if x=n then _ else divQ b d n (divS b d n _) x)=u x
   rw[st]
   by_cases c:x=n
   .rw[a8 c,c];exact top
   .rw[a7 c];exact i2 x ad
def xM:Φ:=λds Q=> ∃(n:Nat) (f:∅),ds=[cB<|rwF n f]/\n<=1000/\(n=0\/f (n-1)≠0)/\Q (.pu<|.bl true)
def uG:US:=(dW<|bW8 (uOp (i5 false) (lQ<|b6 0)<|@0)<|uOp (i5 true) (uIx (b6 0)<|yC<|@1)<|@0)
def uH:US:=(b4 (jW (aR5<|fX<|aX aM3<|a9 (hZ [] [none,none] 1 (oU<|aD 0) (eU 0) (λρ Q=>Q true ρ)<|aX uE<|a9 (aD 0) aP) aP) (dW<|uC<|.bl false) gF) uG)
def xN:US:=(b4 (jW (aR5<|fX<|aX aR7<|a9 (aD 0)<|a9 (uC<|.ty "tuple") aP) (dW<|uC<|.bl false) gF) uH)
theorem bD7 (Q:B->Ev->Prop)(z:Option B)(dJ:Ev)(r:List Int)(hr:r.length<=1000)(h:Q (.ow<|(replicate r.length true).map D.bl) (some (.pu<|.tup<|r.map .int)::dJ)) :
  (hZ [] [none,none] 1 (oU<|aD 0) (eU 0) (λρ Q=>Q true ρ) (aX uE<|a9 (aD 0) aP):UE) (some (.pu<|.tup<|r.map .int)::dJ) Q:=by
 refine iU (t0:=0) r.length (λk=>(r.map D.int).getD k .non) (some (.pu<|.tup<|r.map .int)::dJ) ?_ ad (λx l=>[x,↑l]) none rfl (λ_ _ _=>rfl) (λ_ _=>e6 _) (λ_ _ _ q=>q) (λ_ _ _=>rfl) (λ_=> .bl true) ?_ ?_
 .intro Q' q;left;rw[aK];exact q
 .intro k l Q' hk q;obtain⟨z,hz⟩:=aU4 (ys:=r) (i:=k) (by rw[aK];exact hk)
  rw[hz]at q⊢;left;exact⟨z,rfl,q⟩
 .have e:(List.range r.length).map (λ_=>D.bl true)=(replicate r.length true).map D.bl:=by apply oE<;>simp
  rw[e];exact h
theorem a21 (h:0<n):atI ((rwF n f).map D.int) (-1)=some (.int<|f<|n-1):=by
 unfold L2.atI;have e:ixN ((rwF n f).map D.int).length (-1)=some (n-1):=by
  unfold ixN;rw[bE,a7 ac,a8 ad]
  congr 1
  lia
 rw[e];exact qS ad
theorem b24: Ra xM xN ["f"]:=by
 rintro ds Q ⟨n,f,rfl,hn,hl,h⟩;unfold xN;simp only[cB];show(b4 _ _:US) _ [~~~.tup ((rwF n f).map .int)];rw[b5];have three:uG {Q with} [~~~.tup ((rwF n f).map .int)]:=by
  unfold uG;left;rw[bE];split
  .rename_i h0
   have h0':n=0:=by exists h0
   simpa[h0']using h
  .rename_i h0
   have h0':n≠0:=by exists h0
   rw[a21 ad]
   right;rcases hl with h1|h1
   .lia
   .simpa[h1]using h
 have two:uH {Q with} [~~~.tup ((rwF n f).map .int)]:=by
  unfold uH;rw[b5];refine(show(aR5<|fX _) _ _ from ?_)
  show(aX aM3<|a9 _ aP) _ _
  rw[p8,pA];refine bD7 _ none [] (rwF n f) (by rw[b76];exact hn) ?_
  left
  rw[oW];right;have e2:(replicate (rwF n f).length true).all id=true:=ae
  rw[e2]
  exists three
 left
 try simp only[fN,kO,dF]
 exact two
def b25:Φ:=λds Q=> ∃(n:Nat) (f:∅),ds=[.lst<|(rwF n f).map .int]/\n<=1000/\Q (.pu<|cB<|rwF (dB f n) f)
def b26:US:=(b4 (cN 1<|lQ<|b6 0)<|b4 (aL7 (aZ6 (fX<|uOp (tW λi j=>decide (j<i)) (aD 1)<|@0)<|fX<|uOp (i5 false) (uIx (b6 0)<|uOp M.gSub (aD 1)<|@1)<|@0)<|cN 1<|uOp M.gSub (aD 1)<|@1)<|dW<|aX lN<|a9 (uSl (b6 0) sN<|a77<|aD 1) aP)
theorem rd_cut: Ra b25 b26 ["r","s"]:=by
 rintro ds Q ⟨n,f,rfl,hn,h⟩;unfold b26;show(b4 _ _:US) _ [~~~.lst ((rwF n f).map .int),none];rw[b5];left;rw[bE];refine⟨λm ρ=>ρ=[~~~.lst ((rwF n f).map .int),!(m:Int)]/\m<=n/\dB f m=dB f n,⟨n,rfl,aC _,rfl⟩,?_⟩
 rintro m ρ ⟨rfl,hm,hc⟩;left;have fin:dB f m=m->Q (.pu<|.tup<|cutD ((rwF n f).map D.int) none<|some (m:Int)):=λe=>by
  rw[bP8 _ _ (by rw[bE];exact hm),<-oK,aA3 _ _ _ hm]
  rw[<-hc,e]at h;exact h
 split
 .rename_i h0
  obtain⟨m',rfl⟩: ∃m',m=m'+1:=⟨m-1,ad⟩
  rw[show((m'+1:Nat):Int)-1=(m':Int)by lia,l6<|show m'<n by lia]
  right;split
  .rename_i h1
   refine⟨m',ad,rfl,ad,?_⟩
   rw[<-hc];show _=if f m'=0 then dB f m' else m'+1;rw[a8 h1]
  .rename_i h1
   refine fin ?_
   show(if f m'=0 then dB f m' else m'+1)=m'+1
   rw[a7 h1]
 .have:m=0:=ad
  subst this;exact fin rfl
theorem b27 (hf: ∀m,n<=m->f m=0): ∀m,dB f n<=m->f m=0:=λm hm=>by
 by_cases c:m<n
 .exact aI6 f n m hm c
 .exact hf m ad
nonrec def md (p:Int)(f:∅):∅:=λj=>f j%p
nonrec def a42 (c p:Int):∅
 | 0=>1
 | n+1=>a42 c p n*c%p
theorem aA5 {c p:Int}(hp:2<=p): ∀n,0<=a42 c p n/\a42 c p n<p
 | 0=>⟨by show(0:Int)<=1;lia,by show(1:Int)<p;lia⟩
 | n+1=>⟨bC _ ad,b9 _ ad⟩
structure Pr (p:Int):Prop where
 lo:2<=p
 hi:p<200
 inv: ∀c:Int,0<c->c<p->a42 c p (p.toNat-2)*c%p=1
def Cg (p:Int)(f g:∅):Prop:= ∀m,f m%p=g m%p
theorem Cg.divS {p:Int}{b f g:∅}{d n:Nat}(h:Cg p f g):Cg p (divS b d n f) (divS b d n g):=λm=>by
 show(f m-f (n+d)*shF b n m)%p=(g m-g (n+d)*shF b n m)%p
 have h1:=h m;have h2:f (n+d)*shF b n m%p=g (n+d)*shF b n m%p:=by rw[cD,h<|n+d,<-cD]
 rw[jJ,h1,h2,<-jJ]
theorem Cg.divL {p:Int}{b:∅}{d:Nat}: ∀(n:Nat) {f g:∅},Cg p f g->Cg p (divL b d n f) (divL b d n g)
 | 0,_,_,h=>h
 | n+1,_,_,h=>Cg.divL n h.divS
theorem Cg.divQ {p:Int}{b:∅}{d:Nat}: ∀(n:Nat) {f g:∅},Cg p f g->Cg p (divQ b d n f) (divQ b d n g)
 | 0,_,_,h=>λ_=>rfl
 | n+1,f,g,h=>λx=>by
  show(if x=n then f (n+d)else M.divQ b d n (M.divS b d n f) x)%p=(if x=n then g (n+d)else M.divQ b d n (M.divS b d n g) x)%p
  by_cases c:x=n
  .rw[a8 c,a8 c];exact h _
  .rw[a7 c,a7 c];exact Cg.divQ n h.divS x
theorem a22 {b:∅}{d:Nat}: ∀(n:Nat) (f:∅) (x:Nat),n<=x->divQ b d n f x=0
 | 0,_,_,_=>rfl
 | n+1,f,x,h=>by
  show(if x=n then f (n+d)else divQ b d n (divS b d n f) x)=0
  rw[a7 ad]
  exact a22 n _ x ad
theorem a63 {p:Int}{u u' b b':∅}(h: ∀i j,u' i*b' j%p=u i*b j%p): ∀n,Cg p (conv u' b' n) (conv u b n)
 | 0,_=>rfl
 | n+1,m=>by
  show(conv u' b' n m+u' n*shF b' n m)%p=(conv u b n m+u n*shF b n m)%p
  have h1:=a63 h n m;have h2:u' n*shF b' n m%p=u n*shF b n m%p:=by
   unfold shF
   by_cases c:n<=m
   .rw[a8 c,a8 c];exact h _ _
   .rw[a7 c,a7 c,bL,bL]
  rw[dE,h1,h2,<-dE]
theorem aV0 {u b:∅}{d:Nat}(hb: ∀j,d<j->b j=0):conv u b (U+1) (U+d)=u U*b d:=by
 show conv u b U (U+d)+u U*shF b U (U+d)=_
 rw[iV hb U _<|aC _];unfold shF;rw[show U+d-U=d by lia]
 lia
theorem bQ3 {t:Int}{B0 u low A:∅}{d:Nat}(hp:2<=p)(hB: ∀j,d<j->B0 j=0)(hU:U=0\/u (U-1)≠0)(uR: ∀j,0<=u j/\u j<p)(uz: ∀j,U<=j->u j=0)(lz: ∀j,d<=j->low j=0)(lR: ∀j,0<=low j/\low j<p)
  (ht:t*B0 d%p=1) (hA: ∀m,A m=(conv u B0 U m+low m)%p) (hn:U+d<=n) :
  let b:=λj=>t*B0 j%p
  let LA:=dB A n
  LA<=U+d/\(∀j,t*divQ b d (LA-d) A j%p=u j)/\(∀j,divL b d (LA-d) A j%p=low j)/\(∀m,LA<=m->divL b d (LA-d) A m%p=0):=by
 intro b LA;have b1:b d=1:=ht;have bz: ∀j,d<j->b j=0:=λj hj=>by
  show t*B0 j%p=0
  rw[hB j hj,bL,bT]
 have tc: ∀x:Int,t*(B0 d*x)%p=x%p:=λx=>by
  rw[<-gO,cD,ht,sI,fO]
 have cg:Cg p A (λm=>conv (λi=>B0 d*u i) b U m+low m):=λm=>by
  rw[hA m,fO];have:=a63 (p:=p) (u:=u) (b:=B0) (u':=λi=>B0 d*u i) (b':=b) (λi j=>by
   show B0 d*u i*(t*B0 j%p)%p=u i*B0 j%p
   rw[cD,fO,<-cD];have e:B0 d*u i*(t*B0 j)=t*(B0 d*(u i*B0 j)):=by
    simp only[sE,Int.mul_left_comm,gO]
   rw[e,tc]) U m
  show(conv u B0 U m+low m)%p=(conv (λi=>B0 d*u i) b U m+low m)%p
  rw[dE,<-this,<-dE]
 obtain⟨e1,e2⟩:=aU9 (u:=λi=>B0 d*u i) (low:=low) b1 bz lz U
 have Az: ∀m,U+d<=m->A m=0:=λm hm=>by
  rw[hA m,iV hB U m hm,lz m ad]
  exact bT _
 have hL:(U=0/\LA<=d)\/(0<U/\LA=U+d):=by
  have hle:LA<=U+d:=by
   rcases aI5 A n with h|h
   .show dB A n<=U+d
    lia
   .exact rD λq=>h (Az _ (by show U+d<=LA-1;lia))
  by_cases c:U=0
  .exact .inl ⟨c,ad⟩
  .refine .inr ⟨ad,?_⟩
   refine nN hn (λm m1 m2=>Az m m1) (.inr λq=> ?_)
   obtain⟨U',rfl⟩: ∃U',U=U'+1:=⟨U-1,ad⟩
   rw[show U'+1+d-1=U'+d by lia,hA,aV0 hB,lz _ ad,fP]at q
   have h1:=tc (u U');rw[cD,show B0 d*u U'=u U'*B0 d from sE _ _,q,bL,bT,bR (uR _).1 (uR _).2]at h1
   rcases hU with h|h
   .lia
   .exact h (by exists h1.symm)
 have hN:LA-d=U:=ad
 have r: ∀j,divL b d U A j%p=low j:=λj=>by
  rw[Cg.divL U cg j,e1,bR (lR j).1 (lR j).2]
 refine⟨ad,λj=> ?_,λj=>by rw[hN];exact r j,λm hm=> ?_⟩
 .rw[hN]
  by_cases c:j<U
  .have h1:=Cg.divQ (b:=b) (d:=d) U cg j;rw[e2 j c]at h1;rw[cD,h1,<-cD];show t*(B0 d*u j)%p=u j;rw[tc,bR (uR _).1 (uR _).2]
  .rw[a22 U A j ad,uz j ad,bL,bT]
 .rw[hN];rcases hL with⟨h1,h2⟩| ⟨h1,h2⟩
  .subst h1;show A m%p=0;rw[b27 (λm hm=>Az m ad) m hm]
   exact bT _
  .rw[r m];exact lz m ad
def eI:Φ:=λds Q=> ∃(n:Nat) (f:∅) (p:Int),ds=[cB<|rwF n f,.int p]/\n<=1000/\0<p/\Q (.pu<|cB<|rwF (dB (md p f) n)<|md p f)
def q0:US:=(dW<|aX uF<|a9 (aX lN<|a9 (hZ [1] [none,some 1,none] 2 (oU<|aD 0) (eU 0) (λρ Q=>Q true ρ)<|uOp iS (aD 0)<|aD 1) aP) aP)
theorem c25 (Q:B->Ev->Prop)(n:Nat)(f:∅)(p:Int)(hn:n<=1000)(hp:0<p)(k:Nat->D)(dJ:Ev)(x0:D)(hx:x0=cB (rwF n f)\/x0= .lst ((rwF n f).map .int))(h:Q (.ow<|(rwF n<|md p f).map .int) (some (.pu x0)::some (.pu<|.int p)::dJ)) :
  (hZ [1] [none,some 1,none] 2 (oU<|aD 0) (eU 0) (λρ Q=>Q true ρ) (uOp iS (aD 0)<|aD 1):UE) (some (.pu x0)::some (.pu<|.int p)::dJ) Q:=by
 refine iU (t0:=0) n (λk=>((rwF n f).map D.int).getD k .non) (some (.pu x0)::some (.pu<|.int p)::dJ) ?_ ad (λx l=>[x,!p,↑l]) none rfl (λ_ _ _=>rfl) (λ_ _=>e6 _) (λ_ _ _ q=>q) (λ_ _ _=>rfl) (λk=> .int (md p f k)) ?_ ?_
 .intro Q' q;rcases hx with rfl|rfl
  .simp only[cB]at q⊢;left;rw[bE];exact q
  .left
   rw[bE];exact q
 .intro k l Q' hk q;rw[pB hk]at q⊢;left;refine⟨ad,?_⟩
  rw[bU _ hp];exact q
 .rw[yL];exact h
theorem aE1: Ra eI q0 ["r","p"]:=by
 rintro ds Q ⟨n,f,p,rfl,hn,hp,h⟩;unfold q0;show(dW _:US) _ [~~~cB (rwF n f),!p];rw[nM,p8,pA,p8,pA];refine c25 _ n f p hn hp (λ_=> .non) [] _ (.inl rfl) ?_
 left
 exact⟨n,md p f,rfl,hn,h⟩
theorem b28 (u b:∅)(i N:Nat):(rwF N λm=>if m<i+0 then conv u b (i+1) m else conv u b i m)=rwF N (conv u b i):=by
 apply fZ
 intro m hm
 by_cases c:m<i+0
 .rw[a8 c];show conv u b i m+u i*shF b i m=_;unfold shF
  lia
 .rw[a7 c]
theorem b29 {u b:∅}{V N:Nat}(hz: ∀j,V<=j->b j=0):(rwF N λm=>if m<i+V then conv u b (i+1) m else conv u b i m)=rwF N (conv u b (i+1)):=by
 apply fZ
 intro m hm
 by_cases c:m<i+V
 .rw[a8 c]
 .rw[a7 c];show _=conv u b i m+u i*shF b i m;unfold shF;rw[hz _ ad]
  lia
theorem b30 (u b:∅)(i j N:Nat):(rwF N λx=>if x=i+j then conv u b i (i+j)+u i*b j else if x<i+j then conv u b (i+1) x else conv u b i x)=rwF N λm=>if m<i+(j+1)then conv u b (i+1) m else conv u b i m:=by
 apply fZ
 intro m hm
 by_cases c:m=i+j
 .subst c;rw[a8 rfl,a8 ad]
  show _=conv u b i (i+j)+u i*shF b i (i+j)
  unfold shF;rw[a8 ad,show i+j-i=j by lia]
 .rw[a7 c]
  by_cases c3:m<i+j
  .rw[a8 c3,a8 ad]
  .rw[a7 c3,a7 ad]
theorem yN {u b:∅}{U:Nat}: ∀n,(∀j,U<=j->j<n->u j=0)->U<=n-> ∀m,conv u b n m=conv u b U m
 | 0,h,h2,m=>by rw[show U=0 by lia]
 | n+1,h,h2,m=>by
  by_cases c:U=n+1
  .rw[c]
  .show conv u b n m+u n*shF b n m=_
   rw[h n ad ad,yN n (λj a c=>h j a ad) ad m]
   lia
theorem md_nat (h1:2<=p)(h2:p<200)(f:∅)(j:Nat):(md p f j).natAbs<=2^8:=by
 unfold md;have a1:=bC (f j) (show p≠0 by lia)
 have a2:=b9 (f j) (show 0<p by lia)
 lia
def pS:Φ:=λds Q=> ∃(n:Nat) (f:∅) (k p:Int),ds=[cB<|rwF n f,.int k,.int p]/\n<=1000/\0<=k/\k<200/\0<p/\Q (.pu<|cB<|rwF (dB (λj=>k*f j%p) n) λj=>k*f j%p)
def uI:US:=(dW<|aX eI<|a9 (aX lN<|a9 (hZ [1] [none,some 1,none] 2 (oU<|aD 0) (eU 0) (λρ Q=>Q true ρ)<|uOp fT (aD 1)<|aD 0) aP)<|a9 (aD 2) aP)
theorem aV1: Ra pS uI ["f","k","p"]:=by
 rintro ds Q ⟨n,f,k,p,rfl,hn,k0,k9,hp,h⟩;unfold uI;show(dW _:US) _ [~~~cB (rwF n f),!k,!p];rw[nM,p8,pA,p8,pA]
 refine iU (t0:=0) n (λi=>((rwF n f).map D.int).getD i .non) [~~~cB (rwF n f),!k,!p] ?_ ad (λx l=>[x,!k,↑l]) none rfl (λ_ _ _=>rfl) (λ_ _=>e6 _) (λ_ _ _ q=>q) (λ_ _ _=>rfl) (λi=> .int (k*f i)) ?_ ?_
 .intro Q' q;simp only[cB]at q⊢;left;rw[bE];exact q
 .intro i l Q' hk q;rw[pB hk]at q⊢;left;exact⟨cmL ad ad,q⟩
 .rw[yL];left;exact⟨n,λi=>k*f i,p,rfl,hn,hp,h⟩
def mS:Φ:=λds Q=> ∃c p:Int,ds=[.int c,.int p]/\0<=c/\c<p/\2<=p/\p<200/\Q (.pu<|.int<|a42 c p<|p.toNat-2)
def mT:US:=(b4 (cN 2<|@1)<|b4 (tV (tI<|a9 (uOp M.gSub (aD 1)<|@2) aP) (eU 3)<|cN 2<|uOp iS (uOp fT (aD 2)<|aD 0)<|aD 1)<|a71 2)
theorem a43: Ra mS mT ["c","p","v","s"]:=by
 rintro ds Q ⟨c,p,rfl,c0,c1,p2,p9,h⟩;unfold mT;show(b4 _ _:US) _ [!c,!p,none,none];left;refine dI (p.toNat-2) (λk=> .int (0+k)) [!c,!p,!1,none] ?_
  (λk ρ=> ∃z,ρ=[!c,!p,!a42 c p k,z]) ⟨none,rfl⟩ ?_ ?_
 .intro Q' q;left;refine⟨⟨ad,ad⟩,?_⟩
  rw[show(p-2).toNat=p.toNat-2 by lia]
  exact q
 .rintro k ρ hk ⟨z,rfl⟩;have:=aA5 (c:=c) p2 k;left;refine⟨ae,cmL ad ad,ad,!(0+(k:Int)),?_⟩
  rw[bU _ ad]
  rfl
 .rintro ρ ⟨z,rfl⟩;left;exact h
def mU:Φ:=λds Q=> ∃(n k d:Nat) (f g:∅) (p:Int),ds=[cB<|rwF n f,cB<|rwF k g,.int p]/\n<=50/\k<=50/\Pr p/\(∀j,k<=j->g j=0)/\d<k/\(∀j,d<j->md p g j=0)/\md p g d≠0/\
 ∀t,t*md p g d%p=1->0<=t->t<p->
  let b:=λj=>t*md p g j%p
  let LA:=dB (md p f) n
  let q:=divQ b d (LA-d) (md p f)
  let r:=divL b d (LA-d) (md p f)
  Q (.pu<|.tup [cB<|rwF (dB (λj=>t*q j%p)<|dB q<|LA-d) λj=>t*q j%p,cB<|rwF (dB (md p r)<|dB r LA)<|md p r])
def qT:US:=(dW<|gS<|a9 (aX pS<|a9 (aD 5)<|a9 (aD 4)<|a9 (aD 2) aP)<|a9 (aX eI<|a9 (aD 6)<|a9 (aD 2) aP) aP)
def l9:US:=(b4 (bB7 (aX l7<|a9 (aX eI<|a9 (aD 0)<|a9 (aD 2) aP)<|a9 (aX pS<|a9 (aD 3)<|a9 (aD 4)<|a9 (aD 2) aP) aP)<|y9<|gT 5<|gT 6 vH) qT)
def mV:US:=(b4 (cN 3<|aX eI<|a9 (aD 1)<|a9 (aD 2) aP)<|b4 (cN 4<|aX mS<|a9 (uIx (b6 3)<|yC<|@1)<|a9 (aD 2) aP) l9)
theorem a44: Ra mU mV ["a","b","p","l","t","q","r"]:=by
 rintro ds Q ⟨n,k,d,f,g,p,rfl,hn,hk,pp,gz,dk,dz,d0,h⟩;have p2:=pp.lo;have p9:=pp.hi;unfold mV;show(b4 _ _:US) _ [~~~cB (rwF n f),~~~cB (rwF k g),!p,none,none,none,none];have ed:dB (md p g) k=d+1:=nN ad (λm m1 m2=>dz m ad) (.inr<|by exists d0)
 have c1:=bC (g d) (show p≠0 by lia)
 have c2:=b9 (g d) (show 0<p by lia)
 have c3:0<md p g d:=by
  have:md p g d=g d%p:=rfl
  lia
 have tR:=aA5 (c:=md p g d) p2 (p.toNat-2);have ht:=pp.inv _ c3 c2;generalize et:a42 (md p g d) p (p.toNat-2)=t at tR ht;have bA: ∀j,0<=t*md p g j%p/\t*md p g j%p<p:=λj=>⟨bC _ ad,b9 _ ad⟩
 have hc:dB (λj=>t*md p g j%p) (d+1)=d+1:=nN (aC _) (λm a b=>ad) (.inr (by
  show t*md p g d%p≠0
  rw[ht];decide))
 have LA9:=yM (md p f) n;have low:cB (rwF (dB (md p g) k)<|md p g)= .tup ((rwF (d+1)<|md p g).map .int):=by rw[ed];rfl
 left
 refine⟨k,g,p,rfl,ad,ad,?_⟩
 rw[low];left;rw[a21 ad]
 left
 refine⟨md p g d,p,rfl,ad,c2,p2,p9,?_⟩
 rw[et];show l9 _ [~~~cB (rwF n f),~~~cB (rwF k g),!p,~~~cB (rwF (d+1) (md p g)),!t,none,none];unfold l9;left;refine⟨n,f,p,rfl,ad,ad,?_⟩
 refine⟨d+1,md p g,t,p,rfl,ad,ad,ad,ad,?_⟩
 rw[hc];refine⟨dB (md p f) n,d,8,8,md p f,λj=>t*md p g j%p,rfl,⟨ad,ad,ht,λj hj=>by
  show t*md p g j%p=0
  rw[dz j hj,bL,bT],λm _=>md_nat p2 p9 f m,λj=>by
   have:=bA j;show(t*md p g j%p).natAbs<=256
   lia,ad,ac⟩,?_⟩
 have hh:=h t ht tR.1 tR.2;have q9:=yM (divQ (λj=>t*md p g j%p) d (dB (md p f) n-d)<|md p f) (dB (md p f) n-d)
 have r9:=yM (divL (λj=>t*md p g j%p) d (dB (md p f) n-d)<|md p f) (dB (md p f) n)
 simp only[]at hh;left;refine⟨ae,ae,trivial,?_⟩
 unfold qT;left;refine⟨_,_,t,p,rfl,ad,ad,ad,ad,?_⟩
 refine⟨_,_,p,rfl,ad,ad,?_⟩
 left
 exact⟨ac,hh⟩
theorem yO {tt:UT}(n:Nat)(it:Nat->D)(ρ1:Ev)(hui: ∀Q:Nat->(Nat->D)->Ev->Prop,Q n it ρ1->ui ρ Q)(hn:n<=1000)
  (G:Option B->List D->Ev) (x0:Option B) (h0:pP (xI ρ1 js) cap last=G x0 []) (h1: ∀x l b,(G x l).set t0 (some b)=G (some b) l) (h1': ∀x l,t0< (G x l).length) (h2: ∀x l (Q:List D->Prop),Q l->kB (G x l) last Q) (h3: ∀x l l',(G x l).set last (↑l')=G x l')
  (c:Nat->Bool) (f:Nat->D) (htt: ∀i l (Q':Bool->Ev->Prop),i<n->Q' (c i) (G (~~~it i) l)->tt (G (~~~it i) l) Q')
  (hte: ∀i l (Q':B->Ev->Prop),i<n->Q' (.pu<|f i) (G (~~~it i) l)->te (G (~~~it i) l) Q') (hq:Q (.ow<|((List.range n).filter c).map f) (xI ρ1 js)) :
  hZ js cap last ui (eU t0) tt te ρ Q:=by
 refine hui _ ⟨λi ρ'=> ∃x,ρ'=G x (((List.range i).filter c).map f),⟨x0,h0⟩,?_,?_⟩
 .rintro i ρ' hi ⟨x,rfl⟩;refine⟨h1' _ _,?_⟩;rw[h1];right;refine htt i _ _ hi ?_
  by_cases hc:c i=true
  .rw[a8 hc];refine hte i _ _ hi (h2 _ _ _ ⟨?_,~~~it i,?_⟩)
   .rw[aK];exact rM (List.length_filter_le ..) (by rw[wX];exact b7 hi (aN hn ac))
   .rw[h3,oH,List.filter_append,bS];simp[hc];rfl
  .rw[a7 hc];refine⟨~~~it i,?_⟩;rw[oH,List.filter_append,bS];simp[hc]
 .rintro ρ' ⟨x,rfl⟩;exact h2 _ _ _ hq
theorem aO1 {k:Int}(h0:0<=k)(h1:k<ns.length): ∃z∈ns,atI (ns.map D.int) k=some (.int z):=by
 obtain⟨i,rfl⟩: ∃i:Nat,k=(i:Int):=⟨k.toNat,ad⟩
 have hi:i<ns.length:=ad
 exact⟨ns[i],e9 hi,dS (by rw[bP,aW hi];rfl)⟩
nonrec def prB (i k:Nat):Bool:=if(2:Int)+(i:Int)=2+(k:Int)then true else not<|decide (((2:Int)+(i:Int))%(2+(k:Int))=0)
nonrec def prC (i:Nat):Bool:=((List.range 13).map<|prB i).all id
nonrec def prL:List Int:=((List.range 198).filter prC).map λi:Nat=>(2:Int)+(i:Int)
theorem aV2 {c p:Nat}(hp:2<=p): ∀n,a42 (c:Int) (p:Int) n=((c^n%p:Nat):Int)
 | 0=>by
  rw[Nat.pow_zero,Nat.mod_eq_of_lt ad]
  rfl
 | n+1=>by
  show a42 (c:Int) (p:Int) n*(c:Int)%(p:Int)=_
  rw[aV2 hp n,<-Int.natCast_mul,<-Int.natCast_emod,Nat.pow_succ,Nat.mod_mul_mod]
theorem pr_all:prL.all (λp=>decide (2<=p)&&decide (p<200)&&(List.range p.toNat).all λc=>decide (c=0)||decide (c^(p.toNat-2)%p.toNat*c%p.toNat=1))=true:=af
theorem bQ4:prL.length=46:=af
theorem aO2 (h:p∈prL):Pr p:=by
 have h1:=cJ.mp pr_all p h;simp only[bK,oC,cJ,bW,Bool.or_eq_true]at h1;obtain⟨⟨a,b⟩,c⟩:=h1;refine⟨a,b,λx x0 x1=> ?_⟩
 obtain⟨q,rfl⟩: ∃q:Nat,p=(q:Int):=⟨p.toNat,ad⟩
 obtain⟨y,rfl⟩: ∃y:Nat,x=(y:Int):=⟨x.toNat,ad⟩
 have h2:=c y ad
 rw[bB]at h2⊢;rw[aV2 ad,<-Int.natCast_mul,<-Int.natCast_emod]
 rcases h2 with h2|h2
 .lia
 .rw[h2];rfl
def vB:Φ:=λds Q=>ds=[]/\Q (.ow<|prL.map .int)
def zV:US:=(dW<|hZ [] [none,none] 1 (b59<|a9 @2<|a9 @200 aP) (eU 0) (fX<|aX aM3<|a9 (hZ [0] [none,some 0,none] 2 (b59<|a9 @2<|a9 @15 aP) (eU 0) (λρ Q=>Q true ρ)<|bW8 (uOp (i5 false) (aD 1)<|aD 0)<|uOp (i5 true) (uOp iS (aD 1)<|aD 0)<|@0) aP)<|aD 0)
theorem bD8: Ra vB zV []:=by
 rintro ds Q ⟨rfl,h⟩;unfold zV;show(dW _:US) _ [];rw[nM];refine yO (t0:=0) 198 (λk=> .int (2+(k:Int))) [] ?_ ac (λx l=>[x,↑l]) none rfl (λ_ _ _=>rfl) (λ_ _=>e6 _) (λ_ _ _ q=>q) (λ_ _ _=>rfl) prC (λi=> .int (2+(i:Int))) ?_ ?_ ?_
 .intro Q' q;left;exact⟨ac,q⟩
 .intro i l Q' hi q;show(aX aM3<|a9 _ aP) _ _;rw[p8,pA];refine iU (t0:=0) 13 (λk=> .int (2+(k:Int))) [!(2+(i:Int)),↑l] ?_ ac (λx l'=>[x,!(2+(i:Int)),↑l']) none rfl (λ_ _ _=>rfl) (λ_ _=>e6 _) (λ_ _ _ q=>q) (λ_ _ _=>rfl) (λk=> .bl (prB i k)) ?_ ?_
  .intro Q'' q';left;exact⟨ac,q'⟩
  .intro k l' Q'' hk q';left;unfold prB at q'
   by_cases c:(2:Int)+(i:Int)=2+(k:Int)
   .rw[a8 c]at q'⊢;exact q'
   .rw[a7 c]at q'⊢;refine⟨ad,?_⟩
    rw[bU _ ad]
    exact q'
  .have e:(List.range 13).map (λk=>D.bl (prB i k))=((List.range 13).map<|prB i).map D.bl:=by rw[kW];rfl
   rw[e];left;rw[oW];exact q
 .intro i l Q' hi q;left;exact q
 .have e:((List.range 198).filter prC).map (λi:Nat=>D.int (2+(i:Int)))=prL.map .int:=by unfold prL;rw[kW];rfl
  rw[e];exact h
def aA6:Φ:=λds Q=> ∃c q:Int,ds=[.int c,.int q]/\0<q/\ ∀p∈prL,Q (.pu<|.int p)
def zW:US:=(b4 (jW (fX<|uOp (i5 false) (uIx (b6 2)<|@0)<|@0) (dW<|uIx (uV<|aX vB aP)<|uOp iS (uIx (b6 2)<|@1)<|@6) gF)<|dW<|uIx (uV<|aX vB aP)<|uIx (b6 2)<|@1)
def aA7:US:=(b4 (cN 2<|aX p7<|a9 (aD 0)<|a9 (iP<|a9 @2<|a9 @46 aP)<|a9 (aD 1) aP) zW)
theorem bQ5: Ra aA6 aA7 ["c","p","f"]:=by
 rintro ds Q ⟨c,q,rfl,hq,h⟩;unfold aA7;show(b4 _ _:US) _ [!c,!q,none];rw[b5];left;refine⟨ac,c,[2,46],q,rfl,ac,hq,ac,λxs hx=> ?_⟩
 obtain⟨a,b,rfl⟩: ∃a b,xs=[a,b]:=by
  match xs,hx.1 with
  | [a,b],_=>exact⟨a,b,rfl⟩
 have b1:=hx.2 1 b 46 rfl rfl;have a0:atI [D.int a,.int b] 0=some (.int a):=dS (j:=0) rfl;have a1:atI [D.int a,.int b] 1=some (.int b):=dS (j:=1) rfl;show zW _ [!c,!q,↑[.int a,.int b]];unfold zW;left;rw[a0];right;split
 .refine⟨rfl,?_⟩
  left
  rw[a1];right;rw[bU _ ac]
  have c1:=bC b (show(6:Int)≠0 by decide)
  have c2:=b9 b (show(0:Int)<6 by decide)
  obtain⟨z,hz,e⟩:=aO1 (ns:=prL) c1 (by rw[bQ4];lia)
  rw[e];exact⟨ac,h z hz⟩
 .refine⟨rfl,?_⟩
  left
  rw[a1];right;obtain⟨z,hz,e⟩:=aO1 (ns:=prL) b1.1 (by rw[bQ4];lia)
  rw[e];exact h z hz
def qA:Φ:=λds Q=> ∃(c:Int) (m:Nat) (p q:Int),ds=[.int c,.int (m:Int),.int p,.int q]/\m<=100/\0<p/\p<18446744073709551616/\0<q/\ ∀f:∅,(∀j,0<=f j/\f j<p)->(∀j,m<=j->f j=0)->Q (.ow<|(rwF m f).map .int)
def qB:US:=(dW<|aX p7<|a9 (aD 0)<|a9 (uOp fT (iP<|a9 (aD 2) aP)<|aD 1)<|a9 (aD 3) aP)
theorem aE2: Ra qA qB ["c","m","p","q"]:=by
 rintro ds Q ⟨c,m,p,q,rfl,hm,hp,hp2,hq,h⟩;unfold qB;show(dW _:US) _ [!c,!(m:Int),!p,!q];left;rw[bB,qR];refine⟨ac,⟨ad,ad,aN (show 1*m<=100 by lia) ac⟩,c,replicate m p,q,rfl,by rw[cQ];lia,hq,λw hw=> ?_,λxs hx=> ?_⟩
 .rw[rF hw];exact⟨hp,hp2⟩
 .have el:xs.length=m:=by have:=hx.1;rwa [cQ]at this
  have e:=rwF_of xs;rw[el]at e;rw[e];refine h (λj=>xs.getD j 0) (λj=> ?_) (λj hj=> ?_)
  .by_cases c:j<m
   .have h1:xs[j]? =some xs[j]:=aW ad
    have:=hx.2 j xs[j] p h1 (by rw[nV,a8 c])
    show 0<=xs.getD j 0/\xs.getD j 0<p
    rw[bI,h1];exact this
   .show 0<=xs.getD j 0/\xs.getD j 0<p
    rw[bI,eK ad]
    exact⟨ac,hp⟩
  .show xs.getD j 0=0
   rw[bI,eK ad]
   rfl
theorem zX (N:Nat)(p:Int)(f:∅):rwF N (md p f)=(rwF N f).map λx=>x%p:=by
 unfold rwF;rw[kW];rfl
theorem a23 (p:Int)(u b:∅)(i N:Nat):rwF N (md p λm=>if m<i+0 then conv u b (i+1) m else conv u b i m)=rwF N (md p<|conv u b i):=by rw[zX,b28,<-zX]
theorem a24 (p:Int){u b:∅}{V N:Nat}(hz: ∀j,V<=j->b j=0):rwF N (md p λm=>if m<i+V then conv u b (i+1) m else conv u b i m)=rwF N (md p<|conv u b (i+1)):=by rw[zX,b29 hz,<-zX]
theorem a25 (p:Int)(u b:∅)(i j N:Nat):rwF N (md p λx=>if x=i+j then conv u b i (i+j)+u i*b j else if x<i+j then conv u b (i+1) x else conv u b i x)=rwF N (md p λm=>if m<i+(j+1)then conv u b (i+1) m else conv u b i m):=by rw[zX,b30,<-zX]
def sW:Φ:=λds Q=> ∃(U V:Nat) (u b:∅) (p:Int) (x:D),ds=[cB<|rwF U u,x,.int p]/\(x=cB (rwF V b)\/x= .lst ((rwF V b).map .int))/\U<=100/\V<=100/\0<p/\p<200/\(∀j,V<=j->b j=0)/\(∀j,0<=u j/\u j<p)/\(∀j,0<=b j/\b j<p)/\Q (.pu<|cB<|rwF (dB (md p<|conv u b U)<|U+V)<|md p<|conv u b U)
def qC:US:=(dW<|aX b25<|a9 (aD 3) aP)
def iW:US:=(b4 (cN 3<|uOp fT (iP<|a9 @0 aP)<|uOp j0 (lQ<|b6 0)<|lQ<|b6 1)<|b4 (tV (tI<|a9 (lQ<|b6 0) aP) (eU 4)<|tV (tI<|a9 (lQ<|b6 1) aP) (eU 5)<|b60 3 (uOp iS (uOp j0 (uIx (b6 3)<|uOp j0 (aD 4)<|aD 5)<|uOp fT (uIx (b6 0)<|aD 4)<|uIx (b6 1)<|aD 5)<|aD 2)<|uOp j0 (aD 4)<|aD 5) qC)
theorem rd_mtT (Q:B->Prop)(U V:Nat)(u b:∅)(p:Int)(U9:U<=100)(V9:V<=100)(p0:0<p)(p9:p<200)(hz: ∀j,V<=j->b j=0)(hu: ∀j,0<=u j/\u j<p)(hb: ∀j,0<=b j/\b j<p)(h:Q (.pu<|cB<|rwF (dB (md p<|conv u b U)<|U+V)<|md p<|conv u b U)) :
  iW {Q with} [~~~cB (rwF U u),~~~.tup ((rwF V b).map .int),!p,none,none,none]:=by
 unfold iW;simp only[cB]at h⊢;show(b4 _ _:US) _ [~~~.tup ((rwF U u).map .int),~~~.tup ((rwF V b).map .int),!p,none,none,none];left;rw[bE,bE,show(U:Int)+(V:Int)=((U+V:Nat):Int)by lia,bB,zT]
 refine⟨ac,⟨ad,ad,aN (show 1*(U+V)<=300 by lia) ac⟩,?_⟩
 refine dI U (λi=> .int (0+i)) [~~~.tup ((rwF U u).map .int),~~~.tup ((rwF V b).map .int),!p,some<|.ow<|(rwF (U+V) λ_=>0).map .int,none,none] ?_
  (λi ρ=> ∃x y,ρ=[~~~.tup ((rwF U u).map .int),~~~.tup ((rwF V b).map .int),!p,↑((rwF (U+V)<|md p<|conv u b i).map .int),x,y]) ⟨none,none,?_⟩ ?_ ?_
 .intro Q' q;left;rw[bE];refine⟨⟨ad,ad⟩,?_⟩
  rw[bB];exact q
 .have:(rwF (U+V) λ_=>0)=rwF (U+V) (md p<|conv u b 0):=fZ λm _=>by show(0:Int)=0%p;rw[bT]
  rw[this]
 .rintro i ρ hi ⟨x,y,rfl⟩;rw[cT];refine⟨ae,?_⟩
  show(tV _ _ _:US) _ [~~~.tup ((rwF U u).map .int),~~~.tup ((rwF V b).map .int),!p,↑((rwF (U+V)<|md p<|conv u b i).map .int),!(i:Int),y]
  refine dI V (λj=> .int (0+j)) [~~~.tup ((rwF U u).map .int),~~~.tup ((rwF V b).map .int),!p,↑((rwF (U+V)<|md p<|conv u b i).map .int),!(i:Int),y] ?_
   (λj ρ=> ∃y,ρ=[~~~.tup ((rwF U u).map .int),~~~.tup ((rwF V b).map .int),!p,some<|.ow<|(rwF (U+V)<|md p λm=>if m<i+j then conv u b (i+1) m else conv u b i m).map .int,!(i:Int),y]) ⟨y,by rw[a23]⟩ ?_ ?_
  .intro Q' q;left;rw[bE];refine⟨⟨ad,ad⟩,?_⟩
   rw[bB];exact q
  .rintro j ρ hj ⟨y,rfl⟩;rw[cT];have hij:i+j<U+V:=ad
   have c2:(i:Int)+(j:Int)=((i+j:Nat):Int):=ad
   have u1:=hu i;have b1:=hb j;left;rw[c2,l6 hij,l6 hi,l6 hj];right;rw[bE,aO0 hij];refine⟨ae,cmL ad ad,ad,!(j:Int),?_⟩
   rw[bU _ p0];have e1:(md p (λm=>if m<i+j then conv u b (i+1) m else conv u b i m) (i+j)+u i*b j)%p=(conv u b i (i+j)+u i*b j)%p:=by
    show((if i+j<i+j then conv u b (i+1) (i+j)else conv u b i (i+j))%p+u i*b j)%p=_
    rw[a7 ad,Int.emod_add_emod]
   rw[e1,a62 hij];have e2:(rwF (U+V) λx=>if x=i+j then(conv u b i (i+j)+u i*b j)%p else md p (λm=>if m<i+j then conv u b (i+1) m else conv u b i m) x)=rwF (U+V) (md p λx=>if x=i+j then conv u b i (i+j)+u i*b j else if x<i+j then conv u b (i+1) x else conv u b i x):=fZ λm _=>by
    unfold md;right
    by_cases c:m=i+j
    .rw[a8 c,a8 c]
    .rw[a7 c,a7 c]
   rw[e2,a25]
  .rintro ρ ⟨y,rfl⟩;rw[a24 p hz];exact⟨_,_,rfl⟩
 .rintro ρ ⟨x,y,rfl⟩;right;unfold qC;left;exact⟨U+V,md p<|conv u b U,rfl,ad,h⟩
theorem rd_mtL (Q:B->Prop)(U V:Nat)(u b:∅)(p:Int)(U9:U<=100)(V9:V<=100)(p0:0<p)(p9:p<200)(hz: ∀j,V<=j->b j=0)(hu: ∀j,0<=u j/\u j<p)(hb: ∀j,0<=b j/\b j<p)(h:Q (.pu<|cB<|rwF (dB (md p<|conv u b U)<|U+V)<|md p<|conv u b U)) :
  iW {Q with} [~~~cB (rwF U u),~~~.lst ((rwF V b).map .int),!p,none,none,none]:=by
 unfold iW;simp only[cB]at h⊢;show(b4 _ _:US) _ [~~~.tup ((rwF U u).map .int),~~~.lst ((rwF V b).map .int),!p,none,none,none];left;rw[bE,bE,show(U:Int)+(V:Int)=((U+V:Nat):Int)by lia,bB,zT]
 refine⟨ac,⟨ad,ad,aN (show 1*(U+V)<=300 by lia) ac⟩,?_⟩
 refine dI U (λi=> .int (0+i)) [~~~.tup ((rwF U u).map .int),~~~.lst ((rwF V b).map .int),!p,some<|.ow<|(rwF (U+V) λ_=>0).map .int,none,none] ?_
  (λi ρ=> ∃x y,ρ=[~~~.tup ((rwF U u).map .int),~~~.lst ((rwF V b).map .int),!p,↑((rwF (U+V)<|md p<|conv u b i).map .int),x,y]) ⟨none,none,?_⟩ ?_ ?_
 .intro Q' q;left;rw[bE];refine⟨⟨ad,ad⟩,?_⟩
  rw[bB];exact q
 .have:(rwF (U+V) λ_=>0)=rwF (U+V) (md p<|conv u b 0):=fZ λm _=>by show(0:Int)=0%p;rw[bT]
  rw[this]
 .rintro i ρ hi ⟨x,y,rfl⟩;rw[cT];refine⟨ae,?_⟩
  show(tV _ _ _:US) _ [~~~.tup ((rwF U u).map .int),~~~.lst ((rwF V b).map .int),!p,↑((rwF (U+V)<|md p<|conv u b i).map .int),!(i:Int),y]
  refine dI V (λj=> .int (0+j)) [~~~.tup ((rwF U u).map .int),~~~.lst ((rwF V b).map .int),!p,↑((rwF (U+V)<|md p<|conv u b i).map .int),!(i:Int),y] ?_
   (λj ρ=> ∃y,ρ=[~~~.tup ((rwF U u).map .int),~~~.lst ((rwF V b).map .int),!p,some<|.ow<|(rwF (U+V)<|md p λm=>if m<i+j then conv u b (i+1) m else conv u b i m).map .int,!(i:Int),y]) ⟨y,by rw[a23]⟩ ?_ ?_
  .intro Q' q;left;rw[bE];refine⟨⟨ad,ad⟩,?_⟩
   rw[bB];exact q
  .rintro j ρ hj ⟨y,rfl⟩;rw[cT];have hij:i+j<U+V:=ad
   have c2:(i:Int)+(j:Int)=((i+j:Nat):Int):=ad
   have u1:=hu i;have b1:=hb j;left;rw[c2,l6 hij,l6 hi,l6 hj];right;rw[bE,aO0 hij];refine⟨ae,cmL ad ad,ad,!(j:Int),?_⟩
   rw[bU _ p0];have e1:(md p (λm=>if m<i+j then conv u b (i+1) m else conv u b i m) (i+j)+u i*b j)%p=(conv u b i (i+j)+u i*b j)%p:=by
    show((if i+j<i+j then conv u b (i+1) (i+j)else conv u b i (i+j))%p+u i*b j)%p=_
    rw[a7 ad,Int.emod_add_emod]
   rw[e1,a62 hij];have e2:(rwF (U+V) λx=>if x=i+j then(conv u b i (i+j)+u i*b j)%p else md p (λm=>if m<i+j then conv u b (i+1) m else conv u b i m) x)=rwF (U+V) (md p λx=>if x=i+j then conv u b i (i+j)+u i*b j else if x<i+j then conv u b (i+1) x else conv u b i x):=fZ λm _=>by
    unfold md;right
    by_cases c:m=i+j
    .rw[a8 c,a8 c]
    .rw[a7 c,a7 c]
   rw[e2,a25]
  .rintro ρ ⟨y,rfl⟩;rw[a24 p hz];exact⟨_,_,rfl⟩
 .rintro ρ ⟨x,y,rfl⟩;right;unfold qC;left;exact⟨U+V,md p<|conv u b U,rfl,ad,h⟩
theorem aO3: Ra sW iW ["f","g","p","r","i","j"]:=by
 rintro ds Q ⟨U,V,u,b,p,X,rfl,hx,U9,V9,p0,p9,hz,hu,hb,h⟩;rcases hx with rfl|rfl
 .exact rd_mtT Q U V u b p U9 V9 p0 p9 hz hu hb h
 .exact rd_mtL Q U V u b p U9 V9 p0 p9 hz hu hb h
def zY:Φ:=λds Q=> ∃(n:Nat) (f:∅) (p:Int),ds=[cB<|rwF n f,.int p]/\n<=1000/\(n=0\/f (n-1)≠0)/\(∀j,0<=f j/\f j<p)/\Q (.pu<|.bl true)
def zZ:US:=(dW<|qF (aX xM<|a9 (aD 0) aP)<|aX aM3<|a9 (hZ [1] [none,some 1,none] 2 (oU<|aD 0) (eU 0) (λρ Q=>Q true ρ)<|b03 (tW λi j=>decide (i<=j)) (tW λi j=>decide (i<j)) @0 (aD 0)<|aD 1) aP)
theorem bD9: Ra zY zZ ["f","p"]:=by
 rintro ds Q ⟨n,f,p,rfl,hn,hl,hr,h⟩;unfold zZ;show(dW _:US) _ [~~~cB (rwF n f),!p];rw[nM];refine⟨n,f,rfl,hn,hl,?_⟩;simp only[isB,fS];rw[p8,pA]
 refine iU (t0:=0) n (λk=>((rwF n f).map D.int).getD k .non) [~~~cB (rwF n f),!p] ?_ ad (λx l=>[x,!p,↑l]) none rfl (λ_ _ _=>rfl) (λ_ _=>e6 _) (λ_ _ _ q=>q) (λ_ _ _=>rfl) (λ_=> .bl true) ?_ ?_
 .intro Q' q;simp only[cB]at q⊢;left;rw[bE];exact q
 .intro k l Q' hk q;rw[pB hk]at q⊢;left;rw[a8 (hr k).1];have:=(hr k).2
  simpa[this]using q
 .have e:(List.range n).map (λ_=>D.bl true)=(replicate n true).map D.bl:=by apply oE<;>simp
  rw[e];left;rw[oW];have e2:(replicate n true).all id=true:=ae
  right;rw[e2];exact h
def xO:Φ:=λds Q=> ∃(n:Nat) (f:∅) (p c q:Int) (x:D),ds=[x,.int p,.int c,.int q]/\(x=cB (rwF n f)\/x= .lst ((rwF n f).map .int))/\n<=100/\0<p/\p<200/\0<q/\ ∀g:∅,(∀j,g j%p=f j%p)->Q (.ow<|(rwF n g).map .int)
def uJ:US:=(dW<|hZ [1,5] [none,none,some 1,some 5,none] 4 (uZip<|a9 (aD 0)<|a9 (uSl (b6 4) (a77<|@1) sN) aP) (y9<|gT 0<|gT 1 vH) (λρ Q=>Q true ρ)<|uOp j0 (aD 0)<|uOp fT (uOp fT (aD 2)<|aD 3)<|uOp M.gSub (aD 1)<|uOp fT @5<|uOp a36 @10<|@7)
def lX:US:=(b4 (cN 5<|uIx (uV<|iP<|a9 @0<|a9 @1<|a9 (uOp a36 @10<|@20)<|a9 (uOp fT (uOp a36 @10<|@44)<|uOp a36 @10<|@44) aP)<|uIx (b6 4)<|@0) uJ)
def lB:US:=(b4 (cN 4<|aX p7<|a9 (aD 2)<|a9 (uOp j0 (iP<|a9 @4 aP)<|uOp fT (iP<|a9 (uOp a36 @10<|@8) aP)<|lQ<|b6 0)<|a9 (aD 3) aP) lX)
theorem rd_wrT (Q:B->Prop)(n:Nat)(f:∅)(p c q:Int)(hn:n<=100)(p0:0<p)(p9:p<200)(hq:0<q)(h: ∀g:∅,(∀j,g j%p=f j%p)->Q (.ow<|(rwF n g).map .int)) :
  lB {Q with} [~~~.tup ((rwF n f).map .int),!p,!c,!q,none,none]:=by
 unfold lB;show(b4 _ _:US) _ [~~~.tup ((rwF n f).map .int),!p,!c,!q,none,none];rw[b5];left;rw[bE,bB,qR];have el:[D.int 4]++(replicate n<|(10:Int)^(8:Int).toNat).map D.int=(4::replicate n ((10:Int)^(8:Int).toNat)).map D.int:=rfl
 have far: ∀xs:List Int,xs.length=n+1->(∀x∈xs,0<=x/\x<100000000)->(xs.getD 0 0<4)->lX {Q with} [~~~.tup ((rwF n f).map .int),!p,!c,!q,↑(xs.map .int),none]:=by
  intro xs hl hx h4;unfold lX;rw[b5];have x0:0<=xs.getD 0 0:=by
   match xs,hl with
   | x::xs,_=>exact(hx x ae).1
  obtain⟨a,-,ea⟩:=aO1 (ns:=[0,1,(10:Int)^(20:Int).toNat,(10:Int)^(44:Int).toNat*(10:Int)^(44:Int).toNat]) x0 (by simp only[gK,kS];lia)
  simp only[bX,iG]at ea;left;rw[aU6 ad]
  right;rw[ea];refine⟨vO ac ac,vO ac ac,vO ac ac,.inr ⟨Sm.pow (k:=150) ac ac,Sm.pow (k:=150) ac ac⟩,ac,?_⟩
  right;unfold uJ;rw[nM];have ec:cutD (xs.map D.int) (some 1) none=(xs.drop 1).map D.int:=by rw[show(1:Int)=((1:Nat):Int)from rfl,aU5 _ _ (by rw[aK];lia),map_drop]
  refine aA1 (t0:=0) (t1:=1) n (λk=>((rwF n f).map D.int).getD k .non) (λk=>((xs.drop 1).map D.int).getD k .non) [~~~.tup ((rwF n f).map .int),!p,!c,!q,↑(xs.map .int),!a] ?_ ad
   (λx y l=>[x,y,!p,!a,↑l]) none none rfl (λ_ _ _ _ _=>rfl) (λ_ _ _=>⟨ae,ae⟩) (λ_ _ _ _ q=>q) (λ_ _ _ _=>rfl) (λk=> .int (f k+p*a*((xs.drop 1).getD k 0-5*10^(7:Int).toNat))) ?_ ?_
  .intro Q' qq;left;rw[ec,bE,aK,jD,show min n (xs.length-1)=n by lia]
   exact qq
  .intro k l Q' hk qq;have hk2:k< (xs.drop 1).length:=by rw[jD];lia
   have e2:((xs.drop 1).map D.int).getD k .non= .int ((xs.drop 1).getD k 0):=by
    rw[bI,bP,aW hk2,bI,aW hk2];rfl
   have e3:(xs.drop 1).getD k 0∈xs:=by
    rw[bI,aW hk2];exact wN (e9 hk2)
   have e4:=hx _ e3;rw[pB hk,e2]at qq⊢;generalize (xs.drop 1).getD k 0=y at e4 qq⊢;left;refine⟨cmL ad ad,vO ac ac,cmL ac ac,cmR ?_ ?_,qq⟩
   .show _<y-5*10^(7:Nat)
    lia
   .show y-5*10^(7:Nat)<_
    lia
  .rw[yL];refine h _ λj=> ?_
   show(f j+p*a*((xs.drop 1).getD j 0-5*10^(7:Int).toNat))%p=f j%p
   rw[gO,rB]
 refine⟨ac,vO ac ac,ac,⟨ad,ad,aN (show 1*n<=100 by lia) ac⟩,?_,?_⟩
 .rw[aK,cQ];exact aN (show _<=200 by lia) ac
 .refine⟨c,4::replicate n ((10:Int)^(8:Int).toNat),q,rfl,by simp;lia,hq,λw hw=> ?_,λxs hx=> ?_⟩
  .rcases aG.mp hw with rfl|hw
   .decide
   .rw[rF hw];decide
  .have hl:xs.length=n+1:=by have:=hx.1;exists this
   refine far xs hl (λx hxm=> ?_) ?_
   .obtain⟨i,hi,rfl⟩:=List.getElem_of_mem hxm;cases i with
    | zero=>have:=hx.2 0 _ 4 (aW hi) rfl;lia
    | succ i=>
     have:=hx.2 (i+1) _ ((10:Int)^(8:Int).toNat) (aW hi) (by rw[nW,nV,a8 ad])
     have e:((10:Int)^(8:Int).toNat)=100000000:=ac
     lia
   .match xs,hl with
    | x::xs,_=>exact(hx.2 0 x 4 rfl rfl).2
theorem rd_wrL (Q:B->Prop)(n:Nat)(f:∅)(p c q:Int)(hn:n<=100)(p0:0<p)(p9:p<200)(hq:0<q)(h: ∀g:∅,(∀j,g j%p=f j%p)->Q (.ow<|(rwF n g).map .int)) :
  lB {Q with} [~~~.lst ((rwF n f).map .int),!p,!c,!q,none,none]:=by
 unfold lB;show(b4 _ _:US) _ [~~~.lst ((rwF n f).map .int),!p,!c,!q,none,none];rw[b5];left;rw[bE,bB,qR];have el:[D.int 4]++(replicate n<|(10:Int)^(8:Int).toNat).map D.int=(4::replicate n ((10:Int)^(8:Int).toNat)).map D.int:=rfl
 have far: ∀xs:List Int,xs.length=n+1->(∀x∈xs,0<=x/\x<100000000)->(xs.getD 0 0<4)->lX {Q with} [~~~.lst ((rwF n f).map .int),!p,!c,!q,↑(xs.map .int),none]:=by
  intro xs hl hx h4;unfold lX;rw[b5];have x0:0<=xs.getD 0 0:=by
   match xs,hl with
   | x::xs,_=>exact(hx x ae).1
  obtain⟨a,-,ea⟩:=aO1 (ns:=[0,1,(10:Int)^(20:Int).toNat,(10:Int)^(44:Int).toNat*(10:Int)^(44:Int).toNat]) x0 (by simp only[gK,kS];lia)
  simp only[bX,iG]at ea;left;rw[aU6 ad]
  right;rw[ea];refine⟨vO ac ac,vO ac ac,vO ac ac,.inr ⟨Sm.pow (k:=150) ac ac,Sm.pow (k:=150) ac ac⟩,ac,?_⟩
  right;unfold uJ;rw[nM];have ec:cutD (xs.map D.int) (some 1) none=(xs.drop 1).map D.int:=by rw[show(1:Int)=((1:Nat):Int)from rfl,aU5 _ _ (by rw[aK];lia),map_drop]
  refine aA1 (t0:=0) (t1:=1) n (λk=>((rwF n f).map D.int).getD k .non) (λk=>((xs.drop 1).map D.int).getD k .non) [~~~.lst ((rwF n f).map .int),!p,!c,!q,↑(xs.map .int),!a] ?_ ad
   (λx y l=>[x,y,!p,!a,↑l]) none none rfl (λ_ _ _ _ _=>rfl) (λ_ _ _=>⟨ae,ae⟩) (λ_ _ _ _ q=>q) (λ_ _ _ _=>rfl) (λk=> .int (f k+p*a*((xs.drop 1).getD k 0-5*10^(7:Int).toNat))) ?_ ?_
  .intro Q' qq;left;rw[ec,bE,aK,jD,show min n (xs.length-1)=n by lia]
   exact qq
  .intro k l Q' hk qq;have hk2:k< (xs.drop 1).length:=by rw[jD];lia
   have e2:((xs.drop 1).map D.int).getD k .non= .int ((xs.drop 1).getD k 0):=by
    rw[bI,bP,aW hk2,bI,aW hk2];rfl
   have e3:(xs.drop 1).getD k 0∈xs:=by
    rw[bI,aW hk2];exact wN (e9 hk2)
   have e4:=hx _ e3;rw[pB hk,e2]at qq⊢;generalize (xs.drop 1).getD k 0=y at e4 qq⊢;left;refine⟨cmL ad ad,vO ac ac,cmL ac ac,cmR ?_ ?_,qq⟩
   .show _<y-5*10^(7:Nat)
    lia
   .show y-5*10^(7:Nat)<_
    lia
  .rw[yL];refine h _ λj=> ?_
   show(f j+p*a*((xs.drop 1).getD j 0-5*10^(7:Int).toNat))%p=f j%p
   rw[gO,rB]
 refine⟨ac,vO ac ac,ac,⟨ad,ad,aN (show 1*n<=100 by lia) ac⟩,?_,?_⟩
 .rw[aK,cQ];exact aN (show _<=200 by lia) ac
 .refine⟨c,4::replicate n ((10:Int)^(8:Int).toNat),q,rfl,by simp;lia,hq,λw hw=> ?_,λxs hx=> ?_⟩
  .rcases aG.mp hw with rfl|hw
   .decide
   .rw[rF hw];decide
  .have hl:xs.length=n+1:=by have:=hx.1;exists this
   refine far xs hl (λx hxm=> ?_) ?_
   .obtain⟨i,hi,rfl⟩:=List.getElem_of_mem hxm;cases i with
    | zero=>have:=hx.2 0 _ 4 (aW hi) rfl;lia
    | succ i=>
     have:=hx.2 (i+1) _ ((10:Int)^(8:Int).toNat) (aW hi) (by rw[nW,nV,a8 ad])
     have e:((10:Int)^(8:Int).toNat)=100000000:=ac
     lia
   .match xs,hl with
    | x::xs,_=>exact(hx.2 0 x 4 rfl rfl).2
theorem b31: Ra xO lB ["r","p","c","q","f","a"]:=by
 rintro ds Q ⟨n,f,p,c,q,X,rfl,hx,hn,p0,p9,hq,h⟩;rcases hx with rfl|rfl
 .exact rd_wrT Q n f p c q hn p0 p9 hq h
 .exact rd_wrL Q n f p c q hn p0 p9 hq h
theorem bQ6 (n:Nat)(f:∅)(v:Int):(rwF n f).map D.int++[D.int v]=(rwF (n+1) λj=>if j=n then v else f j).map D.int:=by
 have e:rwF (n+1) (λj=>if j=n then v else f j)=rwF n f++[v]:=by
  unfold rwF;rw[oH,bS]
  congr 1
  .apply List.map_congr_left
   intro i hi;have:=bW.mp hi;rw[a7 ad]
  .simp
 rw[e,bS];rfl
nonrec def T_SMALL_PRIMES:List Int:=[2,3,5,7,11,13,17,19,23,29,31,37,41,43,47,53,59,61,67,71,73,79,83,89,97,101,103,107,109,113,127,131,137,139,149,151,157,163,167,173,179,181,191,193,197,199]
def i4:Φ:=λds Q=>ds=[]/\Q (.ow<|T_SMALL_PRIMES.map .int)
def jZ:US:=(dW<|aX a58<|a9 (uC<|.tup<|T_SMALL_PRIMES.map .int) aP)
theorem yP: Ra i4 jZ []:=by
 rintro ds Q ⟨rfl,h⟩;unfold jZ;show(dW _:US) _ [];left;exact h
theorem b32:prL=T_SMALL_PRIMES:=af
nonrec def ps (f:∅)(z:Int):∅
 | 0=>0
 | n+1=>ps f z n+f n*z^n
nonrec def hor (f:∅)(n:Nat)(z:Int):∅
 | 0=>0
 | k+1=>hor f n z k*z+f (n-1-k)
theorem bQ7 (f:∅)(n:Nat)(z:Int): ∀k,k<=n->hor f n z k*z^(n-k)+ps f z (n-k)=ps f z n
 | 0,_=>by show(0:Int)*_+_=_;rw[fQ,cT];rfl
 | k+1,h=>by
  have ih:=bQ7 f n z k ad
  obtain⟨m,hm⟩: ∃m,n-k=m+1:=⟨n-k-1,ad⟩
  have e1:n-(k+1)=m:=ad
  have e2:n-1-k=m:=ad
  rw[hm]at ih;show(hor f n z k*z+f (n-1-k))*z^(n-(k+1))+ps f z (n-(k+1))=_;rw[e1,<-ih];show _=hor f n z k*z^(m+1)+(ps f z m+f m*z^m);rw[jK]
  lia
theorem c26 (f:∅)(n:Nat)(z:Int):hor f n z n=ps f z n:=by
 have:=bQ7 f n z n (aC _);have e:hor f n z n*z^0+ps f z 0=hor f n z n:=by
  show hor f n z n*z^0+0=_
  rw[fR,sG,fP]
 lia
theorem aI7 {f:∅}{n a b:Nat}{z:Int}(hf: ∀j,(f j).natAbs<=2^a)(hz:z.natAbs<=2^b): ∀k,(hor f n z k).natAbs<=2^(a+(b+1)*k)
 | 0=>by simp[hor]
 | k+1=>by
  show(hor f n z k*z+f (n-1-k)).natAbs<=_
  have ih:=aI7 (n:=n) hf hz k;have h1:(hor f n z k*z).natAbs<=2^(a+(b+1)*k)*2^b:=by rw[Int.natAbs_mul];exact rX ih hz
  have h2:=hf (n-1-k);have h3:=Int.natAbs_add_le (hor f n z k*z) (f<|n-1-k);have e1:2^(a+(b+1)*(k+1))=2^(a+(b+1)*k)*2^b+2^(a+(b+1)*k)*2^b:=by
   rw[mul_succ,<-oM,<-oM,Nat.pow_succ,Nat.pow_add 2 (a+(b+1)*k) b];lia
  have h4:2^a<=2^(a+(b+1)*k)*2^b:=by
   rw[<-Nat.pow_add];exact Nat.pow_le_pow_right ac ad
  lia
theorem bQ8 (f g:∅)(z:Int): ∀n,ps (λj=>f j+g j) z n=ps f z n+ps g z n
 | 0=>rfl
 | n+1=>by
  show ps (λj=>f j+g j) z n+(f n+g n)*z^n=ps f z n+f n*z^n+(ps g z n+g n*z^n)
  rw[bQ8 f g z n,add_mul]
  lia
theorem bQ9 (c:Int)(f:∅)(z:Int): ∀n,ps (λj=>c*f j) z n=c*ps f z n
 | 0=>by show(0:Int)=c*0;rw[bL]
 | n+1=>by
  show ps (λj=>c*f j) z n+c*f n*z^n=c*(ps f z n+f n*z^n)
  rw[bQ9 c f z n,sJ,gO]
theorem aO4 {f:∅}{z:Int}{n:Nat}: ∀m,n<=m->(∀j,n<=j->j<m->f j=0)->ps f z m=ps f z n
 | 0,h,_=>by rw[show n=0 by lia]
 | m+1,h,hz=>by
  by_cases c:n=m+1
  .rw[c]
  .show ps f z m+f m*z^m=_
   rw[hz m ad ad,fQ,fP]
   exact aO4 m ad λj a b=>hz j a ad
theorem aI8 (b:∅)(z:Int)(U:Nat): ∀n,n<=U->ps (shF b U) z n=0
 | 0,_=>rfl
 | n+1,h=>by
  show ps (shF b U) z n+shF b U n*z^n=0
  rw[aI8 b z U n aa]
  unfold shF;rw[a7 aa,fQ]
  rfl
theorem aV3 (b:∅)(z:Int)(U:Nat): ∀m,ps (shF b U) z (U+m)=z^U*ps b z m
 | 0=>by rw[Nat.add_zero,aI8 b z U U<|aC _];show(0:Int)=z^U*0;rw[bL]
 | m+1=>by
  show ps (shF b U) z (U+m)+shF b U (U+m)*z^(U+m)=z^U*(ps b z m+b m*z^m)
  rw[aV3 b z U m];unfold shF;rw[a8 ad,show U+m-U=m by lia,Int.pow_add,sJ,Int.mul_left_comm]
theorem b77 {u b:∅}{z:Int}{V:Nat}(hb: ∀j,V<=j->b j=0): ∀U N,U+V<=N->ps (conv u b U) z N=ps u z U*ps b z V
 | 0,N,_=>by
  have:ps (conv u b 0) z N=0:=by
   have e:ps (conv u b 0) z N=ps (conv u b 0) z 0:=aO4 N (cK _) λ_ _ _=>rfl
   rw[e];rfl
  rw[this];show(0:Int)=0*_;rw[fQ]
 | U+1,N,h=>by
  have e:conv u b (U+1)=λm=>conv u b U m+u U*shF b U m:=rfl
  rw[e,bQ8 (conv u b U) λm=>u U*shF b U m,b77 hb U N ad,bQ9]
  obtain⟨m,rfl⟩: ∃m,N=U+m:=⟨N-U,ad⟩
  rw[aV3,aO4 m ad λj a _=>hb j a]
  show _=(ps u z U+u U*z^U)*ps b z V
  rw[add_mul,gO<|u U]
structure HorOk (n a b:Nat)(f:∅)(z:Int):Prop where
 fb: ∀j,(f j).natAbs<=2^a
 zb:z.natAbs<=2^b
 room:a+(b+1)*n<8000
 b8:b<8000
 n9:n<=200
def sX:Φ:=λds Q=> ∃(n a b:Nat) (f:∅) (z:Int),ds=[cB<|rwF n f,.int z]/\HorOk n a b f z/\Q (.pu<|.int<|ps f z n)
def sY:US:=(b4 (cN 2<|@0)<|b4 (tV (bL6<|a9 (aD 0) aP) (eU 3)<|cN 2<|uOp j0 (uOp fT (aD 2)<|aD 1)<|aD 3)<|a71 2)
theorem aO5: Ra sX sY ["f","z","v","c"]:=by
 rintro ds Q ⟨n,a,b,f,z,rfl,ok,h⟩;unfold sY;simp only[cB];show(b4 _ _:US) _ [~~~.tup ((rwF n f).map .int),!z,none,none];left;refine dI n (λk=>((rwF n f).map D.int).getD (n-1-k) .non) [~~~.tup ((rwF n f).map .int),!z,!0,none] ?_
  (λk ρ=> ∃c,ρ=[~~~.tup ((rwF n f).map .int),!z,!hor f n z k,c]) ⟨none,rfl⟩ ?_ ?_
 .intro Q' q;left;rw[bE];exact q
 .rintro k ρ hk ⟨c,rfl⟩;rw[pB aa]
  left
  have room:=ok.room;have:(b+1)*k<=(b+1)*n:=rL _ aa
  exact⟨ae,.inr ⟨Sm.pow (aI7 ok.fb ok.zb k) aa,Sm.pow ok.zb (by have:=ok.b8;omega)⟩,_,rfl⟩
 .rintro ρ ⟨c,rfl⟩;left;rw[c26];exact h
theorem b78 (f g:∅)(n m:Nat):shF (λj=>f j+g j) n m=shF f n m+shF g n m:=by
 unfold shF;right;split<;>lia
theorem c27 (c:Int)(f:∅)(n m:Nat):shF (λj=>c*f j) n m=c*shF f n m:=by
 unfold shF;right;split
 .rfl
 .rw[bL]
theorem shF_sh (h:∅)(n k m:Nat):shF (shF h n) k m=shF h (n+k) m:=by
 unfold shF
 by_cases c:k<=m
 .rw[a8 c]
  by_cases d:n<=m-k
  .rw[a8 d,a8 ad,show m-k-n=m-(n+k)by lia]
  .rw[a7 d,a7 ad]
 .rw[a7 c,a7 ad]
theorem aI9 (f g b:∅)(m:Nat): ∀n,conv (λj=>f j+g j) b n m=conv f b n m+conv g b n m
 | 0=>rfl
 | n+1=>by
  show conv (λj=>f j+g j) b n m+(f n+g n)*shF b n m=conv f b n m+f n*shF b n m+(conv g b n m+g n*shF b n m)
  rw[aI9 f g b m n,add_mul]
  lia
theorem aJ0 (c:Int)(f b:∅)(m:Nat): ∀n,conv (λj=>c*f j) b n m=c*conv f b n m
 | 0=>by show(0:Int)=c*0;rw[bL]
 | n+1=>by
  show conv (λj=>c*f j) b n m+c*f n*shF b n m=c*(conv f b n m+f n*shF b n m)
  rw[aJ0 c f b m n,sJ,gO]
theorem aV4 (f b:∅)(k m:Nat): ∀n,conv (shF f k) b (k+n) m=shF (conv f b n) k m
 | 0=>by
  have e: ∀j,j<=k->conv (shF f k) b j m=0:=by
   intro j
   induction j with
   | zero=>intro _;rfl
   | succ j ih=>
    intro hj;show conv (shF f k) b j m+shF f k j*shF b j m=0;rw[ih ad]
    unfold shF;rw[a7 ad,fQ]
    rfl
  rw[Nat.add_zero,e k<|aC _];unfold shF;split<;>rfl
 | n+1=>by
  show conv (shF f k) b (k+n) m+shF f k (k+n)*shF b (k+n) m=shF (λm=>conv f b n m+f n*shF b n m) k m
  rw[aV4 f b k m n,b78,c27,shF_sh,add_comm n k]
  congr 2
  unfold shF;rw[a8 ad,show k+n-k=n by lia]
theorem aA8 {u b c:∅}{V:Nat}(hb: ∀j,V<=j->b j=0)(m:Nat): ∀U,conv u (conv b c V) U m=conv (conv u b U) c (U+V) m
 | 0=>by
  have e: ∀n,conv (conv u b 0) c n m=0:=by
   intro n
   induction n with
   | zero=>rfl
   | succ n ih=>
    show conv (conv u b 0) c n m+0*shF c n m=0
    rw[ih,fQ];rfl
  rw[e];rfl
 | U+1=>by
  show conv u (conv b c V) U m+u U*shF (conv b c V) U m=conv (λm=>conv u b U m+u U*shF b U m) c (U+1+V) m
  rw[aI9,aJ0,aA8 hb m U];have z1: ∀j,U+V<=j->j<U+1+V->conv u b U j=0:=λj h1 h2=>by
   by_cases v:V=0
   .subst v;have e:b=λ_=>0:=funext λj=>hb j (cK _)
    rw[e];have nul: ∀n,conv u (λ_=>0) n j=0:=by
     intro n
     induction n with
     | zero=>rfl
     | succ n ih=>
      show conv u (λ_=>0) n j+u n*shF (λ_=>0) n j=0
      rw[ih];unfold shF;split<;>rw[bL]<;>rfl
    exact nul U
   .exact iV (d:=V-1) (λi hi=>hb i ad) U j ad
  rw[yN (U+1+V) z1 ad]
  have z2: ∀j,U+V<=j->j<U+1+V->shF b U j=0:=λj h1 h2=>by
   unfold shF;rw[a8 ad]
   exact hb _ ad
  rw[yN (u:=shF b U) (b:=c) (U:=U+V) (U+1+V) z2 ad,aV4]
theorem a00 (u f g:∅)(m:Nat): ∀n,conv u (λj=>f j+g j) n m=conv u f n m+conv u g n m
 | 0=>rfl
 | n+1=>by
  show conv u (λj=>f j+g j) n m+u n*shF (λj=>f j+g j) n m=conv u f n m+u n*shF f n m+(conv u g n m+u n*shF g n m)
  rw[a00 u f g m n,b78,sJ]
  lia
theorem yQ {u:∅}(c:Int)(k:Nat)(hu: ∀j,n<=j->u j=0)(m:Nat):conv u (λj=>if j=k then c else 0) n m=c*shF u k m:=by
 have e: ∀n,conv u (λj=>if j=k then c else 0) n m=if k<=m/\m-k<n then c*u (m-k)else 0:=by
  intro n
  induction n with
  | zero=>rw[a7 aa];rfl
  | succ n ih=>
   show conv u (λj=>if j=k then c else 0) n m+u n*shF (λj=>if j=k then c else 0) n m=_
   have sh:shF (λj=>if j=k then c else 0) n m=if n<=m/\m-n=k then c else 0:=by
    unfold shF;right
    by_cases h3:n<=m
    .rw[a8 h3]
     by_cases h4:m-n=k
     .rw[a8 h4,a8 ⟨h3,h4⟩]
     .rw[a7 h4,a7 λz=>h4 z.2]
    .rw[a7 h3,a7 λz=>h3 z.1]
   rw[ih,sh]
   by_cases h1:k<=m/\m-k<n
   .rw[a8 h1,a7<|show ¬(n<=m/\m-n=k)by omega,a8<|show k<=m/\m-k<n+1 by omega,bL,fP]
   .rw[a7 h1]
    by_cases h2:k<=m/\m-k=n
    .rw[a8<|show n<=m/\m-n=k by omega,a8<|show k<=m/\m-k<n+1 by omega,h2.2,cT,sE]
    .rw[a7<|show ¬(n<=m/\m-n=k)by omega,a7<|show ¬(k<=m/\m-k<n+1)by omega,bL]
     rfl
 rw[e n];unfold shF
 by_cases h1:k<=m
 .rw[a8 h1]
  by_cases h2:m-k<n
  .rw[a8 ⟨h1,h2⟩]
  .rw[a7 aa,hu _ aa,bL]
 .rw[a7 h1,a7 aa,bL]
theorem bE0 {u b:∅}{V:Nat}(hu: ∀j,U<=j->u j=0)(hb: ∀j,V<=j->b j=0)(m:Nat):conv u b U m=conv b u V m:=by
 have e: ∀n,conv u b n m=conv b (λj=>if j<n then u j else 0) V m:=by
  intro n
  induction n with
  | zero=>
   have:(λj=>if j<0 then u j else 0)=λj=>if j=0 then(0:Int)else 0:=funext λj=>ae
   rw[this,yQ 0 0 hb,fQ];rfl
  | succ n ih=>
   have:(λj=>if j<n+1 then u j else 0)=λj=>(if j<n then u j else 0)+(if j=n then u n else 0):=funext λj=>by
    by_cases h1:j<n
    .rw[a8 ad,a8 h1,a7 ad,fP]
    .by_cases h2:j=n
     .subst h2;rw[a8 ad,a7 h1,a8 rfl,cT]
     .rw[a7 ad,a7 h1,a7 h2];rfl
   rw[this,a00 b (λj=>if j<n then u j else 0) λj=>if j=n then u n else 0,yQ _ _ hb,<-ih]
   rfl
 rw[e U]
 congr 1
 funext j
 by_cases h:j<U
 .rw[a8 h]
 .rw[a7 h,hu j ad]
theorem emL (a b p:Int):a%p*b%p=a*b%p:=by rw[cD,fO,<-cD]
theorem emR (a b p:Int):a*(b%p)%p=a*b%p:=by rw[cD,fO,<-cD]
structure MP (p:Int)(n:Nat)(f:∅):Prop where
 top:f n=1
 hi: ∀j,n<j->f j=0
 rng: ∀j,0<=f j/\f j<p
theorem MP.z (h:MP p n f): ∀j,n+1<=j->f j=0:=λj hj=>h.hi j hj
nonrec def tm (p:Int)(a b:Nat×∅):Nat×∅:=(a.1+b.1,md p<|conv a.2 b.2 (a.1+1))
theorem aV5 (u b:∅)(n m:Nat):conv (md p u) b n m%p=conv u b n m%p:=a63 (λi j=>by show u i%p*b j%p=_;rw[emL]) n m
theorem bR0 (u b:∅)(n m:Nat):conv u (md p b) n m%p=conv u b n m%p:=a63 (λi j=>by show u i*(b j%p)%p=_;rw[emR]) n m
theorem MP.tm {a b:Nat×∅}(hp:2<=p)(ha:MP p a.1 a.2)(hb:MP p b.1 b.2):MP p (M.tm p a b).1 (M.tm p a b).2:=by
 refine⟨?_,λj hj=> ?_,λj=>⟨bC _ ad,b9 _ ad⟩⟩
 .show conv a.2 b.2 (a.1+1) (a.1+b.1)%p=1
  rw[aV0 hb.hi,ha.top,hb.top];exact bR ac ad
 .show conv a.2 b.2 (a.1+1) j%p=0
  have hj':a.1+b.1<j:=hj;rw[iV (d:=b.1) hb.hi (a.1+1) j ad,bT]
theorem pC {a b c:Nat×∅}(hb: ∀j,b.1<j->b.2 j=0):tm p a (tm p b c)=tm p (tm p a b) c:=by
 refine eD (oM _ _ _).symm (funext λm=> ?_)
 show conv a.2 (md p<|conv b.2 c.2 (b.1+1)) (a.1+1) m%p=conv (md p<|conv a.2 b.2 (a.1+1)) c.2 (a.1+b.1+1) m%p
 rw[bR0,aV5,aA8 (λj hj=>hb j hj) m<|a.1+1]
 rw[yN (U:=a.1+b.1+1) (a.1+1+(b.1+1)) (λj h1 h2=>iV hb (a.1+1) j ad) ad]
theorem sZ {a b:Nat×∅}(ha: ∀j,a.1<j->a.2 j=0)(hb: ∀j,b.1<j->b.2 j=0):tm p a b=tm p b a:=by
 refine eD (add_comm _ _) (funext λm=> ?_)
 show conv a.2 b.2 (a.1+1) m%p=conv b.2 a.2 (b.1+1) m%p
 rw[bE0 (λj hj=>ha j hj) λj hj=>hb j hj]
nonrec def dM:Nat×∅:=(0,λj=>if j=0 then 1 else 0)
theorem MP.one (hp:2<=p):MP p dM.1 dM.2:=⟨rfl,λj hj=>a7 (by have:0<j:=hj;lia),λj=>by show 0<=(if j=0 then(1:Int)else 0)/\(if j=0 then(1:Int)else 0)<p;split<;>lia⟩
theorem aA9 {a:Nat×∅}(ha:MP p a.1 a.2):tm p dM a=a:=by
 refine eD (Nat.zero_add _) (funext λm=> ?_)
 show(0+(if(0:Nat)=0 then(1:Int)else 0)*shF a.2 0 m)%p=a.2 m
 rw[a8 rfl,sI,cT];exact bR (ha.rng m).1 (ha.rng m).2
nonrec def bV (c:Int):Nat×∅:=(1,λj=>if j=0 then c else if j=1 then 1 else 0)
theorem MP.lin (hp:2<=p)(h0:0<=c)(h1:c<p):MP p (bV c).1 (bV c).2:=⟨rfl,λj hj=>by
  have:1<j:=hj;show(if j=0 then c else if j=1 then 1 else 0)=0;rw[a7 ad,a7 ad],λj=>by
  show 0<=(if j=0 then c else if j=1 then 1 else 0)/\(if j=0 then c else if j=1 then 1 else 0)<p
  split
  .lia
  .split<;>lia⟩
nonrec def va (p:Int)(a:Nat×∅)(z:Int):Int:=ps a.2 z (a.1+1)%p
theorem c57 (p:Int)(f:∅)(z:Int): ∀n,ps (md p f) z n%p=ps f z n%p
 | 0=>rfl
 | n+1=>by
  show(ps (md p f) z n+f n%p*z^n)%p=(ps f z n+f n*z^n)%p
  rw[dE,c57 p f z n,emL,<-dE]
theorem bR1 {a b:Nat×∅}(hb: ∀j,b.1<j->b.2 j=0)(z:Int):va p (tm p a b) z=va p a z*va p b z%p:=by
 show ps (md p<|conv a.2 b.2 (a.1+1)) z (a.1+b.1+1)%p=ps a.2 z (a.1+1)%p*(ps b.2 z (b.1+1)%p)%p
 rw[c57,<-cD];have h:=b77 (u:=a.2) (z:=z) (λj hj=>hb j hj) (a.1+1) (a.1+1+(b.1+1)) (aC _)
 rw[<-h,aO4 (n:=a.1+b.1+1) (a.1+1+(b.1+1)) ad λj h1 h2=>iV hb (a.1+1) j ad]
nonrec def hqA (c:Int)(f:∅)(n:Nat):∅
 | 0=>f n
 | k+1=>f (n-1-k)-c*hqA c f n k
nonrec def hq (c:Int)(f:∅)(n:Nat):∅:=λj=>if j<n then hqA c f n (n-1-j)else 0
theorem b79 (hf: ∀j,n<j->f j=0)(j:Nat)(hj:1<=j):f j=hq c f n (j-1)+c*hq c f n j:=by
 unfold hq
 by_cases h1:j<n
 .rw[a8<|show j-1<n by lia,a8 h1,show n-1-(j-1)=(n-1-j)+1 by lia]
  show f j=f (n-1-(n-1-j))-c*hqA c f n (n-1-j)+c*hqA c f n (n-1-j)
  rw[show n-1-(n-1-j)=j by lia]
  lia
 .by_cases h2:j=n
  .subst h2;rw[a8<|show j-1<j by lia,a7 h1,show j-1-(j-1)=0 by lia,bL,fP]
   rfl
  .rw[a7<|show ¬j-1<n by lia,a7 h1,hf j ad,bL]
   rfl
theorem c58 {c:Int}{f:∅}{n:Nat}(hf: ∀j,n<j->f j=0): ∀m,ps f (-c) (m+1)=f 0-c*hq c f n 0+c*hq c f n m*(-c)^m
 | 0=>by
  show 0+f 0*(-c)^0=_
  lia
 | m+1=>by
  show ps f (-c) (m+1)+f (m+1)*(-c)^(m+1)=_
  rw[c58 hf m,b79 (c:=c) hf (m+1) ad,i8,jK]
  grind
theorem hq_at (hf: ∀j,n<j->f j=0):ps f (-c) (n+1)=f 0-c*hq c f n 0:=by
 rw[c58 hf n];have:hq c f n n=0:=by unfold hq;rw[a7<|cZ _]
 rw[this,bL,fQ,fP]
theorem aB0 {u:∅}(c:Int)(hu: ∀j,n<=j->u j=0)(m:Nat):conv u (bV c).2 n m=c*u m+(if m=0 then 0 else u (m-1)):=by
 have e:(bV c).2=λj=>(if j=0 then c else 0)+(if j=1 then 1 else 0):=funext λj=>by
  show(if j=0 then c else if j=1 then 1 else 0)=_
  by_cases h0:j=0
  .subst h0;simp
  .rw[a7 h0,a7 h0,cT]
 rw[e,a00 u (λj=>if j=0 then c else 0) λj=>if j=1 then 1 else 0,yQ c 0 hu,yQ 1 1 hu,sI]
 unfold shF;rw[a8<|cK _,sub_zero]
 by_cases h0:m=0
 .rw[a8 h0,a7 ad]
 .rw[a7 h0,a8 ad]
theorem c28 (hf: ∀j,n<j->f j=0)(m:Nat):f m=conv (hq c f n) (bV c).2 n m+(if m=0 then f 0-c*hq c f n 0 else 0):=by
 rw[aB0 c (λj hj=>by unfold hq;rw[a7 ad])]
 by_cases h0:m=0
 .subst h0;rw[a8 rfl];lia
 .rw[a7 h0,b79 (c:=c) hf m ad];lia
nonrec def powT (p:Int)(a g:Nat×∅):Nat->Nat×∅
 | 0=>a
 | k+1=>tm p (powT p a g k) g
theorem MP.powT {p:Int}{a g:Nat×∅}(hp:2<=p)(ha:MP p a.1 a.2)(hg:MP p g.1 g.2): ∀k,MP p (M.powT p a g k).1 (M.powT p a g k).2
 | 0=>ha
 | k+1=>MP.tm hp (MP.powT hp ha hg k) hg
theorem k6 (p:Int)(a g:Nat×∅): ∀k,(powT p a g k).1=a.1+g.1*k
 | 0=>rfl
 | k+1=>by
  show(powT p a g k).1+g.1=_
  rw[k6 p a g k,mul_succ,oM]
nonrec def allT (p:Int)(a:Nat×∅):List ((Nat×∅)×Nat)->Nat×∅
 | []=>a
 | x::l=>allT p (powT p a x.1 x.2) l
theorem iJ (p:Int): ∀(l m:List ((Nat×∅)×Nat)) (a:Nat×∅),allT p a (l++m)=allT p (allT p a l) m
 | [],m,a=>rfl
 | x::l,m,a=>iJ p l m _
theorem MP.allT {p:Int}(hp:2<=p): ∀(l:List ((Nat×∅)×Nat)) {a:Nat×∅},MP p a.1 a.2->(∀x∈l,MP p x.1.1 x.1.2)->MP p (M.allT p a l).1 (M.allT p a l).2
 | [],a,ha,_=>ha
 | x::l,a,ha,h=>MP.allT hp l (MP.powT hp ha (h x<|.head _) x.2) λy hy=>h y (.tail _ hy)
theorem aV6 (p:Int): ∀(l:List ((Nat×∅)×Nat)) (a:Nat×∅) (x:(Nat×∅)×Nat),x∈l->a.1+x.1.1*x.2<=(allT p a l).1
 | y::l,a,x,hx=>by
  show _<=(allT p (powT p a y.1 y.2) l).1
  have mono: ∀(l:List ((Nat×∅)×Nat)) (a:Nat×∅),a.1<=(allT p a l).1:=by
   intro l
   induction l with
   | nil=>intro a;exact aC _
   | cons z l ih=>intro a;exact aN (by rw[k6];lia) (ih<|powT p a z.1 z.2)
  rcases aG.mp hx with rfl|hx
  .have:=mono l (powT p a x.1 x.2);rw[k6]at this;exact this
  .have:=aV6 p l (powT p a y.1 y.2) x hx;rw[k6]at this
   lia
nonrec def fG (x:(Nat×∅)×Nat):D:= .tup [cB<|rwF (x.1.1+1) x.1.2,.int (x.2:Int)]
nonrec def lnP (x:Int×Nat):(Nat×∅)×Nat:=(bV x.1,x.2)
structure LK (p:Int)(F:Nat×∅)(C:Nat)(cs:List (Int×Nat))(L:Nat×∅):Prop where
 prod:F=tm p (allT p dM<|cs.map lnP) L
 mp:MP p L.1 L.2
 asc:cs.Pairwise λa b=>a.1<b.1
 mem: ∀x∈cs,0<=x.1/\x.1< (C:Int)/\1<=x.2
 nr: ∀c:Nat,c<C->va p L (-(c:Int))≠0
 len:cs.length<=C
theorem b80 (hp:2<=p){cs:List (Int×Nat)}(h: ∀x∈cs,0<=x.1/\x.1<p): ∀y∈cs.map lnP,MP p y.1.1 y.1.2:=by
 intro y hy;obtain⟨x,hx,rfl⟩:=dO.mp hy;exact MP.lin hp (h x hx).1 (h x hx).2
def k7:Φ:=λds Q=> ∃(n:Nat) (f:∅) (p:Int),ds=[cB<|rwF (n+1) f,.int p]/\n<=40/\Pr p/\MP p n f/\ ∀cs L,LK p (n,f) p.toNat cs L->Q (.pu<|.tup [.lst<|cs.map λx=>fG (lnP x),cB<|rwF (L.1+1) L.2])
def tN:US:=(dW<|gS<|a9 (aD 2)<|a9 (aD 3) aP)
def tO:US:=(b4 (tV (tI<|a9 (aD 1) aP) (eU 4)<|b4 (cN 5<|@0)<|b4 (aL7 (fX<|uOp (i5 false) (uOp iS (aX sX<|a9 (aD 3)<|a9 (yC<|aD 4) aP)<|aD 1)<|@0)<|b4 (cN 3<|uIx (uV<|aX mU<|a9 (aD 3)<|a9 (gS<|a9 (aD 4)<|a9 @1 aP)<|a9 (aD 1) aP)<|@0)<|bB8 5 (gI2 λi j Q=>Q (.pu<|.int<|i+j))<|@1)<|jW (fX<|uOp (tW λi j=>decide (j<i)) (aD 5)<|@0) (aL8 2<|gS<|a9 (gS<|a9 (aD 4)<|a9 @1 aP)<|a9 (aD 5) aP) gF) tN)
def tP:US:=(b4 (cN 3<|aD 0) tO)
def pD:US:=(b4 (cN 2<|iP aP) tP)
theorem bR2 (pp:Pr p){L:Nat×∅}(mp:MP p L.1 L.2)(c0:0<=c)(c1:c<p)(hz:va p L (-c)=0){t:Int}(ht:t*md p (bV c).2 1%p=1)(t0:0<=t)(t1:t<p) :
  1<=L.1/\ ∃u:∅,MP p (L.1-1) u/\L=tm p (L.1-1,u) (bV c)/\
   (let b:=λj=>t*md p (bV c).2 j%p
    let LA:=dB (md p L.2) (L.1+1)
    let q:=divQ b 1 (LA-1) (md p L.2)
    rwF (dB (λj=>t*q j%p)<|dB q<|LA-1) (λj=>t*q j%p)=rwF L.1 u):=by
 have p2:=pp.lo;have mdL:md p L.2=L.2:=funext λj=>bR (mp.rng j).1 (mp.rng j).2
 have ml:=MP.lin p2 c0 c1;have mdG:md p (bV c).2=(bV c).2:=funext λj=>bR (ml.rng j).1 (ml.rng j).2
 have l1:1<=L.1:=by
  refine Nat.pos_of_ne_zero λz=> ?_
  unfold va at hz;rw[z]at hz;have e:ps L.2 (-c) (0+1)=L.2 0*(-c)^0:=by show 0+L.2 0*(-c)^0=_;lia
  have e2:L.2 0=1:=by have:=mp.top;rw[z]at this;exact this
  rw[e,e2,fR,sG,bR ac ad]at hz
  cases hz
 have r0:(L.2 0-c*hq c L.2 L.1 0)%p=0:=by rw[<-hq_at mp.hi];exact hz
 have fm: ∀m,L.2 m=conv (md p<|hq c L.2 L.1) (bV c).2 L.1 m%p:=λm=>by
  have h:=c28 (c:=c) mp.hi m;rw[aV5];have e:L.2 m%p=L.2 m:=bR (mp.rng m).1 (mp.rng m).2;rw[<-e]
  conv=>lhs;rw[h]
  by_cases h0:m=0
  .rw[a8 h0,dE,r0,fP,fO]
  .rw[a7 h0,fP]
 have ut:md p (hq c L.2 L.1) (L.1-1)=1:=by
  show hq c L.2 L.1 (L.1-1)%p=1
  unfold hq;rw[a8 ad,Nat.sub_self]
  show L.2 L.1%p=1
  rw[mp.top];exact bR ac ad
 have uz: ∀j,L.1<=j->md p (hq c L.2 L.1) j=0:=λj hj=>by
  show hq c L.2 L.1 j%p=0
  unfold hq;rw[a7 ad,bT]
 have ur: ∀j,0<=md p (hq c L.2 L.1) j/\md p (hq c L.2 L.1) j<p:=λj=>⟨bC _ ad,b9 _ ad⟩
 refine⟨l1,md p<|hq c L.2 L.1,⟨ut,λj hj=>uz j ad,ur⟩,?_,?_⟩
 .refine eD (show L.1=L.1-1+1 by lia) (funext λm=> ?_)
  show L.2 m=conv (md p<|hq c L.2 L.1) (bV c).2 (L.1-1+1) m%p
  rw[show L.1-1+1=L.1 by lia]
  exact fm m
 .have mm:=bQ3 (p:=p) (t:=t) (B0:=md p (bV c).2) (u:=md p (hq c L.2 L.1)) (low:=λ_=>0) (A:=md p L.2) (d:=1) (U:=L.1) (n:=L.1+1) p2 (λj hj=>by rw[mdG];exact ml.hi j hj) (.inr (by rw[ut];decide)) ur uz (λ_ _=>rfl) (λ_=>⟨ac,ad⟩) ht (λm=>by rw[mdL,mdG,fP];exact fm m) (aC _)
  obtain⟨_,e1,_,_⟩:=mm;have eLA:dB (md p L.2) (L.1+1)=L.1+1:=nN (aC _) (λm h1 h2=>ad) (.inr (by rw[mdL,i8,mp.top];decide))
  rw[eLA]at e1⊢;have eu:(λj=>t*divQ (λj=>t*md p (bV c).2 j%p) 1 (L.1+1-1) (md p L.2) j%p)=md p (hq c L.2 L.1):=funext e1
  right;rw[eu];have eq:dB (divQ (λj=>t*md p (bV c).2 j%p) 1 (L.1+1-1)<|md p L.2) (L.1+1-1)=L.1:=by
   rw[i8];refine nN (aC _) (λm h1 h2=>ad) (.inr λz=> ?_)
   have h:=e1 (L.1-1);rw[i8]at h;rw[z,bL,bT,ut]at h;cases h
  rw[eq,nN (k:=L.1) (aC _) (λm h1 h2=>ad)<|.inr (by rw[ut];decide)]
theorem bR3 {a b:Nat×∅}(hb: ∀j,b.1<j->b.2 j=0){z:Int}(h:va p (tm p a b) z≠0):va p a z≠0/\va p b z≠0:=by
 rw[bR1 hb]at h;refine⟨λe=>h ?_,λe=>h ?_⟩
 .rw[e,fQ,bT]
 .rw[e,bL,bT]
theorem mp_nat (pp:Pr p)(h:MP p n f)(j:Nat):(f j).natAbs<=2^8:=by
 have h1:=h.rng j;have h2:=pp.hi
 lia
theorem aB1: Ra k7 pD ["f","p","a","l","c","o"]:=by
 rintro ds Q ⟨n,f,p,rfl,n4,pp,mp,h⟩;have p2:=pp.lo;have p3:=pp.hi;unfold pD;show(b4 _ _:US) _ [~~~cB (rwF (n+1) f),!p,none,none,none,none];rw[b5];left;refine⟨ac,?_⟩
 unfold tP;rw[b5];left;unfold tO;rw[b5];refine dI p.toNat (λi=> .int (0+i)) [~~~cB (rwF (n+1) f),!p,↑[],~~~cB (rwF (n+1) f),none,none] ?_
  (λi ρ=> ∃(cs:List (Int×Nat)) (L:Nat×∅) (x y:Option B),ρ=[~~~cB (rwF (n+1) f),!p,some<|.ow<|cs.map λx=>fG (lnP x),~~~cB (rwF (L.1+1) L.2),x,y]/\LK p (n,f) i cs L)
  ⟨[],(n,f),none,none,rfl,(aA9 (p:=p) (a:=(n,f)) mp).symm,mp,.nil,ae,ae,aC _⟩ ?_ ?_
 .intro Q' q;left;refine⟨⟨ad,ad⟩,?_⟩
  exact q
 .rintro i ρ hi ⟨cs,L,x,y,rfl,lk⟩;have hLn:L.1<=n:=by
   have:=bQ Prod.fst lk.prod;have e:n=(allT p dM<|cs.map lnP).1+L.1:=this
   lia
  have mcs:=b80 p2 (cs:=cs) (λx hx=>⟨(lk.mem x hx).1,by have:=(lk.mem x hx).2.1;lia⟩)
  have mA:=MP.allT p2 (cs.map lnP) (MP.one p2) mcs;have mlin:=MP.lin p2 (c:=(i:Int)) ad ad
  rw[cT];left;refine⟨ae,?_⟩
  refine⟨λk ρ=> ∃(o:Nat) (L':Nat×∅),ρ=[~~~cB (rwF (n+1) f),!p,some<|.ow<|cs.map λx=>fG (lnP x),~~~cB (rwF (L'.1+1) L'.2),!(i:Int),!(o:Int)]/\k=L'.1/\L'.1<=n/\(n,f)=tm p (powT p (allT p dM<|cs.map lnP) (bV (i:Int)) o) L'/\MP p L'.1 L'.2/\ ∀c:Nat,c<i->va p L' (-(c:Int))≠0,⟨L.1,0,L,rfl,rfl,hLn,lk.prod,lk.mp,lk.nr⟩,?_⟩
  rintro k ρ ⟨o,L',rfl,rfl,hL',e,mp',nr⟩;left;refine⟨L'.1+1,8,8,L'.2,-(i:Int),rfl,⟨mp_nat pp mp',by have:(2:Nat)^8=256:=rfl;lia,ad,ac,ad⟩,?_⟩
  left
  refine⟨ad,?_⟩
  rw[bU _ ad]
  by_cases c:va p L' (-(i:Int))=0
  .rw[a8<|show ps L'.2 (-(i:Int)) (L'.1+1)%p=0 from c]
   refine⟨ac,L'.1+1,2,1,L'.2,(bV (i:Int)).2,p,rfl,ad,ac,pp,λj hj=>mlin.hi j hj,ac,λj hj=>by show(bV (i:Int)).2 j%p=0;rw[mlin.hi j hj,bT],by show(1:Int)%p≠0;rw[bR ac ad];decide,λt ht t0 t1=> ?_⟩
   obtain⟨l1,u,mu,eu,er⟩:=bR2 pp mp' (c:=(i:Int)) ad ad c ht t0 t1
   dsimp only at er⊢;rw[er,uD];right;have eL:rwF L'.1 u=rwF (L'.1-1+1) u:=by rw[show L'.1-1+1=L'.1 by lia]
   rw[eL];refine⟨L'.1-1,ad,o+1,(L'.1-1,u),by rw[Int.natCast_succ],rfl,by show L'.1-1<=n;lia,?_,mu,λc' hc'=> ?_⟩
   .show(n,f)=tm p (tm p (powT p (allT p dM<|cs.map lnP) (bV (i:Int)) o)<|bV (i:Int)) (L'.1-1,u)
    rw[e]
    conv=>lhs;rw[eu]
    rw[sZ (a:=(L'.1-1,u)) (λj hj=>mu.hi j hj) mlin.hi,pC mlin.hi]
   .have:=nr c' hc';rw[eu]at this;exact(bR3 mlin.hi this).1
  .rw[a7<|show ¬ps L'.2 (-(i:Int)) (L'.1+1)%p=0 from c]
   have nr': ∀c:Nat,c<i+1->va p L' (-(c:Int))≠0:=λc' hc'=>by
    by_cases h1:c'<i
    .exact nr c' h1
    .rw[show c'=i by lia];exact c
   by_cases c2:(0:Int)< (o:Int)
   .rw[a8 c2];refine⟨ac,ac,?_,cs++[((i:Int),o)],L',_,_,by rw[bS];rfl,?_,mp',?_,?_,nr',?_⟩
    .rw[aK];exact rM lk.len (b7 hi<|aN (show p.toNat<=200 by lia) ac)
    .rw[bS,iJ];exact e
    .rw[o7];refine⟨lk.asc,nX _ _,λa ha b hb=> ?_⟩
     rw[fM.mp hb];exact(lk.mem a ha).2.1
    .intro z hz;rcases bH.mp hz with hz|hz
     .have:=lk.mem z hz;exact⟨this.1,ad,this.2.2⟩
     .rw[fM.mp hz];exact⟨by show(0:Int)<=(i:Int);lia,by show(i:Int)< ((i+1:Nat):Int);lia,by show 1<=o;lia⟩
    .rw[cE];exact Nat.succ_le_succ lk.len
   .rw[a7 c2];have o0:o=0:=ad
    subst o0;exact⟨cs,L',_,_,rfl,e,mp',lk.asc,λz hz=>⟨(lk.mem z hz).1,by have:=(lk.mem z hz).2.1;lia,(lk.mem z hz).2.2⟩,nr',Nat.le_succ_of_le lk.len⟩
 .rintro ρ ⟨cs,L,x,y,rfl,lk⟩;right;unfold tN;left;exact⟨ac,h cs L lk⟩
nonrec def quF (v u:Int):Nat×∅:=(2,λj=>if j=0 then v else if j=1 then u else if j=2 then 1 else 0)
theorem MP.qu (hp:2<=p)(v0:0<=v)(v1:v<p)(u0:0<=u)(u1:u<p):MP p (quF v u).1 (quF v u).2:=⟨rfl,λj hj=>by
  have:2<j:=hj;show(if j=0 then v else if j=1 then u else if j=2 then 1 else 0)=0;rw[a7 ad,a7 ad,a7 ad],λj=>by
  show 0<=(if j=0 then v else if j=1 then u else if j=2 then 1 else 0)/\(if j=0 then v else if j=1 then u else if j=2 then 1 else 0)<p
  split
  .lia
  .split
   .lia
   .split<;>lia⟩
theorem aO6 (v u w s:Int):conv (quF v u).2 (quF w s).2 3 0=v*w/\conv (quF v u).2 (quF w s).2 3 1=v*s+u*w/\conv (quF v u).2 (quF w s).2 3 2=v+u*s+w/\conv (quF v u).2 (quF w s).2 3 3=u+s:=by
 refine⟨?_,?_,?_,?_⟩<;>simp[conv,shF,quF]
theorem c59 (mp:MP p 4 f)(m1:MP p (quF v u).1 (quF v u).2)(m2:MP p (quF w s).1 (quF w s).2)(hp:2<=p) :
  ((4,f):Nat×∅)=tm p (quF v u) (quF w s)↔f 0=v*w%p/\f 1=(v*s+u*w)%p/\f 2=(v+u*s+w)%p/\f 3=(u+s)%p:=by
 obtain⟨e0,e1,e2,e3⟩:=aO6 v u w s;have mt:=MP.tm hp m1 m2;constructor
 .intro e;have h: ∀m,f m=conv (quF v u).2 (quF w s).2 3 m%p:=λm=>congrFun (bQ Prod.snd e) m
  exact⟨by rw[h 0,e0],by rw[h 1,e1],by rw[h 2,e2],by rw[h 3,e3]⟩
 .rintro⟨h0,h1,h2,h3⟩;refine eD rfl (funext λm=> ?_)
  show f m=conv (quF v u).2 (quF w s).2 3 m%p
  match m with
  | 0=>rw[h0,e0]
  | 1=>rw[h1,e1]
  | 2=>rw[h2,e2]
  | 3=>rw[h3,e3]
  | 4=>exact mp.top.trans mt.top.symm
  | m+5=>exact(mp.hi _ ad).trans (mt.hi (m+5)<|show 2+2<m+5 by lia).symm
def NoQ (p:Int)(F:Nat×∅):Prop:= ∀v u w s:Int,0<=v->v<p->0<=u->u<p->0<=w->w<p->0<=s->s<p->F≠tm p (quF v u) (quF w s)
def mW:Φ:=λds Q=> ∃(f:∅) (p:Int),ds=[cB<|rwF 5 f,.int p]/\Pr p/\MP p 4 f/\
 (∀v u w s:Int,0<=v->v<p->0<=u->u<p->0<=w->w<p->0<=s->s<p->((4,f):Nat×∅)=tm p (quF v u) (quF w s)->Q (.ow [cB [v,u,1],cB [w,s,1]]))/\(NoQ p (4,f)->Q (.ow []))
def qU:US:=(dW<|iP aP)
def mY:US:=(b4 (tV (tI<|a9 (aD 1) aP) (eU 2)<|b4 (cN 3<|uOp iS (uOp M.gSub (uIx (b6 0)<|@3)<|aD 2)<|aD 1)<|b4 (cN 4<|uOp M.gSub (uIx (b6 0)<|@2)<|uOp fT (aD 2)<|aD 3)<|tV (tI<|a9 (aD 1) aP) (eU 5)<|b4 (cN 6<|uOp iS (uOp M.gSub (aD 4)<|aD 5)<|aD 1)<|jW (aZ6 (fX<|uOp (i5 false) (uOp iS (uOp fT (aD 5)<|aD 6)<|aD 1)<|uIx (b6 0)<|@0)<|fX<|uOp (i5 false) (uOp iS (uOp j0 (uOp fT (aD 2)<|aD 6)<|uOp fT (aD 5)<|aD 3)<|aD 1)<|uIx (b6 0)<|@1) (dW<|iP<|a9 (gS<|a9 (aD 5)<|a9 (aD 2)<|a9 @1 aP)<|a9 (gS<|a9 (aD 6)<|a9 (aD 3)<|a9 @1 aP) aP) gF) qU)
def bE1 (p:Int)(f:∅)(u v:Int):Prop:=v*((f 2-u*((f 3-u)%p)-v)%p)%p=f 0/\(u*((f 2-u*((f 3-u)%p)-v)%p)+v*((f 3-u)%p))%p=f 1
theorem aV7 {b:Int}(h0:0<=a)(h1:a<p)(h:x=(a+b)%p):(x-b)%p=a:=by
 rw[h,jJ,fO,<-jJ,Int.add_sub_cancel];exact bR h0 h1
theorem a45: Ra mW mY ["f","p","u","s","t","v","w"]:=by
 rintro ds Q ⟨f,p,rfl,pp,mp,yes,no⟩;have p2:=pp.lo;have p3:=pp.hi;have a0:atI ((rwF 5 f).map D.int) 0=some (.int<|f 0):=l6 (i:=0) ac
 have a1:atI ((rwF 5 f).map D.int) 1=some (.int<|f 1):=l6 (i:=1) ac
 have a2:atI ((rwF 5 f).map D.int) 2=some (.int<|f 2):=l6 (i:=2) ac
 have a3:atI ((rwF 5 f).map D.int) 3=some (.int<|f 3):=l6 (i:=3) ac
 unfold mY;simp only[cB];show(b4 _ _:US) _ [~~~.tup ((rwF 5 f).map .int),!p,none,none,none,none,none];rw[b5];refine dI p.toNat (λi=> .int (0+i)) [~~~.tup ((rwF 5 f).map .int),!p,none,none,none,none,none] ?_
  (λi ρ=> ∃x y z a b,ρ=[~~~.tup ((rwF 5 f).map .int),!p,x,y,z,a,b]/\ ∀u v:Nat,u<i->v<p.toNat-> ¬bE1 p f (u:Int) (v:Int))
  ⟨none,none,none,none,none,rfl,λu v hu=>ad⟩ ?_ ?_
 .intro Q' q;left;refine⟨⟨ad,ad⟩,?_⟩
  exact q
 .rintro i ρ hi ⟨x,y,z,a,b,rfl,nh⟩;rw[cT];left;rw[a3];right;refine⟨ae,ad,?_⟩
  rw[bU _ ad,a2]
  right;have s0:=bC (f 3-(i:Int)) (show p≠0 by lia)
  have s1:=b9 (f 3-(i:Int)) (show 0<p by lia)
  generalize hS:(f 3-(i:Int))%p=S at *;refine⟨cmL ad ad,?_⟩
  refine dI p.toNat (λi=> .int (0+i)) [~~~.tup ((rwF 5 f).map .int),!p,!(i:Int),!S,!(f 2-(i:Int)*S),a,b] ?_
   (λj ρ=> ∃a b,ρ=[~~~.tup ((rwF 5 f).map .int),!p,!(i:Int),!S,!(f 2-(i:Int)*S),a,b]/\ ∀v:Nat,v<j-> ¬bE1 p f (i:Int) (v:Int))
   ⟨a,b,rfl,λv hv=>ad⟩ ?_ ?_
  .intro Q' q;left;refine⟨⟨ad,ad⟩,?_⟩
   exact q
  .rintro j ρ hj ⟨a,b,rfl,nj⟩;rw[cT];left;refine⟨ae,ad,?_⟩
   rw[bU _ ad]
   have w0:=bC (f 2-(i:Int)*S-(j:Int)) (show p≠0 by lia)
   have w1:=b9 (f 2-(i:Int)*S-(j:Int)) (show 0<p by lia)
   generalize hW:(f 2-(i:Int)*S-(j:Int))%p=W at *;refine⟨cmL ad ad,ad,?_⟩
   rw[bU _ ad,a0]
   right
   have step: ¬bE1 p f (i:Int) (j:Int)-> ∃a b,[some<|B.pu<|.tup<|(rwF 5 f).map .int,!p,!(i:Int),!S,!(f 2-(i:Int)*S),!(j:Int),!W]=[~~~.tup ((rwF 5 f).map .int),!p,!(i:Int),!S,!(f 2-(i:Int)*S),a,b]/\ ∀v:Nat,v<j+1-> ¬bE1 p f (i:Int) (v:Int):=λnh'=>⟨_,_,rfl,λv hv=>by
    by_cases h1:v<j
    .exact nj v h1
    .rw[show v=j by lia];exact nh'⟩
   by_cases c1:(j:Int)*W%p=f 0
   .rw[a8 c1];refine⟨cmL ad ad,cmL ad ad,ad,?_⟩
    rw[bU _ ad,a1]
    right
    by_cases c2:((i:Int)*W+(j:Int)*S)%p=f 1
    .rw[a8 c2];refine⟨ac,ac,ac,yes (j:Int) (i:Int) W S ad ad ad ad w0 w1 s0 s1<|(c59 mp (MP.qu p2 ad ad ad ad) (MP.qu p2 w0 w1 s0 s1) p2).mpr ⟨c1.symm,by rw[<-c2,sF],?_,?_⟩⟩
     .rw[<-hW,dE,fO,<-dE];have:(j:Int)+(i:Int)*S+(f 2-(i:Int)*S-(j:Int))=f 2:=ad
      rw[this];exact(bR (mp.rng 2).1 (mp.rng 2).2).symm
     .rw[<-hS,dE,fO,<-dE];have:(i:Int)+(f 3-(i:Int))=f 3:=ad
      rw[this];exact(bR (mp.rng 3).1 (mp.rng 3).2).symm
    .rw[a7 c2];exact step λz=>c2 (by have:=z.2;unfold bE1 at z;rw[hS,hW]at this;exact this)
   .rw[a7 c1];exact step λz=>c1 (by have:=z.1;rw[hS,hW]at this;exact this)
  .rintro ρ ⟨a,b,rfl,nj⟩;refine⟨_,_,_,_,_,rfl,λu v hu hv=> ?_⟩
   by_cases h1:u<i
   .exact nh u v h1 hv
   .rw[show u=i by lia];exact nj v hv
 .rintro ρ ⟨x,y,z,a,b,rfl,nh⟩;right;unfold qU;left;refine⟨ac,no ?_⟩
  intro v u w s v0 v1 u0 u1 w0 w1 s0 s1 e;obtain⟨h0,h1,h2,h3⟩:=(c59 mp (MP.qu p2 v0 v1 u0 u1) (MP.qu p2 w0 w1 s0 s1) p2).mp e;obtain⟨v',rfl⟩: ∃v':Nat,v=(v':Int):=⟨v.toNat,ad⟩
  obtain⟨u',rfl⟩: ∃u':Nat,u=(u':Int):=⟨u.toNat,ad⟩
  refine nh u' v' ad ad ?_
  have es:(f 3-(u':Int))%p=s:=aV7 s0 s1 (by rw[h3,sF])
  have ew:(f 2-(u':Int)*s-(v':Int))%p=w:=by
   have:=aV7 (x:=f 2) (b:=(v':Int)+(u':Int)*s) w0 w1 (by rw[h2,sF w])
   rw[<-this]
   congr 1
   lia
  unfold bE1;rw[es,ew];exact⟨h0.symm,by rw[h1,sF]⟩
theorem at0 {a b:D}:atI [a,b] 0=some a:=dS rfl
theorem at1 {a b:D}:atI [a,b] 1=some b:=dS rfl
def NoR (p:Int)(F:Nat×∅):Prop:= ∀c:Nat,c<p.toNat->va p F (-(c:Int))≠0
def ltP (x y:(Nat×∅)×Nat):Prop:=x.1.1<y.1.1\/(x.1.1=y.1.1/\ltL (rwF (x.1.1+1) x.1.2) (rwF (y.1.1+1) y.1.2)=true)
structure RL (p:Int)(F:Nat×∅)(rs:List ((Nat×∅)×Nat)):Prop where
 prod: ∀a:Nat×∅,MP p a.1 a.2->allT p a rs=tm p a F
 mem: ∀x∈rs,MP p x.1.1 x.1.2/\2<=x.1.1/\x.1.1<=4/\1<=x.2/\x.2<=2/\NoR p x.1/\(x.1.1=4->NoQ p x.1)
 ord:rs.Pairwise ltP
 len:rs.length<=2
theorem aO7 (hp:2<=p){a:Nat×∅}(ha:MP p a.1 a.2):tm p a dM=a:=by
 rw[sZ ha.hi (MP.one hp).hi,aA9 ha]
theorem RL.single (mp:MP p F.1 F.2)(h2:2<=F.1)(h4:F.1<=4)(nr:NoR p F)(nq:F.1=4->NoQ p F):RL p F [(F,1)]:=
 ⟨λa _=>rfl,λx hx=>by rw[fM.mp hx];exact⟨mp,h2,h4,aC _,show 1<=2 by decide,nr,nq⟩,nX _ _,show 1<=2 by decide⟩
theorem row_lt (h: ¬(v=w/\u=s)):ltL [w,s,1] [v,u,1]=false->ltL [v,u,1] [w,s,1]=true:=by
 unfold ltL
 by_cases c:v=w
 .rw[a8 c,a8 c.symm];unfold ltL;have:u≠s:=λz=>h ⟨c,z⟩
  rw[a7 this,a7 λz=>this z.symm]
  simp only[rG,oC]
  lia
 .rw[a7 c,a7 λz=>c z.symm]
  simp only[rG,oC]
  lia
def fY:Φ:=λds Q=> ∃(n:Nat) (f:∅) (p:Int),ds=[cB<|rwF (n+1) f,.int p]/\n<=4/\Pr p/\MP p n f/\NoR p (n,f)/\ ∀rs,RL p (n,f) rs->Q (.ow<|rs.map fG)
def lY:US:=(dW<|hZ [] [none,none] 1 (oU<|aX b07<|a9 (aD 2) aP) (eU 0) (λρ Q=>Q true ρ)<|gS<|a9 (aD 0)<|a9 @1 aP)
def lZ:US:=(b4 (jW (fX<|uOp (bK6 false) (uIx (b6 2)<|@0)<|uIx (b6 2)<|@1) (dW<|iP<|a9 (gS<|a9 (uIx (b6 2)<|@0)<|a9 @2 aP) aP) gF) lY)
def fH:US:=(b4 (jW (fX<|uOp (i5 false) (lQ<|b6 2)<|@0) (dW<|iP<|a9 (gS<|a9 (aD 0)<|a9 @1 aP) aP) gF) lZ)
def mC:US:=(b4 (cN 2<|uIf (fX<|uOp (i5 false) (lQ<|b6 0)<|@5) (aX mW<|a9 (aD 0)<|a9 (aD 1) aP)<|iP aP) fH)
def j2:US:=(b4 (jW (fX<|uOp (i5 false) (lQ<|b6 0)<|@1) (dW<|iP aP) gF) mC)
theorem bR4 (pp:Pr p)(mp:MP p F.1 F.2)(h1:F.1=1)(nr:NoR p F):False:=by
 have p2:=pp.lo;have r:=mp.rng 0;refine nr (F.2 0).toNat ad ?_
 unfold va;rw[h1,show(((F.2 0).toNat:Nat):Int)=F.2 0 by lia]
 have t:F.2 1=1:=by have:=mp.top;rw[h1]at this;exact this
 show(0+F.2 0*(-F.2 0)^0+F.2 1*(-F.2 0)^1)%p=0
 rw[t,fR,jK,fR];have:0+F.2 0*1+1*(1* -F.2 0)=0:=ad
 rw[this,bT]
theorem vF: Ra fY j2 ["f","p","a"]:=by
 rintro ds Q ⟨n,f,p,rfl,n4,pp,mp,nr,h⟩;have p2:=pp.lo;unfold j2;simp only[cB];show(b4 _ _:US) _ [~~~.tup ((rwF (n+1) f).map .int),!p,none];rw[b5];left;rw[bE]
 by_cases n0:n=0
 .rw[a8 ad]
  subst n0;refine⟨ac,h [] ⟨λa ha=> ?_,ae,.nil,ac⟩⟩
  have e:((0,f):Nat×∅)=dM:=eD rfl (funext λj=>by
   show f j=if j=0 then 1 else 0
   by_cases c:j=0
   .rw[a8 c,c];exact mp.top
   .rw[a7 c];exact mp.hi j ad)
  rw[e,aO7 p2 ha];rfl
 rw[a7 ad]
 have n1:n≠1:=λz=>bR4 pp (F:=(n,f)) mp z nr
 have alone:(n=4->NoQ p (n,f))->fH {Q with} [~~~.tup ((rwF (n+1) f).map .int),!p,↑[]]:=λnq=>by
  unfold fH;rw[b5];left;rw[a8<|by rfl]
  exact⟨ac,ac,h [((n,f),1)]<|RL.single mp (by show 2<=n;lia) n4 nr nq⟩
 unfold mC;rw[b5];left;simp only[uIf,lQ,b6,b57,uC,isB,B.d,oS,i5,wB,bE]
 by_cases c:n=4
 .subst c;rw[a8<|by rfl]
  refine⟨f,p,rfl,pp,mp,λv u w s v0 v1 u0 u1 w0 w1 s0 s1 e=> ?_,λnq=> ?_⟩
  .have m1:=MP.qu p2 v0 v1 u0 u1;have m2:=MP.qu p2 w0 w1 s0 s1;have k1:NoR p (quF v u):=λc hc=>by have:=nr c hc;rw[e]at this;exact(bR3 m2.hi this).1
   have k2:NoR p (quF w s):=λc hc=>by have:=nr c hc;rw[e]at this;exact(bR3 m2.hi this).2
   right;simp only[cB];unfold fH;rw[b5];left;rw[a7 ac]
   unfold lZ;rw[b5];left;rw[at0,at1];right;refine bQ1 ?_
   by_cases c:[v,u,(1:Int)]=[w,s,1]
   .have c1:v=w:=by simp at c;exact c.1
    have c2:u=s:=by simp at c;exact c.2
    subst c1 c2;rw[eR rfl];right;rw[a8 ac]
    refine⟨ac,ac,h [(quF v u,2)] ⟨λa ha=> ?_,λx hx=> ?_,nX _ _,show 1<=2 by decide⟩⟩
    .show tm p (tm p a<|quF v u) (quF v u)=tm p a (4,f)
     rw[e,pC m1.hi]
    .rw[fM.mp hx];exact⟨m1,aC _,show 2<=4 by decide,show 1<=2 by decide,aC _,k1,λz=>by cases z⟩
   .rw[dC c];right;rw[a7 ac]
    have nc: ¬(v=w/\u=s):=λz=>c (by rw[z.1,z.2])
    unfold lY;rw[nM];have fin2: ∀(v u w s:Int),MP p (quF v u).1 (quF v u).2->MP p (quF w s).1 (quF w s).2->NoR p (quF v u)->NoR p (quF w s)->((4,f):Nat×∅)=tm p (quF v u) (quF w s)->ltL [v,u,1] [w,s,1]=true->Q (.ow [.tup [.tup<|[v,u,1].map D.int,.int 1],.tup [.tup<|[w,s,1].map D.int,.int 1]]):=λv u w s m1 m2 k1 k2 e lt=>by
     refine h [(quF v u,1),(quF w s,1)] ⟨λa ha=> ?_,λx hx=> ?_,?_,aC _⟩
     .show tm p (tm p a<|quF v u) (quF w s)=tm p a (4,f)
      rw[e,pC m1.hi]
     .rcases aG.mp hx with rfl|hx
      .exact⟨m1,aC _,show 2<=4 by decide,aC _,show 1<=2 by decide,k1,λz=>by cases z⟩
      .rw[fM.mp hx];exact⟨m2,aC _,show 2<=4 by decide,aC _,show 1<=2 by decide,k2,λz=>by cases z⟩
     .refine gJ.mpr ⟨λy hy=> ?_,nX _ _⟩
      rw[fM.mp hy];exact .inr ⟨rfl,lt⟩
    refine iU (t0:=0) 2 (λk=>(if ltL [w,s,1] [v,u,1]=true then [D.tup<|[w,s,1].map D.int,.tup<|[v,u,1].map D.int]else [.tup<|[v,u,1].map D.int,.tup<|[w,s,1].map D.int]).getD k .non) [~~~.tup ((rwF (4+1) f).map .int),!p,~~~.lst [.tup<|[v,u,1].map D.int,.tup<|[w,s,1].map D.int]] ?_ ac (λx l'=>[x,↑l']) none rfl (λ_ _ _=>rfl) (λ_ _=>e6 _) (λ_ _ _ q=>q) (λ_ _ _=>rfl)
     (λk=> .tup [(if ltL [w,s,1] [v,u,1]=true then [D.tup<|[w,s,1].map D.int,.tup<|[v,u,1].map D.int]else [.tup<|[v,u,1].map D.int,.tup<|[w,s,1].map D.int]).getD k .non,.int 1]) ?_ ?_
    .intro Q' q;left;refine⟨v,w,[u,1],[s,1],rfl,?_⟩;cases l:ltL [w,s,1] [v,u,1]
     .rw[l]at q;exact q
     .rw[l]at q;exact q
    .intro k l' Q' hk q;left;exact⟨ac,q⟩
    .cases l:ltL [w,s,1] [v,u,1]
     .exact fin2 v u w s m1 m2 k1 k2 e (row_lt nc l)
     .exact fin2 w s v u m2 m1 k2 k1 (by rw[e,sZ m1.hi m2.hi]) l
  .exact alone λ_=>nq
 .rw[a7 (by simp;lia)]
  refine⟨ac,?_⟩
  exact alone λz=>absurd z c
structure SP (p:Int)(F:Nat×∅)(xs:List ((Nat×∅)×Nat)):Prop where
 prod:allT p dM xs=F
 mem: ∀x∈xs,MP p x.1.1 x.1.2/\1<=x.1.1/\x.1.1<=4/\1<=x.2/\x.2<=4/\(2<=x.1.1->NoR p x.1)/\(x.1.1=4->NoQ p x.1)
 ord:xs.Pairwise ltP
 len:xs.length<=300
theorem SP.of (pp:Pr p){L:Nat×∅}{cs:List (Int×Nat)}{rs:List ((Nat×∅)×Nat)}(h4:F.1<=4)(lk:LK p F p.toNat cs L)(rl:RL p L rs):SP p F (cs.map lnP++rs):=by
 have p2:=pp.lo;have p3:=pp.hi;have rg: ∀x∈cs,0<=x.1/\x.1<p:=λx hx=>⟨(lk.mem x hx).1,by have:=(lk.mem x hx).2.1;lia⟩
 have mcs:=b80 p2 rg;have mA:=MP.allT p2 (cs.map lnP) (MP.one p2) mcs;refine⟨by rw[iJ,rl.prod _ mA];exact lk.prod.symm,λx hx=> ?_,?_,?_⟩
 .rcases bH.mp hx with hx|hx
  .obtain⟨y,hy,rfl⟩:=dO.mp hx;have hd:=aV6 p (cs.map lnP) dM (lnP y) hx;have e:F.1=(allT p dM<|cs.map lnP).1+L.1:=bQ Prod.fst lk.prod;have hd':0+1*y.2<=(allT p dM<|cs.map lnP).1:=hd;refine⟨mcs _ hx,aC _,show 1<=4 by decide,(lk.mem y hy).2.2,show y.2<=4 by lia,λz=> ?_,λz=> ?_⟩
   .have:2<=1:=z
    lia
   .have:1=4:=z
    lia
  .obtain⟨a,b,c,d,e,f,g⟩:=rl.mem x hx;exact⟨a,ad,c,d,ad,λ_=>f,g⟩
 .rw[o7];refine⟨?_,rl.ord,λx hx y hy=> ?_⟩
  .rw[List.pairwise_map];refine lk.asc.imp λ{a b} h=> .inr ⟨rfl,?_⟩
   show ltL [a.1,1] [b.1,1]=true
   unfold ltL;rw[a7 ad,eR h]
  .obtain⟨z,hz,rfl⟩:=dO.mp hx;have:=(rl.mem y hy).2.1;exact .inl (show 1<y.1.1 by lia)
 .have a:=lk.len;have b:=rl.len;rw[cE,aK]
  lia
def lJ:Φ:=λds Q=> ∃(n:Nat) (g:∅) (p:Int),ds=[cB<|rwF (n+1) g,.int p]/\n<=4/\p∈prL/\MP p n (md p g)/\ ∀xs,SP p (n,md p g) xs->Q (.ow<|xs.map fG)
def uK:US:=(dW<|uOp j0 (aD 2)<|aX fY<|a9 (aD 3)<|a9 (aD 1) aP)
def uL:US:=(b4 (bB7 (aX k7<|a9 (aX eI<|a9 (aD 0)<|a9 (aD 1) aP)<|a9 (aD 1) aP)<|y9<|gT 2<|gT 3 vH) uK)
def qD:US:=(b4 (jW (fX<|uOp (gIn true) (aD 1)<|aX i4 aP) (λ_ _=>False) gF) uL)
theorem aE3: Ra lJ qD ["f","p","a","l"]:=by
 rintro ds Q ⟨n,g,p,rfl,n4,hp,mp,h⟩;have pp:=aO2 hp;have p2:=pp.lo;unfold qD;show(b4 _ _:US) _ [~~~cB (rwF (n+1) g),!p,none,none];rw[b5];left;refine⟨rfl,p,T_SMALL_PRIMES,rfl,.inr<|.inl rfl,?_⟩;rw[eR (show p∈T_SMALL_PRIMES by rw[<-b32];exact hp)]
 right;rw[a7 ac]
 unfold uL;rw[b5];left;refine⟨n+1,g,p,rfl,ad,ad,?_⟩
 left
 have e:dB (md p g) (n+1)=n+1:=nN (aC _) (λm h1 h2=>ad) (.inr (by rw[i8,mp.top];decide))
 rw[e];refine⟨n,md p g,p,rfl,ad,pp,mp,λcs L lk=> ?_⟩
 left
 refine⟨ac,ac,trivial,?_⟩
 unfold uK;rw[nM,bP9];left;have hL:L.1<=4:=by
  have e:n=(allT p dM<|cs.map lnP).1+L.1:=bQ Prod.fst lk.prod
  lia
 refine⟨L.1,L.2,p,rfl,hL,pp,lk.mp,lk.nr,λrs rl=> ?_⟩
 have sp:=SP.of pp (F:=(n,md p g)) n4 lk rl;have e2:(cs.map λx=>fG (lnP x))++rs.map fG=(cs.map lnP++rs).map fG:=by rw[bS,kW];rfl
 left
 rw[e2];refine⟨?_,h _ sp⟩;rw[<-cE,e2,aK];exact aN sp.len ac
nonrec def stB (xs:List ((Nat×∅)×Nat)):Bool:=match xs with
 | [x]=>decide (x.2=1)
 | _=>false
def xP:Φ:=λds Q=> ∃(n:Nat) (g:∅) (p:Int),ds=[cB<|rwF (n+1) g,.int p]/\n<=4/\p∈prL/\MP p n (md p g)/\ ∀xs,SP p (n,md p g) xs->Q (.pu<|.bl<|stB xs)
def a26:US:=(dW<|qF (uOp (i5 false) (lQ<|b6 2)<|@1)<|uOp (i5 false) (uIx (uV<|uIx (b6 2)<|@0)<|@1)<|@1)
def xQ:US:=(b4 (cN 2<|aX lJ<|a9 (aD 0)<|a9 (aD 1) aP) a26)
theorem b33: Ra xP xQ ["f","p","a"]:=by
 rintro ds Q ⟨n,g,p,rfl,n4,hp,mp,h⟩;unfold xQ;show(b4 _ _:US) _ [~~~cB (rwF (n+1) g),!p,none];rw[b5];left;refine⟨n,g,p,rfl,n4,hp,mp,λxs sp=> ?_⟩
 have h:=h xs sp;unfold a26;left;rw[aK]
 match xs,h with
 | [],h=>
  rw[a7 ac]
  exact h
 | [x],h=>
  rw[a8<|by rfl]
  simp only[bX,iG,uD,fG,at1];have e:decide ((x.2:Int)=1)=stB [x]:=by
   show _=decide (x.2=1)
   by_cases c:x.2=1
   .rw[eR c,eR ad]
   .rw[dC c,dC ad]
  rw[e];exact h
 | x::y::r,h=>
  rw[a7 (by simp;lia)]
  exact h
theorem aJ1 {p:Int}(hp:2<=p){g a h:Nat×∅}(ma:MP p a.1 a.2)(mh:MP p h.1 h.2): ∀k,powT p (tm p g a) h k=tm p g (powT p a h k)
 | 0=>rfl
 | k+1=>by
  show tm p (powT p (tm p g a) h k) h=tm p g (tm p (powT p a h k) h)
  rw[aJ1 hp ma mh k,pC (MP.powT hp ma mh k).hi]
theorem vC {p:Int}(hp:2<=p){g:Nat×∅}: ∀(l:List ((Nat×∅)×Nat)) {a:Nat×∅},MP p a.1 a.2->(∀x∈l,MP p x.1.1 x.1.2)->allT p (tm p g a) l=tm p g (allT p a l)
 | [],a,_,_=>rfl
 | x::l,a,ma,h=>by
  show allT p (powT p (tm p g a) x.1 x.2) l=tm p g (allT p (powT p a x.1 x.2) l)
  rw[aJ1 hp ma<|h x<|.head _,vC hp l (MP.powT hp ma (h x<|.head _) x.2) λy hy=>h y (.tail _ hy)]
theorem c29 (f:∅){z:Int}(h:z%p=y%p): ∀n,ps f z n%p=ps f y n%p:=by
 have pw: ∀n,z^n%p=y^n%p:=by
  intro n
  induction n with
  | zero=>rw[fR,fR]
  | succ n ih=>rw[jK,jK,cD,ih,h,<-cD]
 intro n
 induction n with
 | zero=>rfl
 | succ n ih=>
  show(ps f z n+f n*z^n)%p=(ps f y n+f n*y^n)%p
  rw[dE,ih,cD,pw,<-cD,<-dE]
theorem NoR.any (hp:2<=p)(h:NoR p F)(z:Nat)(hz:z<p.toNat):ps F.2 (z:Int) (F.1+1)%p≠0:=by
 by_cases z0:z=0
 .subst z0;exact h 0 hz
 .intro q;refine h (p.toNat-z) ad ?_
  unfold va;rw[<-q];refine c29 F.2 ?_ _;have e: -(((p.toNat-z:Nat)):Int)=(z:Int)+p*(-1):=ad
  rw[e,rB]
theorem bR5 {X r:Int}(h:X%p=r): ∃k,X=r+p*k:=⟨X/p,by rw[<-h];exact(j9 X p).symm⟩
theorem no_div (pp:Pr p){k:Int}(h2:2<=k)(h:k<p):1<=p%k:=by
 have h0:=bC p (show k≠0 by lia)
 refine rD λz=> ?_
 obtain⟨m,hm⟩:=j8 (show p%k=0 by lia)
 obtain⟨t,ht⟩:=bR5 (pp.inv k ad h)
 have h1:k*(a42 k p (p.toNat-2)-m*t)=1:=by
  rw[Int.mul_sub,sE k,ht,<-gO,<-hm]
  lia
 have h3:k∣1:=⟨_,h1.symm⟩;have:=sC ac h3
 lia
structure Bk (p:Int)(k:Nat)(B:∅):Prop where
 rng: ∀j,0<=B j/\B j<p
 inv: ∀j,1<=j->j<k->B j*(j:Int)%p=1
theorem Bk.step (pp:Pr p)(h2:2<=k)(hk:(k:Int)<p){B:∅}(b:Bk p k B):Bk p (k+1) (λx=>if x=k then(p-p/(k:Int))*B (p%(k:Int)).toNat%p else B x):=by
 have p2:=pp.lo;refine⟨λj=> ?_,λj j1 jk=> ?_⟩
 .split
  .exact⟨bC _ ad,b9 _ ad⟩
  .exact b.rng j
 .by_cases c:j=k
  .subst c;rw[a8 rfl];have r1:=no_div pp (k:=(j:Int)) ad hk
   have r2:=b9 p (show(0:Int)< (j:Int)by lia)
   have iv:=b.inv (p%(j:Int)).toNat ad ad
   rw[show(((p%(j:Int)).toNat:Nat):Int)=p%(j:Int)by lia]at iv
   have dm:=j9 p (j:Int);generalize p%(j:Int)=r at *;generalize p/(j:Int)=q at *;generalize B r.toNat=x at *;obtain⟨t,ht⟩:=bR5 iv;rw[emL];have e:(p-q)*x*(j:Int)=1+p*(t+x*(j:Int)-x):=by
    have:(p-q)*x*(j:Int)=x*r+p*(x*(j:Int)-x):=by
     have:(j:Int)*q=p-r:=ad
     grind
    rw[this,ht]
    grind
   rw[e,rB];exact bR ac ad
  .rw[a7 c];exact b.inv j j1 ad
def g9:ΦX:=λds Q Ex=> ∃(r:List Int) (p:Int),ds=[cB r,.int p]/\p ∉ prL/\Ex "NoPrime" []
def pE:USX:=(λEx=>b4 ((λEx=>jW (fX<|uOp (gIn true) (aD 1)<|aX i4 aP) ((aN5 "NoPrime"<|a9 (uC<|.str "a split needs a small prime") aP) Ex) ((λ_=>gF) Ex)) Ex) ((λEx=>b4 ((λ_=>(bB7 (aX k7<|a9 (aX eI<|a9 (aD 0)<|a9 (aD 1) aP)<|a9 (aD 1) aP)<|y9<|gT 2<|gT 3 vH)) Ex) ((λ_=>(dW<|uOp j0 (aD 2)<|aX fY<|a9 (aD 3)<|a9 (aD 1) aP)) Ex)) Ex))
theorem a46: ∀ds Q Ex,g9 ds Q Ex->ds.length=2:=by rintro ds Q Ex ⟨r,p,rfl,_⟩;rfl
theorem aB2: ∀ds Q Ex,g9 ds Q Ex->pE Ex {Q with} (init ["f","p","a","l"] ds):=by
 rintro ds Q Ex ⟨r,p,rfl,hp,h⟩;unfold pE;show(b4 _ _:US) _ [~~~cB r,!p,none,none];rw[b5];left;refine⟨rfl,p,T_SMALL_PRIMES,rfl,.inr<|.inl rfl,?_⟩;rw[dC (show ¬p∈T_SMALL_PRIMES by rw[<-b32];exact hp)]
 exact⟨ac,h⟩
def pT:ΦX:=λds Q Ex=> ∃(r:List Int) (p:Int),ds=[cB r,.int p]/\p ∉ prL/\Ex "NoPrime" []
def uM:USX:=(λEx=>b4 ((λEx=>cN 2 (b19 g9 (a9 (aD 0)<|a9 (aD 1) aP) Ex)) Ex) ((λ_=>(dW<|qF (uOp (i5 false) (lQ<|b6 2)<|@1)<|uOp (i5 false) (uIx (uV<|uIx (b6 2)<|@0)<|@1)<|@1)) Ex))
theorem aO8: ∀ds Q Ex,pT ds Q Ex->ds.length=2:=by rintro ds Q Ex ⟨r,p,rfl,_⟩;rfl
theorem aV8: ∀ds Q Ex,pT ds Q Ex->uM Ex {Q with} (init ["f","p","a"] ds):=by
 rintro ds Q Ex ⟨r,p,rfl,hp,h⟩;unfold uM;show(b4 _ _:US) _ [~~~cB r,!p,none];left;exact⟨r,p,rfl,hp,h⟩
def xR:Φ:=λds Q=> ∃(r:List Int) (p:Int),ds=[cB r,.int p]/\p ∉ prL/\Q (.pu<|.bl true)
def a27:US:=(dW<|uOp (i5 false) (aD 2)<|@2)
def a28:US:=(b4 (bO9 "NoPrime" (λEx=>b67 (aN7 pT (a9 (aD 0)<|a9 (aD 1) aP) Ex))<|cN 2<|uOp j0 (aD 2)<|@1) a27)
def a29:US:=(b4 (bO8 3 "NoPrime" (λa _ _=> .adr a) (λEx=>b67 (aN7 g9 (a9 (aD 0)<|a9 (aD 1) aP) Ex)) λx=>(cN 2<|uOp j0 (aD 2)<|aX aZ8<|a9 (qF (bO6 x 3 true)<|qF (bO6 x 3 true)<|b58<|bO6 x 3 false) aP)) a28)
def xS:US:=(b4 (cN 2<|@0) a29)
theorem b34: Ra xR xS ["f","p","m","e"]:=by
 rintro ds Q ⟨r,p,rfl,hp,h⟩;unfold xS;show(b4 _ _:US) _ [~~~cB r,!p,none,none];rw[b5];left;unfold a29;rw[b5];left;refine⟨r,p,rfl,hp,rfl,λa d=>⟨trivial,trivial,trivial,?_⟩⟩
 unfold a28;rw[b5];left;refine⟨r,p,rfl,hp,rfl,?_⟩;unfold a27;left;exact h
theorem bR6 (p2:2<=p)(a:Nat×∅)(z:Int):va p a z%p=va p a z:=fO _ _
theorem Pr.no_zero (pp:Pr p){b:Int}(h:a*b%p=0):a%p=0\/b%p=0:=by
 have p2:=pp.lo
 by_cases c:a%p=0
 .exact .inl c
 .refine .inr ?_
  have a0:=bC a (show p≠0 by lia)
  have a1:=b9 a (show 0<p by lia)
  have iv:=pp.inv (a%p) ad a1
  generalize a42 (a%p) p (p.toNat-2)=t at iv;have e:b%p=(t*(a%p))%p*b%p:=by rw[iv,sI]
  rw[e,emL,gO,<-emR,emL a b p,h,bL,bT]
theorem c30 (p2:2<=p)(mg:MP p g.1 g.2){l:List ((Nat×∅)×Nat)}{a:Nat×∅}(ma:MP p a.1 a.2)(hl: ∀x∈l,MP p x.1.1 x.1.2):allT p (tm p a g) l=tm p (allT p a l) g:=by
 rw[sZ ma.hi mg.hi,vC p2 l ma hl,sZ mg.hi (MP.allT p2 l ma hl).hi]
theorem b81 {p:Int}(pp:Pr p){a g:Nat×∅}(hg: ∀j,g.1<j->g.2 j=0){z:Int}(h:va p a z≠0)(h2:va p g z≠0): ∀k,va p (powT p a g k) z≠0
 | 0=>h
 | k+1=>by
  show va p (tm p (powT p a g k) g) z≠0
  rw[bR1 hg];intro e;rcases pp.no_zero e with e|e
  .rw[bR6 pp.lo]at e;exact b81 pp hg h h2 k e
  .rw[bR6 pp.lo]at e;exact h2 e
theorem b35 (mp:MP p F.1 F.2)(h1:F.1=1):F=bV (F.2 0):=by
 refine eD h1 (funext λj=> ?_)
 show F.2 j=if j=0 then F.2 0 else if j=1 then 1 else 0
 by_cases c0:j=0
 .rw[a8 c0,c0]
 .by_cases c1:j=1
  .rw[a8 c1,c1];have:=mp.top;rw[h1]at this;exact this
  .rw[a7 c0,a7 c1];exact mp.hi j ad
theorem dv1 (h:q∣a)(he:e=a*x):q∣e:=by rw[he];exact kE h
theorem bR7 (p2:2<=p)(mg:MP p g.1 g.2)(h1:g.1=1)(z:Int):va p g z=(z+g.2 0)%p:=by
 have e:g.2 1=1:=by have:=mg.top;rw[h1]at this;exact this
 unfold va;rw[h1];show(0+g.2 0*z^0+g.2 1*z^1)%p=_;rw[e,fR,Int.pow_one]
 congr 1
 lia
theorem cgR (a:Int):q∣a-a:=by rw[Int.sub_self];exact Int.dvd_zero q
theorem dv2 {b:Int}(h:q∣a)(h2:q∣b)(he:e=a*x+b*y):q∣e:=by
 rw[he];exact dvd_add (kE h) (kE h2)
theorem cgM {b d:Int}(h:q∣a-b)(h2:q∣c-d):q∣a*c-b*d:=dv2 (x:=c) (y:=b) h h2 (by grind)
theorem cgA {b d:Int}(h:q∣a-b)(h2:q∣c-d):q∣a+c-(b+d):=dv2 (x:=1) (y:=1) h h2 (by grind)
theorem b82 {p:Int}{a g:Nat×∅}(hg: ∀j,g.1<j->g.2 j=0){z:Int}(h:va p a z=0\/va p g z=0): ∀k,(va p a z=0\/1<=k)->va p (powT p a g k) z=0
 | 0,hk=>by
  rcases hk with hk|hk
  .exact hk
  .omega
 | k+1,_=>by
  show va p (tm p (powT p a g k) g) z=0
  rw[bR1 hg];rcases h with h|h
  .rw[b82 hg (.inl h) k<|.inl h,fQ,bT]
  .rw[h,bL,bT]
theorem aB3 (p2:2<=p){a b:Nat×∅}(ma:MP p a.1 a.2)(mb:MP p b.1 b.2)(h:tm p a (bV c)=tm p b (bV c)):a=b:=by
 have d:a.1=b.1:=by
  have:=bQ Prod.fst h;show a.1=b.1;have e:a.1+1=b.1+1:=this
  lia
 have f: ∀m,(c*a.2 m+(if m=0 then 0 else a.2 (m-1)))%p=(c*b.2 m+(if m=0 then 0 else b.2 (m-1)))%p:=λm=>by
  have:=congrFun (bQ Prod.snd h) m;have e:conv a.2 (bV c).2 (a.1+1) m%p=conv b.2 (bV c).2 (b.1+1) m%p:=this;rw[aB0 c ma.z,aB0 c mb.z]at e;exact e
 have down: ∀(t m:Nat),a.1+1-m=t->a.2 m=b.2 m:=by
  intro t
  induction t with
  | zero=>
   intro m hm;rw[ma.hi m ad,mb.hi m ad]
  | succ t ih=>
   intro m hm;have i1:=ih (m+1) ad
   have e:=f (m+1);rw[a7 ad,a7 ad,i8,i1]at e
   have e2:=Int.emod_emod_of_dvd;have r1:=ma.rng m;have r2:=mb.rng m;have e3:(a.2 m-b.2 m)%p=0:=by
    have:=jJ (c*b.2 (m+1)+a.2 m) (c*b.2 (m+1)+b.2 m) p;rw[e,Int.sub_self,bT]at this;rw[<-this]
    congr 1
    lia
   obtain⟨k,hk⟩:=j8 e3;have k0:k=0:=by
    rcases wY k 0 with z|z|z
    .have:p*k<=p*(-1):=kD ad ad
     lia
    .exact z
    .have:p*1<=p*k:=kD ad ad
     lia
   rw[k0,bL]at hk
   lia
 exact eD d (funext λm=>down _ m rfl)
theorem aV9 {p:Int}(p2:2<=p){g:Nat×∅}(mg:MP p g.1 g.2){l:List ((Nat×∅)×Nat)}{a:Nat×∅}(ma:MP p a.1 a.2)(hl: ∀x∈l,MP p x.1.1 x.1.2): ∀k,allT p (powT p a g k) l=powT p (allT p a l) g k
 | 0=>rfl
 | k+1=>by
  show allT p (tm p (powT p a g k) g) l=tm p (powT p (allT p a l) g k) g
  rw[c30 p2 mg (MP.powT p2 ma mg k) hl,aV9 p2 mg ma hl k]
theorem aO9 {p:Int}(pp:Pr p){z:Int}: ∀(l:List ((Nat×∅)×Nat)) (a:Nat×∅),(∀x∈l,∀j,x.1.1<j->x.1.2 j=0)->va p a z≠0->(∀x∈l,va p x.1 z≠0)->va p (allT p a l) z≠0
 | [],a,_,h,_=>h
 | y::l,a,hl,h,h2=>aO9 pp l (powT p a y.1 y.2) (λx hx=>hl x (aU _ hx)) (b81 pp (hl y<|aL ..) h (h2 y<|aL ..) _) λx hx=>h2 x (aU _ hx)
theorem cgE (a:Int):q∣a%q-a:=by
 have:=j9 a q;exact⟨-(a/q),by grind⟩
def aE4 (q:Int)(F:Nat×∅)(c:Int)(k:Nat):Prop:= ∃H:Nat×∅,MP q H.1 H.2/\F=powT q H (bV c) k/\va q H (-c)≠0
theorem bR8 (pq:Pr q)(c0:0<=c)(c1:c<q)(mg:MP q g.1 g.2)(d1:1<=g.1)(nr:2<=g.1->NoR q g)(h:g≠bV c):va q g (-c)≠0:=by
 have q2:=pq.lo
 by_cases d2:g.1=1
 .rw[bR7 q2 mg d2];intro z;have r:=mg.rng 0;obtain⟨k,hk⟩:=j8 z;have k0:k=0:=by
   rcases wY k 0 with z|z|z
   .have:q*k<=q*(-1):=kD ad ad
    lia
   .exact z
   .have:q*1<=q*k:=kD ad ad
    lia
  rw[k0,bL]at hk;refine h ?_;rw[b35 mg d2,show g.2 0=c by lia]
 .have:=nr ad c.toNat ad
  rw[kL c0]at this;exact this
theorem b83: ∀r:List Int,ltL r r=false
 | []=>rfl
 | a::r=>by unfold ltL;rw[a8 rfl];exact b83 r
theorem bR9 {q z w:Int}(h:q∣z-w)(g:∅): ∀n,q∣ps g z n-ps g w n
 | 0=>cgR _
 | n+1=>by
  have p: ∀k:Nat,q∣z^k-w^k:=by
   intro k
   induction k with
   | zero=>rw[fR,fR];exact cgR _
   | succ k ih=>rw[jK,jK];exact cgM ih h
  exact cgA (bR9 h g n) (cgM (cgR _)<|p n)
theorem aE4.uniq (pq:Pr q)(c0:0<=c)(c1:c<q){l:Nat}(h:aE4 q F c k)(h2:aE4 q F c l):k=l:=by
 have q2:=pq.lo;have ml:=MP.lin q2 c0 c1;have lz:va q (bV c) (-c)=0:=by
  rw[bR7 q2 ml rfl];show(-c+c)%q=0;rw[show -c+c=0 by lia,bT]
 have main: ∀(k l:Nat) (H G:Nat×∅),MP q H.1 H.2->MP q G.1 G.2->va q H (-c)≠0->powT q H (bV c) k=powT q G (bV c) l->l<=k:=by
  intro k
  induction k with
  | zero=>
   intro l H G mH mG hv e;cases l with
   | zero=>exact aC _
   | succ l=>
    refine absurd ?_ hv
    rw[show H=powT q G (bV c) (l+1)from e]
    exact b82 ml.hi (.inr lz) _ (.inr ad)
  | succ k ih=>
   intro l H G mH mG hv e;cases l with
   | zero=>exact cK _
   | succ l=>
    have:=ih l H G mH mG hv (aB3 q2 (MP.powT q2 mH ml k) (MP.powT q2 mG ml l) e)
    lia
 obtain⟨H,mH,e1,v1⟩:=h;obtain⟨G,mG,e2,v2⟩:=h2;have a:=main k l H G mH mG v1 (e1.symm.trans e2);have b:=main l k G H mG mH v2 (e2.symm.trans e1)
 lia
theorem cgT {b:Int}(h:q∣a-b):q∣a↔q∣b:=⟨λg=>dv2 (x:=1) (y:= -1) g h (by grind),λg=>dv2 (x:=1) (y:=1) g h (by grind)⟩
theorem a01 {x y:(Nat×∅)×Nat}(h:ltP x y):x.1≠y.1:=by
 intro e;unfold ltP at h;rw[e]at h;rcases h with h|h
 .lia
 .rw[b83]at h;exact absurd h.2 ac
theorem aP0 (pq:Pr q)(mF:MP q F.1 F.2)(sp:SP q F xs)(c0:0<=c)(c1:c<q) :
  (∀x∈xs,x.1=bV c->aE4 q F c x.2)/\((∀x∈xs,x.1≠bV c)->aE4 q F c 0):=by
 have q2:=pq.lo;have mx: ∀x∈xs,MP q x.1.1 x.1.2:=λx hx=>(sp.mem x hx).1
 have nz: ∀x∈xs,x.1≠bV c->va q x.1 (-c)≠0:=λx hx h=>bR8 pq c0 c1 (mx x hx) (sp.mem x hx).2.1 (sp.mem x hx).2.2.2.2.2.1 h
 have v1:va q dM (-c)≠0:=by
  show(0+(if 0=0 then(1:Int)else 0)*(-c)^0)%q≠0
  rw[a8 rfl,fR,sG,cT,bR ac ad]
  decide
 refine⟨λx hx e=> ?_,λh=>⟨F,mF,rfl,?_⟩⟩
 .obtain⟨l1,l2,rfl⟩:=List.append_of_mem hx;have od:=sp.ord;rw[o7,gJ]at od;have m1: ∀y∈l1,MP q y.1.1 y.1.2:=λy hy=>mx y (bH.mpr<|.inl hy)
  have m2: ∀y∈l2,MP q y.1.1 y.1.2:=λy hy=>mx y (bH.mpr<|.inr<|aU _ hy)
  have mA:=MP.allT q2 l1 (MP.one q2) m1;refine⟨allT q (allT q dM l1) l2,MP.allT q2 l2 mA m2,?_,?_⟩
  .rw[<-sp.prod,iJ];show allT q (powT q (allT q dM l1) x.1 x.2) l2=_;rw[aV9 q2 (mx x hx) mA m2,e]
  .rw[<-iJ];refine aO9 pq _ _ (λy hy=> ?_) v1 λy hy=> ?_
   .rcases bH.mp hy with hy|hy
    .exact(m1 y hy).hi
    .exact(m2 y hy).hi
   .rcases bH.mp hy with hy|hy
    .exact nz y (bH.mpr<|.inl hy) λz=>a01 (od.2.2 y hy x<|aL ..) (z.trans e.symm)
    .exact nz y (bH.mpr<|.inr<|aU _ hy) λz=>a01 (od.2.1.1 y hy) (e.trans z.symm)
 .rw[<-sp.prod];exact aO9 pq xs dM (λy hy=>(mx y hy).hi) v1 λy hy=>nz y hy (h y hy)
theorem Pr.no (pq:Pr q)(h:5<=q): ¬q∣2/\ ¬q∣3/\ ¬q∣4:=
 ⟨λh=>by have:=sC ac h;lia,λh=>by have:=sC ac h;lia,λh=>by have:=sC ac h;lia⟩
theorem NoR.no (pq:Pr q){G:Nat×∅}(nr:NoR q G){z:Int}(h:q∣ps G.2 z (G.1+1)):False:=by
 have q2:=pq.lo;have r0:=bC (-z) (show q≠0 by omega)
 have r1:=b9 (-z) (show 0<q by omega)
 refine nr ((-z)%q).toNat aa ?_
 rw[kL r0];refine wC ((cgT<|bR9 ?_ G.2<|G.1+1).mpr h);have:=cgE (q:=q) (-z);exact dv1 (x:= -1) this (by grind)
theorem Pr.or (pq:Pr q){b:Int}(h:q∣a*b):q∣a\/q∣b:=by
 rcases pq.no_zero (wC h)with h|h
 .exact .inl (j8 h)
 .exact .inr (j8 h)
theorem Pr.sq (pq:Pr q)(h:q∣a*a):q∣a:=(pq.or h).elim id id
theorem Pr.cut (pq:Pr q){b:Int}(h:q∣a*b)(n: ¬q∣a):q∣b:=(pq.or h).resolve_left n
theorem Pr.sol (pq:Pr q)(h: ¬q∣a)(b:Int): ∃z,q∣a*z-b:=by
 have p2:=pq.lo;have a0:=bC a (show q≠0 by lia)
 have a1:=b9 a (show 0<q by lia)
 have ne:a%q≠0:=λe=>h (j8 e)
 have iv:=pq.inv (a%q) ad a1
 generalize a42 (a%q) q (q.toNat-2)=t at iv;have e1:=j9 (t*(a%q)) q;have e2:=j9 a q;rw[iv]at e1;refine⟨t*b,t*(a/q)*b+t*(a%q)/q*b,?_⟩;have:a*(t*b)-b=(a%q+q*(a/q))*(t*b)-b:=by rw[e2]
 rw[this];have:t*(a%q)*b=(1+q*(t*(a%q)/q))*b:=by rw[e1]
 grind
theorem no_mul (pq:Pr q){b:Int}(h: ¬q∣a)(h2: ¬q∣b): ¬q∣a*b:=λh3=>(pq.or h3).elim h h2
theorem dv3 {b z:Int}(h:q∣a)(h2:q∣b)(h3:q∣c)(he:e=a*x+b*y+c*z):q∣e:=by
 rw[he];exact dvd_add (dvd_add (kE h)<|kE h2) (kE h3)
theorem a30 {b:Int}(ha:0<=a/\a<q)(hb:0<=b/\b<q)(h:q∣a-b):a=b:=by
 obtain⟨k,hk⟩:=h;have k0:k=0:=by
  rcases wY k 0 with z|z|z
  .have:q*k<=q*(-1):=kD ad ad
   lia
  .exact z
  .have:q*1<=q*k:=kD ad ad
   lia
 rw[k0,bL]at hk
 lia
theorem b84 {b:Int}(h:a%q=b%q):q∣a-b:=j8 (vT.mp h)
theorem c31 {v' u' w' s':Int}(pq:Pr q)(nr:NoR q (quF v u))(e0:q∣v*w-v'*w')(e1:q∣(v*s+u*w)-(v'*s'+u'*w'))(e2:q∣(v+u*s+w)-(v'+u'*s'+w'))(e3:q∣(u+s)-(u'+s')) :
  (q∣u-u'/\q∣v-v')\/(q∣u-s'/\q∣v-w'):=by
 have c1:q∣(u'-u)*(w'-v)+(v'-v)*(s'-u)-u*(u'-u)*(s'-u):=dv3 (x:= -(u*u-v)) (y:=u) (z:= -1) e3 e2 e1 (by grind)
 have c0:q∣(v'-v)*(w'-v)-v*(u'-u)*(s'-u):=dv3 (x:= -(u*v)) (y:=v) (z:= -1) e3 e2 e0 (by grind)
 have root: ∀a b:Int,q∣b*b-u*a*b+v*a*a->q∣a/\q∣b:=λa b h=>by
  by_cases ha:q∣a
  .exact⟨ha,pq.sq<|dv2 (x:=1) (y:=u*b-v*a) h ha<|by grind⟩
  .exfalso
   obtain⟨z,hz⟩:=pq.sol ha (-b);refine NoR.no pq nr (z:=z) ?_;refine pq.cut (a:=a*a) ?_ (no_mul pq ha ha);show q∣a*a*(0+v*z^0+u*z^1+1*z^2);exact dv2 (x:=1) (y:=a*z-b+u*a) h hz (by grind)
 have pr:q∣((v'-v)*(v'-v)-u*(u'-u)*(v'-v)+v*(u'-u)*(u'-u))*((w'-v)*(w'-v)-u*(s'-u)*(w'-v)+v*(s'-u)*(s'-u)):=
  dv2 (x:=((v'-v)*(w'-v)-v*(u'-u)*(s'-u))-u*((u'-u)*(w'-v)+(v'-v)*(s'-u)-u*(u'-u)*(s'-u))) (y:=v*((u'-u)*(w'-v)+(v'-v)*(s'-u)-u*(u'-u)*(s'-u))) c0 c1 (by grind)
 rcases pq.or pr with h|h
 .obtain⟨h1,h2⟩:=root _ _ h;exact .inl ⟨dv1 (x:= -1) h1<|by grind,dv1 (x:= -1) h2<|by grind⟩
 .obtain⟨h1,h2⟩:=root _ _ h;exact .inr ⟨dv1 (x:= -1) h1<|by grind,dv1 (x:= -1) h2<|by grind⟩
theorem a02 (mg:MP q g.1 g.2)(h2:g.1=2):g=quF (g.2 0) (g.2 1):=by
 obtain⟨n,f⟩:=g;obtain rfl:n=2:=h2;refine eD rfl (funext λj=> ?_)
 match j with
 | 0=>rfl
 | 1=>rfl
 | 2=>exact mg.top
 | j+3=>exact mg.hi (j+3) (show 2<j+3 by lia)
theorem c32 (pq:Pr q){a b c d:Nat×∅}(ma:MP q a.1 a.2)(mb:MP q b.1 b.2)(mc:MP q c.1 c.2)(md':MP q d.1 d.2)(a2:a.1=2)(b2:b.1=2)(c2:c.1=2)(d2:d.1=2)(nr:NoR q a)(h:tm q a b=tm q c d):(a=c/\b=d)\/(a=d/\b=c):=by
 have ra:=ma.rng;have rb:=mb.rng;have rc:=mc.rng;have rd:=md'.rng;have ea:=a02 ma a2;have eb:=a02 mb b2;have ec:=a02 mc c2;have ed:=a02 md' d2;have v0:=ra 0;have u0:=ra 1;have w0:=rb 0;have s0:=rb 1;have v1:=rc 0;have u1:=rc 1;have w1:=rd 0;have s1:=rd 1;generalize a.2 0=v at *;generalize a.2 1=u at *;generalize b.2 0=w at *;generalize b.2 1=s at *;generalize c.2 0=v' at *
 generalize c.2 1=u' at *;generalize d.2 0=w' at *;generalize d.2 1=s' at *;subst ea eb ec ed;obtain⟨f0,f1,f2,f3⟩:=aO6 v u w s;obtain⟨g0,g1,g2,g3⟩:=aO6 v' u' w' s';have hm: ∀m,conv (quF v u).2 (quF w s).2 3 m%q=conv (quF v' u').2 (quF w' s').2 3 m%q:=λm=>congrFun (bQ Prod.snd h) m
 have e0:=b84 (hm 0);have e1:=b84 (hm 1);have e2:=b84 (hm 2);have e3:=b84 (hm 3);rw[f0,g0]at e0;rw[f1,g1]at e1;rw[f2,g2]at e2;rw[f3,g3]at e3;rcases c31 pq nr e0 e1 e2 e3 with⟨h1,h2⟩| ⟨h1,h2⟩
 .obtain rfl:=a30 u0 u1 h1;obtain rfl:=a30 v0 v1 h2;obtain rfl:=a30 s0 s1 (dv1 (x:=1) e3<|by grind)
  obtain rfl:=a30 w0 w1 (dv1 (x:=1) e2<|by grind)
  exact .inl ⟨rfl,rfl⟩
 .obtain rfl:=a30 u0 s1 h1;obtain rfl:=a30 v0 w1 h2;obtain rfl:=a30 s0 u1 (dv1 (x:=1) e3<|by grind)
  obtain rfl:=a30 w0 v1 (dv1 (x:=1) e2<|by grind)
  exact .inr ⟨rfl,rfl⟩
theorem aW0: ∀a b:List Int,ltL a b=true->ltL b a=true->False
 | [],[],h,_=>by simp[ltL]at h
 | [],_::_,_,h=>by simp[ltL]at h
 | _::_,[],h,_=>by simp[ltL]at h
 | x::a,y::b,h,h2=>by
  unfold ltL at h h2
  by_cases c:x=y
  .rw[a8 c]at h;rw[a8 c.symm]at h2;exact aW0 a b h h2
  .rw[a7 c]at h;rw[a7 λz=>c z.symm]at h2
   have:=wZ h;have:=wZ h2
   lia
theorem aW1 {x y:(Nat×∅)×Nat}(h:ltP x y)(h2:ltP y x):False:=by
 unfold ltP at h h2;rcases h with h|h
 .rcases h2 with h2|h2<;>lia
 .rcases h2 with h2|h2
  .lia
  .exact aW0 _ _ h.2 h2.2
theorem bS0 {α:Type}{R:α->α->Prop}(as: ∀x y,R x y->R y x->False): ∀{a b:List α},a.Pairwise R->b.Pairwise R->(∀x,x∈a↔x∈b)->a=b
 | [],[],_,_,_=>rfl
 | [],y::b,_,_,h=>by have:=(h y).mpr (aL ..);cases this
 | x::a,[],_,_,h=>by have:=(h x).mp (aL ..);cases this
 | x::a,y::b,ha,hb,h=>by
  rw[gJ]at ha hb;have e:x=y:=by
   rcases aG.mp ((h x).mp<|aL ..)with e|m1
   .exact e
   .rcases aG.mp ((h y).mpr<|aL ..)with e|m2
    .exact e.symm
    .exact(as _ _ (ha.1 y m2)<|hb.1 x m1).elim
  subst e;rw[bS0 as ha.2 hb.2 λz=>⟨λm=> ?_,λm=> ?_⟩]
  .rcases aG.mp ((h z).mp<|aU _ m)with e|m'
   .subst e;exact(as _ _ (ha.1 z m)<|ha.1 z m).elim
   .exact m'
  .rcases aG.mp ((h z).mpr<|aU _ m)with e|m'
   .subst e;exact(as _ _ (hb.1 z m)<|hb.1 z m).elim
   .exact m'
theorem aP1 (p:Int): ∀(l:List ((Nat×∅)×Nat)) (a:Nat×∅),a.1<=(allT p a l).1
 | [],a=>aC _
 | x::l,a=>by
  have:=aP1 p l (powT p a x.1 x.2);rw[k6]at this;exact aN (Nat.le_add_right _ _) this
theorem aP2 {d:Nat}(h:2<=d)(k1:1<=k):2<=d*k/\(d*k<=3->k=1)/\(d*k<=2->d=2):=by
 have h1:d*1<=d*k:=rL _ k1;refine⟨ad,λz=> ?_,λz=>ad⟩
 by_cases c:k=1
 .exact c
 .have:2*2<=d*k:=rX h ad
  lia
theorem a64 {q:Int}(q2:2<=q){N:List ((Nat×∅)×Nat)}(mem: ∀x∈N,MP q x.1.1 x.1.2/\2<=x.1.1/\1<=x.2)(h4:(allT q dM N).1<=4) :
  N=[]\/(∃g,N=[(g,1)]/\allT q dM N=g)\/ ∃g h:Nat×∅,g.1=2/\h.1=2/\allT q dM N=tm q g h/\((g=h/\N=[(g,2)])\/N=[(g,1),(h,1)]):=by
 match N,mem,h4 with
 | [],_,_=>exact .inl rfl
 | [x],mem,h4=>
  obtain⟨mx,d2,k1⟩:=mem x (aL ..);obtain⟨g,k⟩:=x;have hd:(powT q dM g k).1<=4:=h4;rw[k6]at hd;have hd':g.1*k<=4:=by have:dM.1=0:=rfl;lia
  by_cases c:k=1
  .subst c;exact .inr (.inl ⟨g,rfl,aA9 mx⟩)
  .have k2:2<=k:=by have:1<=k:=k1;lia
   have:2*2<=g.1*2:=Nat.mul_le_mul_right _ d2;have h1:g.1*2<=g.1*k:=rL _ k2;have k3:k=2:=by
    by_cases z:k=2
    .exact z
    .have:2*3<=g.1*k:=rX d2 ad
     lia
   subst k3;refine .inr (.inr ⟨g,g,by have:2<=g.1:=d2;lia,by have:2<=g.1:=d2;lia,?_,.inl ⟨rfl,rfl⟩⟩)
   show tm q (tm q dM g) g=_
   rw[aA9 mx]
 | x::y::l,mem,h4=>
  obtain⟨mx,d2,k1⟩:=mem x (aL ..);obtain⟨my,d2',k1'⟩:=mem y (aU _<|aL ..);obtain⟨a1,a2,a3⟩:=aP2 d2 k1;obtain⟨b1,b2,b3⟩:=aP2 d2' k1';have e:(powT q (powT q dM x.1 x.2) y.1 y.2).1=x.1.1*x.2+y.1.1*y.2:=by
   rw[k6,k6];show 0+_+_=_;rw[Nat.zero_add]
  match l,mem,h4 with
  | [],_,h4=>
   have h4':(powT q (powT q dM x.1 x.2) y.1 y.2).1<=4:=h4;rw[e]at h4';have kx:=a2 ad
   have ky:=b2 ad
   have gx:=a3 ad
   have gy:=b3 ad
   obtain⟨g,k⟩:=x;obtain⟨h,k'⟩:=y;obtain rfl:k=1:=kx;obtain rfl:k'=1:=ky;refine .inr (.inr ⟨g,h,gx,gy,?_,.inr rfl⟩);show tm q (tm q dM g) h=_;rw[aA9 mx]
  | z::l,mem,h4=>
   exfalso
   obtain⟨mz,d3,k3⟩:=mem z (aU _<|aU _<|aL ..);have c1:=(aP2 d3 k3).1;have ge:=aP1 q l (powT q (powT q (powT q dM x.1 x.2) y.1 y.2) z.1 z.2);have h4':(allT q (powT q (powT q (powT q dM x.1 x.2) y.1 y.2) z.1 z.2) l).1<=4:=h4;rw[k6,e]at ge
   lia
theorem aB4 {q c:Int}(q2:2<=q)(c0:0<=c)(c1:c<q): ∀(k:Nat) {a b:Nat×∅},MP q a.1 a.2->MP q b.1 b.2->powT q a (bV c) k=powT q b (bV c) k->a=b
 | 0,_,_,_,_,h=>h
 | k+1,a,b,ma,mb,h=>by
  have ml:=MP.lin q2 c0 c1;exact aB4 q2 c0 c1 k ma mb (aB3 q2 (MP.powT q2 ma ml k) (MP.powT q2 mb ml k) h)
theorem aB5 {q:Int}(q2:2<=q): ∀(L:List ((Nat×∅)×Nat)) {G G':Nat×∅},(∀x∈L,∃c,x.1=bV c/\0<=c/\c<q)->MP q G.1 G.2->MP q G'.1 G'.2->allT q G L=allT q G' L->G=G'
 | [],_,_,_,_,_,h=>h
 | x::L,G,G',hL,mG,mG',h=>by
  obtain⟨c,e,c0,c1⟩:=hL x (aL ..);have ml:=MP.lin q2 c0 c1;have mL: ∀y∈L,MP q y.1.1 y.1.2:=λy hy=>by
   obtain⟨c',e',d0,d1⟩:=hL y (aU _ hy);rw[e'];exact MP.lin q2 d0 d1
  have h':allT q (powT q G x.1 x.2) L=allT q (powT q G' x.1 x.2) L:=h;rw[e]at h';exact aB4 q2 c0 c1 x.2 mG mG' (aB5 q2 L (λy hy=>hL y (aU _ hy)) (MP.powT q2 mG ml _) (MP.powT q2 mG' ml _) h')
theorem a03: ∀{xs:List ((Nat×∅)×Nat)},xs.Pairwise ltP->(∀x∈xs,1<=x.1.1)-> ∀x∈xs.dropWhile (λx=>x.1.1==1),2<=x.1.1
 | [],_,_,x,hx=>by simp at hx
 | y::xs,hp,h1,x,hx=>by
  rw[gJ]at hp
  by_cases c:y.1.1=1
  .rw[List.dropWhile_cons_of_pos<|by simpa using c]at hx
   exact a03 hp.2 (λz hz=>h1 z (aU _ hz)) x hx
  .rw[List.dropWhile_cons_of_neg<|by simpa using c]at hx
   have hy:=h1 y (aL ..);rcases aG.mp hx with rfl|hx
   .lia
   .have:=hp.1 x hx;unfold ltP at this
    lia
theorem aJ2 : ∀x∈xs.takeWhile (λx=>x.1.1==1),x.1.1=1:=λx hx=>by
 have:=cJ.mp (List.all_takeWhile (l:=xs) (p:=λx=>x.1.1==1)) x hx
 exists this
theorem b85 (pq:Pr q)(mF:MP q F.1 F.2){ys:List ((Nat×∅)×Nat)}(sx:SP q F xs)(sy:SP q F ys){x:(Nat×∅)×Nat}(hx:x∈xs)(h1:x.1.1=1):x∈ys:=by
 obtain⟨mx,_,_,k1,_⟩:=sx.mem x hx;have e:=b35 mx h1;have c0:=(mx.rng 0).1;have c1:=(mx.rng 0).2;have M1:=(aP0 pq mF sx c0 c1).1 x hx e
 by_cases c: ∃y∈ys,y.1=bV (x.1.2 0)
 .obtain⟨y,hy,ey⟩:=c;have M2:=(aP0 pq mF sy c0 c1).1 y hy ey;have:x=y:=eD (e.trans ey.symm) (aE4.uniq pq c0 c1 M1 M2);rw[this];exact hy
 .have M2:=(aP0 pq mF sy c0 c1).2 λy hy z=>c ⟨y,hy,z⟩
  have:=aE4.uniq pq c0 c1 M1 M2
  lia
theorem SP.uniq (pq:Pr q)(mF:MP q F.1 F.2)(f4:F.1<=4){ys:List ((Nat×∅)×Nat)}(sx:SP q F xs)(sy:SP q F ys):xs=ys:=by
 have q2:=pq.lo;have ex:=List.takeWhile_append_dropWhile (p:=λx:(Nat×∅)×Nat=>x.1.1==1) (l:=xs)
 have ey:=List.takeWhile_append_dropWhile (p:=λx:(Nat×∅)×Nat=>x.1.1==1) (l:=ys)
 have lx:=aJ2 (xs:=xs);have ly:=aJ2 (xs:=ys);have nx:=a03 sx.ord λx hx=>(sx.mem x hx).2.1
 have ny:=a03 sy.ord λx hx=>(sy.mem x hx).2.1
 have px:=sx.prod;have py:=sy.prod;have ox:=sx.ord;have oy:=sy.ord;have mx:=sx.mem;have my:=sy.mem;have tx: ∀x∈xs,x.1.1=1->x∈ys:=λx hx h=>b85 pq mF sx sy hx h
 have ty: ∀x∈ys,x.1.1=1->x∈xs:=λx hx h=>b85 pq mF sy sx hx h
 generalize xs.takeWhile (λx=>x.1.1==1)=Lx at *
 generalize xs.dropWhile (λx=>x.1.1==1)=Nx at *
 generalize ys.takeWhile (λx=>x.1.1==1)=Ly at *
 generalize ys.dropWhile (λx=>x.1.1==1)=Ny at *
 subst ex ey;rw[o7]at ox oy;have eL:Lx=Ly:=by
  refine bS0 (λ_ _=>aW1) ox.1 oy.1 λx=>⟨λh=> ?_,λh=> ?_⟩
  .rcases bH.mp (tx x (kH _ h)<|lx x h)with z|z
   .exact z
   .have:=ny x z;have:=lx x h
    lia
  .rcases bH.mp (ty x (kH _ h)<|ly x h)with z|z
   .exact z
   .have:=nx x z;have:=ly x h
    lia
 subst eL;have hL: ∀x∈Lx,∃c,x.1=bV c/\0<=c/\c<q:=λx hx=>by
  have m:=(mx x<|kH _ hx).1;exact⟨_,b35 m<|lx x hx,(m.rng 0).1,(m.rng 0).2⟩
 have mL: ∀x∈Lx,MP q x.1.1 x.1.2:=λx hx=>(mx x<|kH _ hx).1
 have mNx: ∀x∈Nx,MP q x.1.1 x.1.2/\2<=x.1.1/\1<=x.2:=λx hx=>by
  have m:=mx x (cI _ hx);exact⟨m.1,nx x hx,m.2.2.2.1⟩
 have mNy: ∀x∈Ny,MP q x.1.1 x.1.2/\2<=x.1.1/\1<=x.2:=λx hx=>by
  have m:=my x (cI _ hx);exact⟨m.1,ny x hx,m.2.2.2.1⟩
 have m1:=MP.one q2;have gx:=MP.allT q2 Nx m1 λx hx=>(mNx x hx).1
 have gy:=MP.allT q2 Ny m1 λx hx=>(mNy x hx).1
 have turn: ∀N:List ((Nat×∅)×Nat),(∀x∈N,MP q x.1.1 x.1.2)->allT q dM (Lx++N)=allT q (allT q dM N) Lx:=λN hN=>by
  have mA:=MP.allT q2 Lx m1 mL;have mB:=MP.allT q2 N m1 hN;rw[iJ];have e1:allT q dM Lx=tm q (allT q dM Lx) dM:=(aO7 q2 mA).symm;rw[e1,vC q2 N m1 hN];have e2:allT q (allT q dM N) Lx=allT q (tm q (allT q dM N) dM) Lx:=by rw[aO7 q2 mB]
  rw[e2,vC q2 Lx m1 mL,sZ mA.hi mB.hi]
 rw[turn Nx λx hx=>(mNx x hx).1]at px
 rw[turn Ny λx hx=>(mNy x hx).1]at py
 have eG:allT q dM Nx=allT q dM Ny:=aB5 q2 Lx hL gx gy (px.trans py.symm);have hx4:(allT q dM Nx).1<=4:=by
  have:=aP1 q Lx (allT q dM Nx);rw[px]at this
  lia
 have hy4:(allT q dM Ny).1<=4:=by rw[<-eG];exact hx4
 have eN:Nx=Ny:=by
  have oX:=ox.2.1;have oY:=oy.2.1;have irx: ∀x∈Nx,NoR q x.1/\(x.1.1=4->NoQ q x.1):=λx hx=>by
   have m:=mx x (cI _ hx);exact⟨m.2.2.2.2.2.1<|nx x hx,m.2.2.2.2.2.2⟩
  have iry: ∀x∈Ny,NoR q x.1/\(x.1.1=4->NoQ q x.1):=λx hx=>by
   have m:=my x (cI _ hx);exact⟨m.2.2.2.2.2.1<|ny x hx,m.2.2.2.2.2.2⟩
  have noq: ∀{g a b:Nat×∅},MP q a.1 a.2->MP q b.1 b.2->a.1=2->b.1=2->(g.1=4->NoQ q g)->g=tm q a b->False:=λ{g a b} ma mb a2 b2 nq e=>by
   have g4:g.1=4:=by
    rw[e];show a.1+b.1=4
    lia
   refine nq g4 _ _ _ _ (ma.rng 0).1 (ma.rng 0).2 (ma.rng 1).1 (ma.rng 1).2 (mb.rng 0).1 (mb.rng 0).2 (mb.rng 1).1 (mb.rng 1).2 ?_
   rw[<-a02 ma a2,<-a02 mb b2];exact e
  have mp2: ∀{N:List ((Nat×∅)×Nat)} {g h:Nat×∅},(∀x∈N,MP q x.1.1 x.1.2/\2<=x.1.1/\1<=x.2)->((g=h/\N=[(g,2)])\/N=[(g,1),(h,1)])->MP q g.1 g.2/\MP q h.1 h.2:=λ{N g h} mN f=>by
   rcases f with⟨rfl,rfl⟩|rfl
   .have:=(mN _<|aL ..).1;exact⟨this,this⟩
   .exact⟨(mN _<|aL ..).1,(mN _<|aU _<|aL ..).1⟩
  rcases a64 q2 mNx hx4 with rfl| ⟨g,rfl,ge⟩| ⟨g,h,g2,h2,ge,fx⟩
  .rcases a64 q2 mNy hy4 with rfl| ⟨g',rfl,ge'⟩| ⟨g',h',g2',h2',ge',fy⟩
   .rfl
   .exfalso
    have z:=bQ Prod.fst (eG.trans ge');have z':0=g'.1:=z;have:=(mNy _<|aL ..).2.1;have:2<=g'.1:=this
    lia
   .exfalso
    have z:=bQ Prod.fst (eG.trans ge');have z':0=g'.1+h'.1:=z
    lia
  .rcases a64 q2 mNy hy4 with rfl| ⟨g',rfl,ge'⟩| ⟨g',h',g2',h2',ge',fy⟩
   .exfalso
    have z:=bQ Prod.fst (ge.symm.trans eG);have z':g.1=0:=z;have:=(mNx _<|aL ..).2.1;have:2<=g.1:=this
    lia
   .rw[ge.symm.trans<|eG.trans ge']
   .exfalso
    obtain⟨ma,mb⟩:=mp2 mNy fy;exact noq ma mb g2' h2' (irx _<|aL ..).2 (ge.symm.trans<|eG.trans ge')
  .obtain⟨mg,mh⟩:=mp2 mNx fx;rcases a64 q2 mNy hy4 with rfl| ⟨g',rfl,ge'⟩| ⟨g',h',g2',h2',ge',fy⟩
   .exfalso
    have z:=bQ Prod.fst (ge.symm.trans eG);have z':g.1+h.1=0:=z
    lia
   .exfalso
    exact noq mg mh g2 h2 (iry _<|aL ..).2 (ge'.symm.trans<|eG.symm.trans ge)
   .obtain⟨mg',mh'⟩:=mp2 mNy fy;have nr:NoR q g:=by
     rcases fx with⟨_,rfl⟩|rfl
     .exact(irx _<|aL ..).1
     .exact(irx _<|aL ..).1
    rcases c32 pq mg mh mg' mh' g2 h2 g2' h2' nr (ge.symm.trans<|eG.trans ge')with⟨rfl,rfl⟩| ⟨rfl,rfl⟩
    .rcases fx with⟨e,rfl⟩|rfl
     .rcases fy with⟨_,rfl⟩|rfl
      .rfl
      .subst e;rw[gJ]at oY;exact(a01 (oY.1 _<|aL ..) rfl).elim
     .rcases fy with⟨e,rfl⟩|rfl
      .subst e;rw[gJ]at oX;exact(a01 (oX.1 _<|aL ..) rfl).elim
      .rfl
    .rcases fx with⟨e,rfl⟩|rfl
     .subst e;rcases fy with⟨_,rfl⟩|rfl
      .rfl
      .rw[gJ]at oY;exact(a01 (oY.1 _<|aL ..) rfl).elim
     .rw[gJ]at oX;have l1:=oX.1 _ (aL ..);rcases fy with⟨e,rfl⟩|rfl
      .exact(a01 l1 e.symm).elim
      .rw[gJ]at oY;have l2:=oY.1 _ (aL ..);exact(aW1 l1 l2).elim
 rw[eN]
abbrev Fac:=Nat×∅
theorem yR (p:Int)(a g:Fac): ∀k,(replicate k g).foldl (tm p) a=powT p a g k
 | 0=>rfl
 | k+1=>by
  rw[List.replicate_succ',iA,yR p a g k];rfl
theorem aJ3 (p:Int): ∀(xs:List (Fac×Nat)) (a:Fac),allT p a xs=(xs.flatMap λx=>replicate x.2 x.1).foldl (tm p) a
 | [],a=>rfl
 | x::xs,a=>by
  show allT p (powT p a x.1 x.2) xs=_
  rw[aJ3 p xs,x6,iA,yR]
theorem c33 {a b:List Fac}(h:a.Perm b)(hz: ∀g∈a,∀j,g.1<j->g.2 j=0)(i:Fac):a.foldl (tm p) i=b.foldl (tm p) i:=by
 refine h.foldl_eq' (λx hx y hy z=> ?_) i
 rw[<-pC (hz x hx),<-pC (hz y hy),sZ (hz x hx)<|hz y hy]
theorem aJ4 (h:L2.SortOf ks ns):(ns.flatMap λx=>replicate (ks.count x) x).Perm ks:=by
 refine List.perm_iff_count.mpr λy=> ?_
 obtain⟨hw,hm⟩:=h;have hn:ns.Nodup:=hw.imp Int.ne_of_lt;have key: ∀l:List Int,l.Nodup->(l.flatMap λx=>replicate (ks.count x) x).count y=if y∈l then ks.count y else 0:=by
  intro l
  induction l with
  | nil=>intro _;simp
  | cons x l ih=>
   intro nd;rw[iC]at nd;rw[x6,List.count_append,ih nd.2,List.count_replicate]
   by_cases e:x=y
   .subst e;rw[a7 nd.1];simp
   .have e': ¬y=x:=λz=>e z.symm
    simp[e,e']
 rw[key ns hn];split
 .rfl
 .rename_i hy
  rw[hm]at hy;exact(List.count_eq_zero.mpr hy).symm
theorem aB6 (h:L2.SortOf ks ns):ns.length<=ks.length:=by
 have e:=(aJ4 h).length_eq;have ge: ∀l:List Int,(∀x∈l,x∈ks)->l.length<=(l.flatMap λx=>replicate (ks.count x) x).length:=by
  intro l
  induction l with
  | nil=>intro _;exact aC _
  | cons x l ih=>
   intro hl;have:=ih λy hy=>hl y (aU _ hy)
   have:=List.count_pos_iff.mpr (hl x aL);rw[x6,cE,cQ,gK]
   lia
 have:=ge ns λx hx=>(h.2 x).mp hx
 lia
theorem bS1 (c:Int): ∀j,(bV c).1<j->(bV c).2 j=0:=λj hj=>by
 have:1<j:=hj;show(if j=0 then c else if j=1 then 1 else 0)=0;rw[a7 ad,a7 ad]
theorem lin_lt (h:x<y):ltL [x,1] [y,1]=true:=by
 unfold ltL;rw[a7 ad]
 exact eR h
nonrec def a04 (ks ns:List Int):List (Fac×Nat):=ns.map λx=>(bV x,ks.count x)
theorem bS2 (h:L2.SortOf ks ns)(a:Fac):allT p a (a04 ks ns)=(ks.map bV).foldl (tm p) a:=by
 rw[aJ3];have e:((a04 ks ns).flatMap λx=>replicate x.2 x.1)=(ns.flatMap λx=>replicate (ks.count x) x).map bV:=by
  unfold a04;rw[List.flatMap_map,List.map_flatMap]
  congr 1
  funext x
  rw[kP]
 rw[e];refine c33 ((aJ4 h).map bV) (λg hg=> ?_) a
 obtain⟨x,_,rfl⟩:=dO.mp hg;exact bS1 x
theorem due_ok (p2:2<=p)(h:L2.SortOf ks ns)(h4:ks.length<=4)(hr: ∀k∈ks,0<=k/\k<p){q:Fac}{c:Nat}(c2:c<=2)(hq:1<=c->q.1=2/\MP p q.1 q.2/\NoR p q) :
  SP p (((ks.map bV)++replicate c q).foldl (tm p) dM) (a04 ks ns++if c=0 then []else [(q,c)]):=by
 have hn:ns.length<=4:=aN (aB6 h) h4;have hc: ∀x∈ns,1<=ks.count x/\ks.count x<=4:=λx hx=>⟨List.count_pos_iff.mpr<|(h.2 x).mp hx,aN List.count_le_length h4⟩
 have mq: ∀x∈(if c=0 then []else [(q,c)]:List (Fac×Nat)),x=(q,c)/\1<=c:=λx hx=>by
  split at hx
  .cases hx
  .exact⟨fM.mp hx,ad⟩
 refine⟨?_,λx hx=> ?_,?_,?_⟩
 .rw[iJ,bS2 h,iA,yR];split
  .rename_i e;rw[e];rfl
  .rfl
 .rcases bH.mp hx with hx|hx
  .obtain⟨y,hy,rfl⟩:=dO.mp hx;have:=hr y ((h.2 y).mp hy);exact⟨MP.lin p2 this.1 this.2,aC 1,by show 1<=4;decide,(hc y hy).1,(hc y hy).2,λz=>absurd (show 2<=1 from z) ac,λz=>absurd (show 1=4 from z) ac⟩
  .obtain⟨rfl,c1⟩:=mq x hx;obtain⟨d,m,r⟩:=hq c1;exact⟨m,by show 1<=q.1;lia,by show q.1<=4;lia,c1,by show c<=4;lia,λ_=>r,λz=>absurd (show q.1=4 from z) ad⟩
 .rw[o7];refine⟨List.pairwise_map.mpr<|h.1.imp λ{x y} z=> .inr ⟨rfl,lin_lt z⟩,?_,λx hx y hy=> ?_⟩
  .split
   .exact List.Pairwise.nil
   .exact nX _ _
  .obtain⟨z,_,rfl⟩:=dO.mp hx;obtain⟨rfl,c1⟩:=mq y hy;exact .inl (by show 1<q.1;rw[(hq c1).1];decide)
 .rw[cE];unfold a04;rw[aK];split<;>simp<;>lia
theorem c34 (a b:Int):conv (bV a).2 (bV b).2 2 0=a*b/\conv (bV a).2 (bV b).2 2 1=a+b/\conv (bV a).2 (bV b).2 2 2=1:=by
 refine⟨?_,?_,?_⟩<;>simp[conv,shF,bV]
theorem tm_lin (p2:2<=p){b:Int}(hv:v=a*b%p)(hu:u=(a+b)%p):tm p (bV a) (bV b)=quF v u:=by
 obtain⟨e0,e1,e2⟩:=c34 a b;refine eD rfl (funext λm=> ?_)
 show conv (bV a).2 (bV b).2 2 m%p=if m=0 then v else if m=1 then u else if m=2 then 1 else 0
 by_cases h0:m=0
 .subst h0;rw[e0,a8 rfl,hv]
 by_cases h1:m=1
 .subst h1;rw[e1,a7 h0,a8 rfl,hu]
 by_cases h2:m=2
 .subst h2;rw[e2,a7 h0,a7 h1,a8 rfl];exact bR ac ad
 rw[a7 h0,a7 h1,a7 h2,iV (d:=1) (λj hj=>bS1 b j hj) 2 m ad,bT]
nonrec def sqF (p e u:Int):Fac:=quF ((e*e-u)%p) (-2*e%p)
theorem MP.sq (p2:2<=p):MP p (sqF p e u).1 (sqF p e u).2:=
 MP.qu p2 (bC _ ad) (b9 _ ad) (bC _ ad) (b9 _ ad)
theorem bS3 (p2:2<=p)(h:v*v%p=u%p):tm p (bV<|(v-e)%p) (bV<|(-v-e)%p)=sqF p e u:=by
 refine tm_lin p2 ?_ ?_
 .rw[<-cD,show(v-e)*(-v-e)=e*e-v*v by grind,jJ,jJ (e*e)<|v*v,h]
 .rw[<-dE,show v-e+(-v-e)= -2*e by grind]
theorem bS4 (p2:2<=p)(u0:0<=u)(u1:u<p)(h: ∀v:Nat,v<p.toNat->(v:Int)*v%p≠u):NoR p (sqF p e u):=λc hc z=>by
 have ez:va p (sqF p e u) (-(c:Int))=((-(c:Int)-e)*(-(c:Int)-e)-u)%p:=by
  show ps (quF ((e*e-u)%p)<|-2*e%p).2 (-(c:Int)) 3%p=_
  have:ps (quF ((e*e-u)%p)<|-2*e%p).2 (-(c:Int)) 3=(e*e-u)%p+(-2*e%p)*(-(c:Int))+(-(c:Int))*(-(c:Int)):=by
   simp[ps,quF]
   grind
  rw[this];refine vT.mpr (wC ?_);have q1:=j9 (e*e-u) p;have q2:=j9 (-2*e) p;exact⟨-((e*e-u)/p)+(-2*e/p)*c,by grind⟩
 rw[ez]at z;have b0:=bC (-(c:Int)-e) (show p≠0 by lia)
 have b1:=b9 (-(c:Int)-e) (show 0<p by lia)
 refine h ((-(c:Int)-e)%p).toNat ad ?_
 rw[kL b0,<-cD];have d:=Int.emod_emod_of_dvd ((-(c:Int)-e)*(-(c:Int)-e)) (Int.dvd_refl p);have e2:((-(c:Int)-e)*(-(c:Int)-e))%p=u%p:=vT.mpr z;rw[e2,bR u0 u1]
theorem bE2:NoR 2 (quF 1 1):=λc hc=>by
 have hc':c<2:=hc;rcases(show c=0\/c=1 by lia)with rfl|rfl<;>decide
theorem bS5 (x:Int): ∀n:Nat,(replicate n [D.int x]).flatten=(replicate n x).map D.int
 | 0=>rfl
 | n+1=>by rw[eM,eM,i9,bS5 x n];rfl
theorem c60 (x y:Int): ∀n:Nat,(replicate n [D.int x,D.int y]).flatten=((replicate n [x,y]).flatten).map D.int
 | 0=>rfl
 | n+1=>by rw[eM,eM,i9,i9,c60 x y n];rfl
theorem b86 (p A B:Int): ∀(c:Nat) (F:Fac),(((replicate c [A,B]).flatten).map bV).foldl (tm p) F=powT p F (tm p (bV A)<|bV B) c
 | 0,F=>rfl
 | c+1,F=>by
  rw[List.replicate_succ',List.flatten_append,bS,iA,b86 p A B c F];show tm p (tm p _<|bV A) (bV B)=tm p _ (tm p (bV A)<|bV B);exact(pC<|bS1 A).symm
theorem aJ5 (x y:Int)(n:Nat):((replicate n [x,y]).flatten).length=2*n:=by
 induction n with
 | zero=>rfl
 | succ n ih=>rw[eM,i9,cE,ih];simp;lia
nonrec def hF (p e u:Int):Fac:=if p=2 then quF 1 1 else sqF p e u
nonrec def aP3 (p r s e u:Int)(a b c:Nat):Fac:=(replicate a (bV<|(-r)%p)++replicate b (bV<|(-s)%p)++replicate c (hF p e u)).foldl (tm p) dM
def aP4:Φ:=λds Q=> ∃(p r s e u:Int) (a b c:Nat),ds=[.int p,.int r,.int s,.int e,.int u,.tup [.int (a:Int),.int (b:Int),.int (c:Int)]]/\Pr p/\0<=r/\r<p/\0<=s/\s<p/\0<=e/\e<p/\0<=u/\u<p/\a+b+2*c<=4/\
 ∀xs,SP p (aP3 p r s e u a b c) xs->Q (.ow<|xs.map fG)
def a65:US:=(dW<|uOp j0 (hZ [] [none,some 6,none] 2 (oU<|uSS<|a9 (aD 6) aP) (eU 0) (λρ Q=>Q true ρ)<|gS<|a9 (gS<|a9 (aD 0)<|a9 @1 aP)<|a9 (b13 (b6 1)<|a9 (aD 0) aP) aP)<|aD 7)
def a66:US:=(b4 (jW (aZ6 (fX<|uOp (tW λi j=>decide (j<i)) (uIx (b6 5)<|@2)<|@0)<|fX<|uOp (tW λi j=>decide (j<i)) (aD 0)<|@2) (b4 (cN 8<|hZ [0,4] [none,some 0,some 4,none] 3 (tI<|a9 (aD 0) aP) (eU 0) (fX<|uOp (i5 false) (uOp iS (uOp fT (aD 0)<|aD 0)<|aD 1)<|aD 2)<|aD 0)<|jW (fX<|uOp (i5 false) (lQ<|b6 8)<|@0) (aL8 7<|gS<|a9 (gS<|a9 (uOp iS (uOp M.gSub (uOp fT (aD 3)<|aD 3)<|aD 4)<|aD 0)<|a9 (uOp iS (uOp fT (yC<|@2)<|aD 3)<|aD 0)<|a9 @1 aP)<|a9 (uIx (b6 5)<|@2) aP)<|cN 6<|uOp j0 (aD 6)<|uOp fT (iP<|a9 (uOp iS (uOp M.gSub (uIx (b6 8)<|@0)<|aD 3)<|aD 0)<|a9 (uOp iS (uOp M.gSub (yC<|uIx (b6 8)<|@0)<|aD 3)<|aD 0) aP)<|uIx (b6 5)<|@2) gF) a65)
def b87:US:=(b4 (jW (aZ6 (fX<|uOp (tW λi j=>decide (j<i)) (uIx (b6 5)<|@2)<|@0)<|fX<|uOp (i5 false) (aD 0)<|@2) (aL8 7<|gS<|a9 (gS<|a9 @1<|a9 @1<|a9 @1 aP)<|a9 (uIx (b6 5)<|@2) aP) gF) a66)
def b88:US:=(b4 (cN 7<|iP aP) b87)
def b36:US:=(b4 (cN 6<|uOp j0 (uOp fT (iP<|a9 (uOp iS (yC<|aD 1)<|aD 0) aP)<|uIx (b6 5)<|@0)<|uOp fT (iP<|a9 (uOp iS (yC<|aD 2)<|aD 0) aP)<|uIx (b6 5)<|@1) b88)
theorem bS6 {tg:UG}{t:UT}(P:Nat->(Nat->D)->Ev->Prop)(hui: ∀K:Nat->(Nat->D)->Ev->Prop,(∀n it ρ1,P n it ρ1->K n it ρ1)->ui ρ K)
  (h: ∀n it ρ1,P n it ρ1->hZ js cap last (λ_ K=>K n it ρ1) tg t te ρ Q):hZ js cap last ui tg t te ρ Q:=hui _ h
theorem c35 (Q:B->Prop)(p r s e u:Int)(w:D)(ks:List Int)(rows:List D)(x:Option B)(h4:ks.length<=4)(h9: ∀k∈ks,0<=k/\k<199)(hr:rows.length<=4)(h: ∀ns,L2.SortOf ks ns->Q (.ow<|(a04 ks ns).map fG++rows)) :
  a65 {Q with} [!p,!r,!s,!e,!u,~~~w,↑(ks.map D.int),↑rows,x]:=by
 unfold a65;rw[nM,bP9];refine bS6 (λn it ρ1=> ∃ns,L2.SortOf ks ns/\n=ns.length/\it=(λk=>(ns.map D.int).getD k .non)/\ρ1=[!p,!r,!s,!e,!u,~~~w,~~~.lst (ks.map D.int),↑rows,x]) (λK hK=> ?_) ?_
 .left
  refine⟨ks,rfl,h4,h9,λns so=> ?_⟩
  exact hK _ _ _ ⟨ns,so,aK _,rfl,rfl⟩
 .rintro n it ρ1 ⟨ns,so,rfl,rfl,rfl⟩;refine iU (t0:=0) ns.length (λk=>(ns.map D.int).getD k .non) _ (λQ q=>q) (by have:=aB6 so;lia) (λx l=>[x,~~~.lst (ks.map D.int),↑l]) none rfl (λ_ _ _=>rfl) (λ_ _=>e6 _) (λ_ _ _ q=>q) (λ_ _ _=>rfl) (λi=>((a04 ks ns).map fG).getD i .non) (λi l Q' hi q=> ?_) ?_
  .left
   have e1:(ns.map D.int).getD i .non= .int ns[i]:=by rw[bI,bP,aW hi];rfl
   have e2:((a04 ks ns).map fG).getD i .non=fG (bV ns[i],ks.count ns[i]):=by
    unfold a04;rw[bI,bP,bP,aW hi];rfl
   rw[e1]at q⊢;rw[e2]at q;exact⟨ac,ks,rfl,ns[i],rfl,ac,q⟩
  .left
   have e:(List.map (λi=>((a04 ks ns).map fG).getD i D.non)<|List.range ns.length)=(a04 ks ns).map fG:=by
    refine oE (by unfold a04;simp) λi h1 h2=> ?_
    rw[List.getElem_map,List.getElem_range,bI,aW h2];rfl
   rw[e];refine⟨aN (show _<=8 from ?_) ac,h ns so⟩
   have:=aB6 so;unfold a04;rw[aK,aK]
   lia
theorem rd_due: Ra aP4 b36 ["p","r","s","e","u","w","l","o","i"]:=by
 rintro ds Q ⟨p,r,s,e,u,a,b,c,rfl,pp,r0,r1,s0,s1,e0,e1,u0,u1,h4,h⟩;have p2:=pp.lo;have p9:=pp.hi;unfold b36;show(b4 _ _:US) _ [!p,!r,!s,!e,!u,~~~.tup [.int (a:Int),.int (b:Int),.int (c:Int)],none,none,none];rw[b5];left
 rw[show atI [D.int (a:Int),D.int (b:Int),D.int (c:Int)] 0=some (.int (a:Int))from rfl,show atI [D.int (a:Int),D.int (b:Int),D.int (c:Int)] 1=some (.int (b:Int))from rfl]
 right;rw[vW _<|show 0<=p by lia,vW _<|show 0<=p by lia,bB,bB,bS5,bS5,<-bS]
 have x0:=bC (-r) (show p≠0 by lia)
 have x1:=b9 (-r) (show 0<p by lia)
 have y0:=bC (-s) (show p≠0 by lia)
 have y1:=b9 (-s) (show 0<p by lia)
 have lay:aP3 p r s e u a b c=(((replicate a ((-r)%p)++replicate b ((-s)%p)).map bV)++replicate c (hF p e u)).foldl (tm p) dM:=by
  unfold aP3;rw[bS,kP,kP]
 generalize hX:(-r)%p=X at *;generalize hY:(-s)%p=Y at *;have sz: ∀n:Nat,n<=8->n<=sizeLine:=λn hn=>aN hn ac
 refine⟨ad,ac,⟨ad,ad,sz _ (by show 1*a<=8;lia)⟩,ad,ac,⟨ad,ad,sz _ (by show 1*b<=8;lia)⟩,sz _ (by simp only[aK,cQ];lia),?_⟩
 generalize hK:replicate a X++replicate b Y=ks at *;have kl:ks.length=a+b:=by rw[<-hK,cE,cQ,cQ]
 have kr: ∀k∈ks,0<=k/\k<p:=λk hk=>by
  rw[<-hK]at hk;rcases bH.mp hk with hk|hk
  .rw[(kQ.mp hk).2];exact⟨x0,x1⟩
  .rw[(kQ.mp hk).2];exact⟨y0,y1⟩
 unfold b88;rw[b5];left;refine⟨cK _,?_⟩;unfold b87;rw[b5];left;rw[show atI [D.int (a:Int),D.int (b:Int),D.int (c:Int)] 2=some (.int (c:Int))from rfl]
 right;have fin: ∀(rows:List D) (ks':List Int) (q:Fac) (d:Nat) (x:Option B),ks'.length<=4->(∀k∈ks',0<=k/\k<p)->d<=2->(1<=d->q.1=2/\MP p q.1 q.2/\NoR p q)->rows=(if d=0 then []else [(q,d)]:List (Fac×Nat)).map fG->aP3 p r s e u a b c=((ks'.map bV)++replicate d q).foldl (tm p) dM->
   a65 {Q with} [!p,!r,!s,!e,!u,~~~.tup [.int (a:Int),.int (b:Int),.int (c:Int)],↑(ks'.map D.int),↑rows,x]:=λrows ks' q d x k4 kr' d2 hq er ef=>by
  refine c35 Q p r s e u _ ks' rows x k4 (λk hk=>by have:=kr' k hk;lia) (by rw[er,aK];split<;>simp) λns so=> ?_
  rw[er,<-bS];refine h _ ?_;rw[ef];exact due_ok p2 so k4 kr' d2 hq
 by_cases c0:c=0
 .subst c0;rw[a7 ac]
  unfold a66;rw[b5];left;rw[show atI [D.int (a:Int),D.int (b:Int),D.int ((0:Nat):Int)] 2=some (.int ((0:Nat):Int))from rfl]
  right;rw[a7 ac]
  exact fin [] ks dM 0 none ad kr ac (λz=>absurd z ac) rfl lay
 rw[a8 ad]
 by_cases p2':p=2
 .rw[a8 p2'];refine⟨ac,ac,ac,?_⟩
  unfold a66;rw[b5];left;rw[show atI [D.int (a:Int),D.int (b:Int),D.int (c:Int)] 2=some (.int (c:Int))from rfl]
  right;rw[a8 ad,a7 ad]
  have eh:hF p e u=quF 1 1:=a8 p2';rw[eh]at lay;refine fin _ ks (quF 1 1) c none ad kr ad (λ_=>⟨rfl,MP.qu p2 ac ad ac ad,by rw[p2'];exact bE2⟩) ?_ lay
  rw[a7 c0];rfl
 rw[a7 p2'];unfold a66;rw[b5];left;rw[show atI [D.int (a:Int),D.int (b:Int),D.int (c:Int)] 2=some (.int (c:Int))from rfl]
 right;rw[a8 ad,a8 ad]
 have eh:hF p e u=sqF p e u:=a7 p2';rw[eh]at lay
 refine yO (t0:=0) p.toNat (λk=> .int (0+(k:Int))) [!p,!r,!s,!e,!u,~~~.tup [.int (a:Int),.int (b:Int),.int (c:Int)],↑(ks.map D.int),↑[],none] (λQ' q=> ?_) ad (λx l=>[x,!p,!u,↑l]) none rfl (λ_ _ _=>rfl) (λ_ _=>e6 _) (λ_ _ _ q=>q) (λ_ _ _=>rfl) (λi=>decide ((i:Int)*(i:Int)%p=u)) (λi=> .int (i:Int)) (λi l Q' hi q=> ?_) (λi l Q' hi q=> ?_) ?_
 .left
  exact⟨⟨ad,ad⟩,q⟩
 .left
  rw[cT]at q⊢;rw[bU _ ad]
  exact⟨cmL ad ad,ad,q⟩
 .left
  rw[cT]at q⊢;exact q
 .have es:(((List.range p.toNat).filter λi:Nat=>decide ((i:Int)*(i:Int)%p=u)).map λi:Nat=>D.int (i:Int))=(((List.range p.toNat).filter λi:Nat=>decide ((i:Int)*(i:Int)%p=u)).map λi:Nat=>(i:Int)).map D.int:=by rw[kW];rfl
  rw[es];have mem: ∀v∈(List.range p.toNat).filter λi:Nat=>decide ((i:Int)*(i:Int)%p=u),v<p.toNat/\(v:Int)*v%p=u:=λv hv=>by
   rw[rR,bW]at hv;exact⟨hv.1,wZ hv.2⟩
  have non:(List.range p.toNat).filter (λi:Nat=>decide ((i:Int)*(i:Int)%p=u))=[]-> ∀v:Nat,v<p.toNat->(v:Int)*v%p≠u:=λz v hv hz=>by
   have:v∈(List.range p.toNat).filter λi:Nat=>decide ((i:Int)*(i:Int)%p=u):=rR.mpr ⟨bW.mpr hv,eR hz⟩
   rw[z]at this;cases this
  generalize (List.range p.toNat).filter (λi:Nat=>decide ((i:Int)*(i:Int)%p=u))=vs at mem non⊢
  left
  rw[show atI [D.int (a:Int),D.int (b:Int),D.int (c:Int)] 2=some (.int (c:Int))from rfl]
  right;cases vs with
  | nil=>
   rw[a8<|by rfl]
   rw[bU _ ad,bU _ ad]
   refine⟨cmL ad ad,ad,cmL ac ad,ad,ac,ac,ac,?_⟩
   refine fin _ ks (sqF p e u) c _ ad kr ad (λ_=>⟨rfl,MP.sq p2,bS4 p2 u0 u1<|non rfl⟩) ?_ lay
   rw[a7 c0];rfl
  | cons v vs=>
   obtain⟨v1,v2⟩:=mem v aL;rw[a7 (by simp;lia)]
   rw[show atI (List.map D.int<|List.map (λi:Nat=>(i:Int)) (v::vs)) 0=some (.int (v:Int))from dS (j:=0) rfl]
   right;rw[bU _ ad,bU _ ad,bB,c60,<-bS]
   have l0:=bC ((v:Int)-e) (show p≠0 by lia)
   have l1:=b9 ((v:Int)-e) (show 0<p by lia)
   have m0:=bC (-(v:Int)-e) (show p≠0 by lia)
   have m1:=b9 (-(v:Int)-e) (show 0<p by lia)
   have fall:=bS3 (e:=e) (u:=u) p2 (v:=(v:Int)) (by rw[v2,bR u0 u1])
   generalize ((v:Int)-e)%p=A at *;generalize (-(v:Int)-e)%p=B' at *;refine⟨ad,ad,ac,⟨ad,ad,sz _ (by show 2*c<=8;lia)⟩,sz _ (by rw[aK,aK,aJ5];lia),?_⟩
   refine fin [] (ks++(replicate c [A,B']).flatten) dM 0 _ (by rw[cE,aJ5];lia) (λk hk=> ?_) ac (λz=>absurd z ac) rfl ?_
   .rcases bH.mp hk with hk|hk
    .exact kr k hk
    .obtain⟨l,hl,hk⟩:=List.mem_flatten.mp hk;rw[(kQ.mp hl).2]at hk;rcases aG.mp hk with rfl|hk
     .exact⟨l0,l1⟩
     .rw[fM.mp hk];exact⟨m0,m1⟩
   .rw[lay,bS,List.replicate_zero,iB,iA,iA,yR,<-fall];exact(b86 p A B' c _).symm
theorem tm_row (hp:2<=p){a b:Nat×∅}(ma:MP p a.1 a.2)(mb:MP p b.1 b.2):rwF (dB (md p<|conv a.2 b.2 (a.1+1))<|a.1+1+(b.1+1)) (md p<|conv a.2 b.2 (a.1+1))=rwF ((tm p a b).1+1) (tm p a b).2:=by
 have m:=MP.tm hp ma mb;have e:dB (md p<|conv a.2 b.2 (a.1+1)) (a.1+1+(b.1+1))=a.1+b.1+1:=nN aa (λj h1 h2=>m.hi j (show a.1+b.1<j by omega)) (.inr (by
  have:md p (conv a.2 b.2 (a.1+1)) (a.1+b.1)=1:=m.top;rw[i8,this]
  decide))
 rw[e];rfl
def lw9:List (Nat×Nat×Nat):=[(1,0,0),(2,0,0),(3,0,0),(4,0,0),(1,1,0),(2,1,0),(1,2,0),(2,2,0),(3,1,0),(1,0,1),(2,0,1),(1,1,1),(0,0,1),(0,0,2)]
def wD (x:Nat×Nat×Nat):D:= .tup [.int (x.1:Int),.int (x.2.1:Int),.int (x.2.2:Int)]
theorem way_at (h0:0<=u)(h1:u<14): ∃a b c:Nat,atI (lw9.map wD) u=some (.tup [.int (a:Int),.int (b:Int),.int (c:Int)])/\a+b+2*c<=4:=by
 obtain⟨k,rfl⟩: ∃k:Nat,u=(k:Int):=⟨u.toNat,aa⟩
 have hk:k<lw9.length:=show k<14 by omega
 have hx: ∀x∈lw9,x.1+x.2.1+2*x.2.2<=4:=ac
 exact⟨_,_,_,dS (j:=k) (by rw[bP,aW hk];rfl),hx _<|e9 hk⟩
def Pdk (k:Nat)(d:D):Prop:= ∃p,pd d=some p/\p.depth<=k
theorem Pdk.int {i:Int}:Pdk k (.int i):=⟨_,rfl,cK _⟩
theorem pdkL {k:Nat}: ∀{l:List D},(∀d∈l,Pdk k d)-> ∃ps,pdL l=some ps/\PyData.depthAll ps<=k
 | [],_=>⟨[],rfl,cK _⟩
 | d::l,h=>by
  obtain⟨p,e,hp⟩:=h d (aL ..);obtain⟨ps,es,hps⟩:=pdkL λx hx=>h x (aU _ hx)
  refine⟨p::ps,by simp only[pdL,e,es,bind_some,rW],?_⟩
  simp only[PyData.depthAll];exact Nat.max_le.mpr ⟨hp,hps⟩
theorem Pdk.tup (h: ∀d∈l,Pdk k d):Pdk (k+1) (.tup l):=by
 obtain⟨ps,e,hp⟩:=pdkL h;exact⟨.tuple ps,by simp only[pd,e,rW],by simp only[PyData.depth];omega⟩
theorem Pdk.lst (h: ∀d∈l,Pdk k d):Pdk (k+1) (.lst l):=by
 obtain⟨ps,e,hp⟩:=pdkL h;exact⟨.list ps,by simp only[pd,e,rW],by simp only[PyData.depth];omega⟩
theorem Pdk.up {m:Nat}{d:D}(h:Pdk k d)(hm:k<=m):Pdk m d:=let ⟨p,e,hp⟩:=h;⟨p,e,aN hp hm⟩
theorem Pdk.row (ns:List Int):Pdk 1 (cB ns):= .tup λd hd=>by
 obtain⟨n,_,rfl⟩:=dO.mp hd;exact .int
theorem Pdk.same {neg:Bool}{d:D}{Q:B->Prop}(h:Pdk k d)(hk:k<=60)(q:Q (.pu<|.bl<|neg ^^ true)):bK6 neg d d Q:=by
 obtain⟨p,e,hp⟩:=h;exact⟨p,p,e,e,aN hp hk,by rw[PySem.SeqAt.eqv_refl p<|aM4 d e];exact q⟩
nonrec def mD (g:Fac):D:=cB (rwF (g.1+1) g.2)
theorem aJ6 (g:Fac): ∀n:Nat,(replicate n [mD g]).flatten=(replicate n g).map mD
 | 0=>rfl
 | n+1=>by rw[eM,eM,i9,aJ6 g n];rfl
theorem MP.foldT {p:Int}(p2:2<=p): ∀(gs:List Fac) (F:Fac),MP p F.1 F.2->(∀g∈gs,MP p g.1 g.2)->MP p (gs.foldl (M.tm p) F).1 (gs.foldl (M.tm p) F).2
 | [],F,h,_=>h
 | g::gs,F,h,hg=>MP.foldT p2 gs (M.tm p F g) (MP.tm p2 h<|hg g aL) λx hx=>hg x (aU _ hx)
theorem a05 (p:Int): ∀(gs:List Fac) (F:Fac),(gs.foldl (tm p) F).1=F.1+(gs.map (·.1)).sum
 | [],F=>rfl
 | g::gs,F=>by
  rw[List.foldl_cons,a05 p gs,bX,List.sum_cons];show F.1+g.1+_=_;rw[oM]
def aW2:US:=(dW<|qF (uOp (bK6 false) (aD 16)<|aD 15)<|qF (aX aR7<|a9 (aD 17)<|a9 (uC<|.ty "bool") aP)<|uOp (i5 false) (aD 17)<|qF (uOp (i5 false) (lQ<|b6 15)<|@1)<|uOp (i5 false) (uIx (uV<|uIx (b6 15)<|@0)<|@1)<|@1)
def aW3:US:=(b4 (cN 17<|aX xP<|a9 (aD 12)<|a9 (aD 1) aP) aW2)
def aW4:US:=(b4 (jW (aR5<|fX<|aX aM3<|a9 (hZ [1] [none,some 1,none] 2 (oU<|aD 16) (eU 0) (λρ Q=>Q true ρ)<|qF (aX zY<|a9 (uIx (b6 0)<|@0)<|a9 (aD 1) aP)<|aX uE<|a9 (uIx (b6 0)<|@1) aP) aP) (dW<|uC<|.bl false) gF) aW3)
def aW5:US:=(b4 (jW (uOr (aR5<|fX<|aX aR7<|a9 (aD 16)<|a9 (uC<|.ty "list") aP)<|aR5<|fX<|aX aM3<|a9 (hZ [] [none,none] 1 (oU<|aD 16) (eU 0) (λρ Q=>Q true ρ)<|qF (aX aR7<|a9 (aD 0)<|a9 (uC<|.ty "tuple") aP)<|uOp (i5 false) (lQ<|b6 0)<|@2) aP) (dW<|uC<|.bl false) gF) aW4)
def aW6:US:=(b4 (cN 16<|aX lJ<|a9 (aD 12)<|a9 (aD 1) aP) aW5)
def aW7:US:=(b4 (cN 15<|aX aP4<|a9 (aD 1)<|a9 (aD 5)<|a9 (aD 6)<|a9 (aD 7)<|a9 (aD 8)<|a9 (aD 4) aP) aW6)
def aW8:US:=(b4 (jW (fX<|uOp (i5 false) (uIx (b6 3)<|@1)<|@2) (b4 (cN 13<|aX b21<|a9 (aX sV<|a9 (aD 0)<|a9 @4 aP)<|a9 @3<|a9 (uOp a36 @10<|@24)<|a9 @999999797 aP)<|b4 (cN 14<|uIx (uV<|iP<|a9 @1<|a9 @4<|a9 @201<|a9 @211<|a9 (yC<|aX bX6<|a9 (aD 13) aP)<|a9 (uOp j0 @200<|uOp fT (aX bX6<|a9 (aD 13) aP)<|@2) aP)<|uIx (b6 3)<|@2)<|dW<|aX xR<|a9 (aD 12)<|a9 (aD 14) aP) gF) aW7)
def aB7:US:=(b4 (cN 12<|aX lN<|a9 (uOp j0 (aX xO<|a9 (bY8 (aD 10) sN<|a77<|yC<|@1)<|a9 (aD 1)<|a9 (aX sV<|a9 (aD 0)<|a9 @3 aP)<|a9 @999999883 aP)<|iP<|a9 @1 aP) aP) aW8)
def b89:US:=(b4 (tV (oU<|uOp j0 (uOp j0 (uOp fT (iP<|a9 (gS<|a9 (uOp iS (yC<|aD 5)<|aD 1)<|a9 @1 aP) aP)<|uIx (b6 4)<|@0)<|uOp fT (iP<|a9 (gS<|a9 (uOp iS (yC<|aD 6)<|aD 1)<|a9 @1 aP) aP)<|uIx (b6 4)<|@1)<|uOp fT (iP<|a9 (aD 9) aP)<|uIx (b6 4)<|@2) (eU 11)<|cN 10<|aX sW<|a9 (aD 10)<|a9 (aD 11)<|a9 (aD 1) aP) aB7)
def aP5:US:=(b4 (cN 10<|gS<|a9 @1 aP) b89)
def b90:US:=(b4 (jW (fX<|uOp (i5 false) (aD 1)<|@2) (cN 9<|gS<|a9 @1<|a9 @1<|a9 @1 aP) gF) aP5)
def b91:US:=(b4 (cN 9<|gS<|a9 (uOp iS (uOp M.gSub (uOp fT (aD 7)<|aD 7)<|aD 8)<|aD 1)<|a9 (uOp iS (uOp fT (yC<|@2)<|aD 7)<|aD 1)<|a9 @1 aP) b90)
def b92:US:=(b4 (bB7 (aX qA<|a9 (aX sV<|a9 (aD 0)<|a9 @2 aP)<|a9 @4<|a9 (aD 1)<|a9 @999999893 aP)<|b68<|gT 5<|gT 6<|gT 7<|gT 8 vH) b91)
def b93:US:=(b4 (cN 4<|uIx (b6 2)<|uIx (b6 3)<|@0) b92)
def aP6:US:=(b4 (cN 3<|aX p7<|a9 (aX sV<|a9 (aD 0)<|a9 @1 aP)<|a9 (iP<|a9 @14<|a9 @3<|a9 @6 aP)<|a9 @999999929 aP) b93)
def b94:US:=(b4 (cN 2<|uOp j0 (aD 2)<|iP<|a9 (gS<|a9 @1<|a9 @0<|a9 @1 aP)<|a9 (gS<|a9 @2<|a9 @0<|a9 @1 aP)<|a9 (gS<|a9 @1<|a9 @1<|a9 @1 aP)<|a9 (gS<|a9 @0<|a9 @0<|a9 @1 aP)<|a9 (gS<|a9 @0<|a9 @0<|a9 @2 aP) aP) aP6)
def b95:US:=(b4 (cN 2<|iP<|a9 (gS<|a9 @1<|a9 @0<|a9 @0 aP)<|a9 (gS<|a9 @2<|a9 @0<|a9 @0 aP)<|a9 (gS<|a9 @3<|a9 @0<|a9 @0 aP)<|a9 (gS<|a9 @4<|a9 @0<|a9 @0 aP)<|a9 (gS<|a9 @1<|a9 @1<|a9 @0 aP)<|a9 (gS<|a9 @2<|a9 @1<|a9 @0 aP)<|a9 (gS<|a9 @1<|a9 @2<|a9 @0 aP)<|a9 (gS<|a9 @2<|a9 @2<|a9 @0 aP)<|a9 (gS<|a9 @3<|a9 @1<|a9 @0 aP) aP) b94)
def aP7:US:=(b4 (cN 1<|aX aA6<|a9 (aX sV<|a9 (aD 0)<|a9 @0 aP)<|a9 @999999937 aP) b95)
theorem rd_law: Ra aR8 aP7 ["s","p","w","y","a","r","t","e","u","h","o","f","l","i","b","d","g","k"]:=by
 rintro ds Q ⟨ns,rfl,hl,hQ⟩;unfold aP7;show(b4 _ _:US) _ [~~~.rol (ns.map .int),none,none,none,none,none,none,none,none,none,none,none,none,none,none,none,none,none];rw[b5];left;refine⟨ns,0,rfl,hl,ac,ac,λc=>⟨c,999999937,rfl,ac,λp hp=> ?_⟩⟩
 have pp:=aO2 hp;have p2:=pp.lo;have p3:=pp.hi;try right
 unfold b95;rw[b5];left;have sz: ∀n:Nat,n<=100->n<=sizeLine:=λn hn=>aN hn ac
 refine⟨ac,ac,ac,ac,ac,ac,ac,ac,ac,ac,?_⟩
 unfold b94;rw[b5];left;refine⟨ac,ac,ac,ac,ac,ac,ac,?_⟩
 show aP6 _ [~~~.rol (ns.map .int),!p,↑(lw9.map wD),none,none,none,none,none,none,none,none,none,none,none,none,none,none,none]
 unfold aP6;rw[b5];left;refine⟨ns,1,rfl,hl,ac,ac,λc=>⟨ac,c,[14,3,6],999999929,rfl,ac,ac,ac,λxs hx=> ?_⟩⟩
 obtain⟨w0,w1,w2,rfl⟩: ∃u v t,xs=[u,v,t]:=by
  match xs,hx.1 with
  | [u,v,t],_=>exact⟨u,v,t,rfl⟩
 have b0:=hx.2 0 w0 14 rfl rfl;have b1:=hx.2 1 w1 3 rfl rfl;have b2:=hx.2 2 w2 6 rfl rfl;simp only[bX,iG];have i0:atI [D.int w0,.int w1,.int w2] 0=some (.int w0):=dS (j:=0) rfl;have i1:atI [D.int w0,.int w1,.int w2] 1=some (.int w1):=dS (j:=1) rfl;have i2:atI [D.int w0,.int w1,.int w2] 2=some (.int w2):=dS (j:=2) rfl;unfold b93;rw[b5];left;rw[i0];right
 obtain⟨a,b,c,ew,h4⟩:=way_at b0.1 b0.2;rw[ew];right;unfold b92;rw[b5];left;refine⟨ns,2,rfl,hl,ac,ac,λz=>⟨z,4,p,999999893,rfl,ac,ad,ad,ac,λf f1 f2=> ?_⟩⟩
 rw[show(rwF 4 f).map D.int=[D.int<|f 0,D.int<|f 1,D.int<|f 2,D.int<|f 3]from rfl]
 have f10:=f1 0;have f11:=f1 1;have f12:=f1 2;have f13:=f1 3;generalize f 0=r at *;generalize f 1=s at *;generalize f 2=e at *;generalize f 3=u at *;clear f1 f2 hx;right;refine⟨ac,ac,ac,ac,rfl,?_⟩
 unfold b91;rw[b5];left;have x0:=bC (-r) (show p≠0 by lia)
 have x1:=b9 (-r) (show 0<p by lia)
 have y0:=bC (-s) (show p≠0 by lia)
 have y1:=b9 (-s) (show 0<p by lia)
 have dJ:aP5 {Q with} [~~~.rol (ns.map .int),!p,↑(lw9.map wD),↑[.int w0,.int w1,.int w2],~~~.tup [.int (a:Int),.int (b:Int),.int (c:Int)],!r,!s,!e,!u,~~~mD (hF p e u),none,none,none,none,none,none,none,none]:=by
  unfold aP5;rw[b5];left;refine⟨ac,?_⟩
  unfold b89;rw[b5];have mh:MP p (hF p e u).1 (hF p e u).2:=by
   unfold hF;split
   .exact MP.qu p2 ac ad ac ad
   .exact MP.sq p2
  have h2:(hF p e u).1=2:=by unfold hF;split<;>rfl
  have eraw: ∀gs:List Fac,gs=replicate a (bV<|(-r)%p)++replicate b (bV<|(-s)%p)++replicate c (hF p e u)->gs.foldl (tm p) dM=aP3 p r s e u a b c:=λgs h=>by rw[h];rfl
  have elist: ∀gs:List Fac,gs=replicate a (bV<|(-r)%p)++replicate b (bV<|(-s)%p)++replicate c (hF p e u)->(replicate a [mD<|bV<|(-r)%p]).flatten++(replicate b [mD<|bV<|(-s)%p]).flatten++(replicate c [mD<|hF p e u]).flatten=gs.map mD:=λgs h=>by
   rw[h,aJ6,aJ6,aJ6,bS,bS]
  generalize hg:replicate a (bV<|(-r)%p)++replicate b (bV<|(-s)%p)++replicate c (hF p e u)=gs at *;have eraw:=eraw gs rfl;have elist:=elist gs rfl;have mg: ∀g∈gs,MP p g.1 g.2/\g.1<=2:=λg hh=>by
   rw[<-hg]at hh;rcases bH.mp hh with hh|hh
   .rcases bH.mp hh with hh|hh
    .rw[(kQ.mp hh).2];exact⟨MP.lin p2 x0 x1,by show 1<=2;decide⟩
    .rw[(kQ.mp hh).2];exact⟨MP.lin p2 y0 y1,by show 1<=2;decide⟩
   .rw[(kQ.mp hh).2];exact⟨mh,by rw[h2];exact aC 2⟩
  have gl:gs.length=a+b+c:=by rw[<-hg,cE,cE,cQ,cQ,cQ]
  have gd:(gs.foldl (tm p) dM).1<=4:=by
   rw[a05,<-hg,bS,bS,kP,kP,kP,List.sum_append,List.sum_append,wI,wI,wI,h2];show 0+(a*1+b*1+c*2)<=4
   lia
  refine dI gs.length (λi=>(gs.map mD).getD i .non) [~~~.rol (ns.map .int),!p,↑(lw9.map wD),↑[.int w0,.int w1,.int w2],~~~.tup [.int (a:Int),.int (b:Int),.int (c:Int)],!r,!s,!e,!u,~~~mD (hF p e u),~~~mD dM,none,none,none,none,none,none,none] (λQ' q=> ?_)
   (λi ρ=> ∃x:Option B,ρ=[~~~.rol (ns.map .int),!p,↑(lw9.map wD),↑[.int w0,.int w1,.int w2],~~~.tup [.int (a:Int),.int (b:Int),.int (c:Int)],!r,!s,!e,!u,~~~mD (hF p e u),~~~mD ((gs.take i).foldl (tm p) dM),x,none,none,none,none,none,none]) ⟨none,rfl⟩ ?_ ?_
  .left
   rw[show atI [D.int (a:Int),D.int (b:Int),D.int (c:Int)] 0=some (.int (a:Int))from rfl,show atI [D.int (a:Int),D.int (b:Int),D.int (c:Int)] 1=some (.int (b:Int))from rfl,show atI [D.int (a:Int),D.int (b:Int),D.int (c:Int)] 2=some (.int (c:Int))from rfl]
   right;rw[bU _ ad,bU _ ad,bB,bB,bB]
   rw[show [D.tup [D.int<|-r%p,D.int 1]]=[mD<|bV<|(-r)%p]from rfl,show [D.tup [D.int<|-s%p,D.int 1]]=[mD<|bV<|(-s)%p]from rfl,elist]
   have s1:((replicate a [mD<|bV<|(-r)%p]).flatten++(replicate b [mD<|bV<|(-s)%p]).flatten).length=a+b:=by
    rw[aJ6,aJ6,cE,aK,aK,cQ,cQ]
   rw[cE]at s1;have s2:((replicate a [mD<|bV<|(-r)%p]).flatten++(replicate b [mD<|bV<|(-s)%p]).flatten).length+(replicate c [mD<|hF p e u]).flatten.length=a+b+c:=by
    rw[<-cE,elist,aK,gl]
   rw[s1,s2];refine⟨ad,ac,ac,⟨ad,ad,sz _ (by show 1*a<=100;lia)⟩,ad,ac,ac,⟨ad,ad,sz _ (by show 1*b<=100;lia)⟩,sz _ ad,ac,⟨ad,ad,sz _ (by show 1*c<=100;lia)⟩,sz _ ad,?_⟩
   rw[aK];exact q
  .rintro i ρ hi ⟨x,rfl⟩;left;have ei:(gs.map mD).getD i D.non=mD gs[i]:=by rw[bI,bP,aW hi];rfl
   rw[ei];have mR:=MP.foldT p2 (gs.take i) dM (MP.one p2) λg hh=>(mg g<|List.mem_of_mem_take hh).1
   have dR:((gs.take i).foldl (tm p) dM).1<=4:=by
    have:gs.foldl (tm p) dM=(gs.drop i).foldl (tm p) ((gs.take i).foldl (tm p) dM):=by rw[<-iA,rK]
    rw[this,a05]at gd
    lia
   obtain⟨mi,di⟩:=mg gs[i] (e9 hi);refine⟨ac,_,_,_,gs[i].2,p,mD gs[i],rfl,.inl rfl,ad,ad,ad,p3,mi.z,mR.rng,mi.rng,?_⟩
   rw[tm_row p2 mR mi];refine⟨~~~mD gs[i],?_⟩;rw[List.take_succ,aW hi,iA];rfl
  .rintro ρ ⟨x,rfl⟩;rw[List.take_length,eraw];rw[eraw]at gd;have mF:MP p (aP3 p r s e u a b c).1 (aP3 p r s e u a b c).2:=by rw[<-eraw];exact MP.foldT p2 gs dM (MP.one p2) λg hh=>(mg g hh).1
   have hdue: ∀(Q:B->Prop),(∀xs,SP p (aP3 p r s e u a b c) xs->Q (.ow<|xs.map fG))->aP4 [.int p,.int r,.int s,.int e,.int u,.tup [.int (a:Int),.int (b:Int),.int (c:Int)]] Q:=λQ h=>⟨p,r,s,e,u,a,b,c,rfl,pp,f10.1,f10.2,f11.1,f11.2,f12.1,f12.2,f13.1,f13.2,h4,h⟩
   generalize mD (hF p e u)=hD at *;generalize aP3 p r s e u a b c=F at *;clear elist eraw mg gl hg mh h2 ew;obtain⟨n,f⟩:=F
   show aB7 _ [~~~.rol (ns.map .int),!p,↑(lw9.map wD),↑[.int w0,.int w1,.int w2],~~~.tup [.int (a:Int),.int (b:Int),.int (c:Int)],!r,!s,!e,!u,~~~hD,~~~.tup ((rwF (n+1) f).map .int),x,none,none,none,none,none,none]
   unfold aB7;rw[b5];left;have ec:cutD ((rwF (n+1) f).map D.int) none (some<|-1)=(rwF n f).map D.int:=by
    unfold cutD;rw[bE,HT.sIx_none];have e:HT.sIx (n+1) (n+1) (some<|-1)=n:=by
     show(if(-1:Int)<0 then(-1+((n+1:Nat):Int)).toNat else min (-1:Int).toNat (n+1))=n
     rw[a8 ac]
     omega
    rw[e,List.drop_zero,sub_zero,<-oK,aA3 _ _ _ aa]
   rw[ec];have n4:n<=4:=gd;refine⟨ns,3,rfl,hl,ac,ac,λz=>⟨n,f,p,z,999999883,_,rfl,.inl rfl,aa,aa,aa,ac,λg hg=> ?_⟩⟩
   left
   rw[bQ6];refine⟨ac,by rw[bE];exact aN (show n+1<=5 by omega) ac,?_⟩
   have eg:md p (λj=>if j=n then 1 else g j)=f:=funext λj=>by
    show(if j=n then 1 else g j)%p=f j
    by_cases c:j=n
    .rw[a8 c,c,show f n=1 from mF.top]
     exact bR ac aa
    .rw[a7 c,hg j];exact bR (mF.rng j).1 (mF.rng j).2
   generalize (λj=>if j=n then(1:Int)else g j)=G at *
   unfold aW8;rw[b5];left;rw[i1];right
   by_cases c2:w1=2
   .rw[a8 c2];refine⟨ns,4,rfl,hl,ac,ac,λz=> ?_⟩
    right;refine⟨⟨ac,ac,ac⟩,z,3,_,999999797,rfl,ac,ac,ac,ac,λy l0 l1=> ?_⟩
    right;refine⟨cmR ac ac,ac,?_⟩
    rw[i2];right;generalize hy:(if y<0 then -y else y)=Y;have Y0:0<=Y:=by rw[<-hy];split<;>lia
    have far: ∀z:Int,(z<2\/200<=z)->z ∉ prL:=λz hz hm=>by have:=(aO2 hm).lo;have:=(aO2 hm).hi;lia
    obtain⟨bad,hb,nb⟩: ∃bad,atI [D.int 1,D.int 4,D.int 201,D.int 211,D.int<|-Y,D.int<|200+Y*2] w2=some (.int bad)/\bad ∉ prL:=by
     obtain⟨k,rfl⟩: ∃k:Nat,w2=(k:Int):=⟨w2.toNat,ad⟩
     rcases(show k=0\/k=1\/k=2\/k=3\/k=4\/k=5 by lia)with rfl|rfl|rfl|rfl|rfl|rfl
     .exact⟨_,dS (j:=0) rfl,far _<|.inl ac⟩
     .exact⟨_,dS (j:=1) rfl,by rw[b32];decide⟩
     .exact⟨_,dS (j:=2) rfl,far _<|.inr ac⟩
     .exact⟨_,dS (j:=3) rfl,far _<|.inr ac⟩
     .exact⟨_,dS (j:=4) rfl,far _<|.inl ad⟩
     .exact⟨_,dS (j:=5) rfl,far _<|.inr ad⟩
    rw[hb];exact⟨rwF (n+1) G,bad,rfl,nb,hQ⟩
   rw[a7 c2];unfold aW7;rw[b5];left;refine hdue _ λys sy=> ?_
   unfold aW6;rw[b5];left;refine⟨n,G,p,rfl,n4,hp,by rw[eg];exact mF,λxs sx=> ?_⟩
   rw[eg]at sx;have exy:=SP.uniq pp (F:=(n,f)) mF n4 sx sy;subst exy;unfold aW5;rw[b5];left;have getP: ∀(i:Nat) (hi:i<xs.length),(xs.map fG).getD i D.non=fG xs[i]:=λi hi=>by rw[bI,bP,aW hi];rfl
   have xl:xs.length<=300:=sx.len
   refine iU (t0:=0) xs.length (λk=>(xs.map fG).getD k .non) [~~~.rol (ns.map .int),!p,↑(lw9.map wD),↑[.int w0,.int w1,.int w2],~~~.tup [.int (a:Int),.int (b:Int),.int (c:Int)],!r,!s,!e,!u,~~~hD,~~~.tup ((rwF (n+1) f).map .int),x,~~~.tup ((rwF (n+1) G).map .int),none,none,↑(xs.map fG),~~~.lst (xs.map fG),none] (λQ' q=> ?_) ad (λx l=>[x,↑l]) none rfl (λ_ _ _=>rfl) (λ_ _=>e6 _) (λ_ _ _ q=>q) (λ_ _ _=>rfl) (λi=> .bl true) (λi l Q' hi q=> ?_) ?_
   .left
    rw[aK];exact q
   .rw[getP i hi]at q⊢;unfold fG at q⊢;left
    exists q
   have eL:(List.range xs.length).map (λ_=>D.bl true)=(replicate xs.length true).map D.bl:=by apply oE<;>simp
   have e2:(replicate xs.length true).all id=true:=ae
   rw[eL];left;rw[oW];right;rw[e2];unfold aW4;rw[b5];left
   refine iU (t0:=0) xs.length (λk=>(xs.map fG).getD k .non) [~~~.rol (ns.map .int),!p,↑(lw9.map wD),↑[.int w0,.int w1,.int w2],~~~.tup [.int (a:Int),.int (b:Int),.int (c:Int)],!r,!s,!e,!u,~~~hD,~~~.tup ((rwF (n+1) f).map .int),x,~~~.tup ((rwF (n+1) G).map .int),none,none,↑(xs.map fG),~~~.lst (xs.map fG),none] (λQ' q=> ?_) ad (λx l=>[x,!p,↑l]) none rfl (λ_ _ _=>rfl) (λ_ _=>e6 _) (λ_ _ _ q=>q) (λ_ _ _=>rfl) (λi=> .bl true) (λi l Q' hi q=> ?_) ?_
   .left
    rw[aK];exact q
   .obtain⟨mp,d1,d4,_⟩:=sx.mem xs[i] (e9 hi);rw[getP i hi]at q⊢;unfold fG at q⊢;left;simp only[uD,at1];refine⟨_,_,p,rfl,ad,.inr (by rw[i8,mp.top];decide),mp.rng,?_⟩
    right;rw[a8 rfl];exact⟨_,rfl,q⟩
   rw[eL];left;rw[oW];right;rw[e2];unfold aW3;rw[b5];left;refine⟨n,G,p,rfl,n4,hp,by rw[eg];exact mF,λzs sz=> ?_⟩
   rw[eg]at sz;have exz:=SP.uniq pp (F:=(n,f)) mF n4 sz sx;subst exz;unfold aW2;left;refine Pdk.same (k:=3) (.lst λd hd=> ?_) ac ?_
   .obtain⟨y,_,rfl⟩:=dO.mp hd;refine .tup λd hd=> ?_
    rcases aG.mp hd with rfl|hd
    .exact Pdk.row _
    .rw[fM.mp hd];exact Pdk.int
   .simp only[jG,fS];rw[a8<|.inr trivial,aK];cases zs with
    | nil=>
     rw[a7 ac]
     exact hQ
    | cons y l=>
     cases l with
     | nil=>
      rw[a8<|by rfl]
      simp only[bX,iG,uD,fG,at1];have e:stB [y]=decide ((y.2:Int)=1):=by
       show decide (y.2=1)=_
       by_cases c:y.2=1
       .rw[eR c,eR aa]
       .rw[dC c,dC aa]
      rw[e,eR rfl];exact hQ
     | cons y' l=>
      rw[a7 (by simp;omega)]
      exact hQ
 refine⟨cmL ad ad,ad,cmL ac ad,ad,ac,?_⟩
 unfold b90;rw[b5];left
 by_cases p2':p=2
 .rw[a8 p2'];refine⟨ac,?_⟩
  rw[show mD (hF p e u)= .tup [.int 1,.int 1,.int 1]by unfold hF;rw[a8 p2'];rfl]at dJ
  exact dJ
 .rw[a7 p2',bU _ ad,bU _ ad]
  rw[show mD (hF p e u)= .tup [.int<|(e*e-u)%p,.int<|-2*e%p,.int 1]by unfold hF;rw[a7 p2'];rfl]at dJ
  exact dJ
theorem bE3:bootBuiltins "sorted"=some (.builtin "sorted"):=af
end M
end
namespace M
set_option maxHeartbeats 4000000
def top (i:Nat):Stmt:=PySem.Challenge.pw_ringhouse_k09_split_known.main.body.getD i (.Pass ⟨0,0,0,0⟩)
abbrev bmV:List Value:=[.type "ValueError",.type "Exception",.type "BaseException",.type "object"]
abbrev vN:String:="ValueError.__new__"
def nk:NameKind->Bool
 | .local=>true
 | .cell=>true
 | _=>false
def nm (s:Stmt):List Str:=((aI s).names.filter λx=>nk x.2).map (·.1)
def pm (s:Stmt):List Str:=(nm s).take (nJ s).args.length
abbrev yS:Stmt:=top 5
abbrev b96:List Str:=nm yS
abbrev aW9:List Str:=pm yS
abbrev gW:Stmt:=top 6
abbrev tQ:List Str:=nm gW
abbrev qV:List Str:=pm gW
noncomputable abbrev mE:Stmt:=top 7
noncomputable abbrev a31:List Str:=nm mE
noncomputable abbrev yT:List Str:=pm mE
abbrev iX:Stmt:=top 9
abbrev t4:List Str:=nm iX
abbrev vP:List Str:=pm iX
abbrev iK:Stmt:=top 10
abbrev uN:List Str:=nm iK
abbrev tS:List Str:=pm iK
abbrev lD:Stmt:=top 11
abbrev xT:List Str:=nm lD
abbrev a32:List Str:=pm lD
abbrev iL:Stmt:=top 12
abbrev uO:List Str:=nm iL
abbrev tT:List Str:=pm iL
abbrev gA:Stmt:=top 15
abbrev qW:List Str:=nm gA
abbrev pU:List Str:=pm gA
abbrev fJ:Stmt:=top 17
abbrev t5:List Str:=nm fJ
abbrev lK:List Str:=pm fJ
abbrev jR:Stmt:=top 18
abbrev a06:List Str:=nm jR
abbrev xU:List Str:=pm jR
abbrev j5:Stmt:=top 19
abbrev vQ:List Str:=nm j5
abbrev uP:List Str:=pm j5
abbrev dP:Stmt:=top 20
abbrev jN:List Str:=nm dP
abbrev nE:List Str:=pm dP
abbrev iM:Stmt:=top 21
abbrev uQ:List Str:=nm iM
abbrev tU:List Str:=pm iM
abbrev yU:Stmt:=top 23
abbrev b97:List Str:=nm yU
abbrev aX0:List Str:=pm yU
abbrev yV:Stmt:=top 24
abbrev b98:List Str:=nm yV
abbrev aX1:List Str:=pm yV
abbrev qX:Stmt:=top 25
abbrev aB8:List Str:=nm qX
abbrev aJ7:List Str:=pm qX
abbrev yW:Stmt:=top 26
abbrev b99:List Str:=nm yW
abbrev aX2:List Str:=pm yW
abbrev aB9:Stmt:=top 27
abbrev bS7:List Str:=nm aB9
abbrev bA0:List Str:=pm aB9
abbrev k8:Stmt:=top 28
abbrev yX:List Str:=nm k8
abbrev vR:List Str:=pm k8
abbrev aX3:Stmt:=top 29
abbrev c61:List Str:=nm aX3
abbrev bS8:List Str:=pm aX3
abbrev mI:Stmt:=top 30
abbrev a33:List Str:=nm mI
abbrev yY:List Str:=pm mI
abbrev nT:Stmt:=top 31
abbrev a07:List Str:=nm nT
abbrev aC0:List Str:=pm nT
abbrev aX4:Stmt:=top 32
abbrev c62:List Str:=nm aX4
abbrev bS9:List Str:=pm aX4
abbrev yZ:Stmt:=top 33
abbrev bA1:List Str:=nm yZ
abbrev aX5:List Str:=pm yZ
abbrev nU:Stmt:=top 34
abbrev a08:List Str:=nm nU
abbrev aC1:List Str:=pm nU
abbrev qY:Stmt:=top 35
abbrev aC2:List Str:=nm qY
abbrev aJ8:List Str:=pm qY
abbrev aC3:Stmt:=top 36
abbrev bA2:List Str:=nm aC3
abbrev bT0:List Str:=pm aC3
abbrev qZ:Stmt:=top 37
abbrev aJ9:List Str:=nm qZ
abbrev aC4:List Str:=pm qZ
abbrev uS:Stmt:=top 38
abbrev bA3:List Str:=nm uS
abbrev PP_law:List Str:=pm uS
local macro_rules| `(tactic| walk_at "s")=> `(tactic| exact⟨rfl,rfl,rfl,by decide +kernel,rfl,by decide +kernel,by decide +kernel⟩)
theorem aC5:bN b96 aW9 (aI yS):=by walk_at "s"
theorem cO:bN tQ qV (aI gW):=by walk_at "s"
theorem nO:bN a31 yT (aI mE):=by walk_at "s"
theorem aE5:bN t4 vP (aI iX):=by walk_at "s"
theorem gX:bN uN tS (aI iK):=by walk_at "s"
theorem aX6:bN xT a32 (aI lD):=by walk_at "s"
theorem j7:bN uO tT (aI iL):=by walk_at "s"
theorem zA:bN qW pU (aI gA):=by walk_at "s"
theorem gZ:bN t5 lK (aI fJ):=by walk_at "s"
theorem t6:bN a06 xU (aI jR):=by walk_at "s"
theorem eV:bN vQ uP (aI j5):=by walk_at "s"
theorem nF:bN jN nE (aI dP):=by walk_at "s"
theorem fA:bN uQ tU (aI iM):=by walk_at "s"
theorem aC6:bN b97 aX0 (aI yU):=by walk_at "s"
theorem r6:bN b98 aX1 (aI yV):=by walk_at "s"
theorem bE4:bN aB8 aJ7 (aI qX):=by walk_at "s"
theorem aX7:bN b99 aX2 (aI yW):=by walk_at "s"
theorem c36:bN bS7 bA0 (aI aB9):=by walk_at "s"
theorem aE6:bN yX vR (aI k8):=by walk_at "s"
theorem b37:bN c61 bS8 (aI aX3):=by walk_at "s"
theorem nP:bN a33 yY (aI mI):=by walk_at "s"
theorem xV:bN a07 aC0 (aI nT):=by walk_at "s"
theorem aC7:bN c62 bS9 (aI aX4):=by walk_at "s"
theorem bT1:bN bA1 aX5 (aI yZ):=by walk_at "s"
theorem b38:bN a08 aC1 (aI nU):=by walk_at "s"
theorem bE5:bN aC2 aJ8 (aI qY):=by walk_at "s"
theorem aC8:bN bA2 bT0 (aI aC3):=by walk_at "s"
theorem pF:bN aJ9 aC4 (aI qZ):=by walk_at "s"
theorem fV:bN bA3 PP_law (aI uS):=by walk_at "s"
structure Zs (mg:Str->Option Value):Prop where
 z0:mg "len"=none
 z1:mg "max"=none
 z2:mg "list"=none
 z3:mg "reversed"=none
 z4:mg "range"=none
 z5:mg "enumerate"=none
 z6:mg "tuple"=none
 z7:mg "sorted"=none
 z8:mg "all"=none
 z9:mg "zip"=none
 z10:mg "isinstance"=none
 z11:mg "int"=none
 z12:mg "bool"=none
 z13:mg "set"=none
 z14:mg "ValueError"=none
 z15:mg "abs"=none
abbrev DT (P:Program)(w:World)(K:PySem.W.Frag)(mg:Str->Option Value)(base:Heap)(N:List Str)(q:Str)(t:Stmt)(k:Nat)(u:US):Prop:= ∀{f:Addr} {cdv:Value} {A:Around} {outer:List Env} {s:Shared} {H:Hp} {E:XK},gR k (A.deeper<|envOfC q (aI t) s.heap.objs.size f cdv)->mP (sM CX0 P w K mg base N q (aI t) f cdv A outer s H E).nox (eY t) u
section
variable (P:Program)(w:World)(K:PySem.W.Frag)(mg:Str->Option Value)(base:Heap)
abbrev aX8:=Fn P w K mg base "cut" aW9 1 uF
abbrev a09:=Fn P w K mg base "poly_parted" qV 2 l7
abbrev aP8:=Fn P w K mg base "poly_at" yT 1 sX
abbrev lL:=Fn P w K mg base "mod_poly" vP 2 eI
abbrev a47:=Fn P w K mg base "mod_parted" tS 4 mU
abbrev aX9:=Fn P w K mg base "scaled" a32 3 pS
abbrev a48:=Fn P w K mg base "inverse_of" tT 1 mS
abbrev pV:=Fn P w K mg base "small_primes" pU 1 i4
abbrev vS:=Fn P w K mg base "split_by" lK 6 lJ
abbrev b39:=Fn P w K mg base "stays" xU 7 xP
abbrev uT:=Fn P w K mg base "lines_out" uP 5 k7
abbrev nG:=Fn P w K mg base "rootless_parts" nE 2 fY
abbrev a49:=Fn P w K mg base "two_by_two" tU 1 mW
abbrev bT2:=Fn P w K mg base "_law_mixed" aX0 1 yK
abbrev uU:=Fn P w K mg base "_law_draws" aX1 2 p7
abbrev bE6:=Fn P w K mg base "_law_primes" aJ7 1 vB
abbrev bT3:=Fn P w K mg base "_law_prime" aX2 3 aA6
abbrev c37:=Fn P w K mg base "_law_cell" bA0 1 sV
abbrev aE7:=Fn P w K mg base "_law_mod_places" vR 3 qA
abbrev TF_cut:=Fn P w K mg base "_law_cut" bS8 1 b25
abbrev aP9:=Fn P w K mg base "_law_mod_times" yY 2 sW
abbrev b40:=Fn P w K mg base "_law_written" aC0 3 xO
abbrev TF_far:=Fn P w K mg base "_law_far" bS9 3 b21
abbrev aY0:=Fn P w K mg base "_law_whole" aX5 1 uE
abbrev b41:=Fn P w K mg base "_law_is_poly" aC1 2 xM
abbrev bE7:=Fn P w K mg base "_law_is_mod" aJ8 3 zY
abbrev TF_due:=Fn P w K mg base "_law_due" bT0 1 aP4
abbrev b42:=Fn P w K mg base "_law_refused" aC4 8 xR
end
section
variable {P:Program}{w:World}{K:PySem.W.Frag}{mg:Str->Option Value}{base:Heap}
theorem bE8 (Z:Zs mg):DT<$>b96 "cut" yS 0 aA4:=λhr=>
 (cP 1 aC5.nd (eZ (cM 0) rfl Z.z0)<|d7 (a73 oG (PUW.pt<|y6 (kY a79 (aT 1) aE)<|tY<|kY fW (dX (cM 0)<|aM iI (aT 1) aE) aE)<|cU<|us_g 1 aC5.nd aE iu_sub)<|gD<|aG4 (aT 0) tZ<|u4<|aT 1)
theorem zB (Z:Zs mg)(t7:aX8<$>P):DT<$>tQ "poly_parted" gW 1 l8:=λhr=>
 (cP 2 cO.nd (aM iI (eZ (cM 1) rfl Z.z0) aE)<|cP 3 cO.nd (eH (cu_max rfl) rfl Z.z1 bt_max (bM<|aF (aM iI (eZ (cM 0) rfl Z.z0)<|aT 2) aB))<|cP 4 cO.nd (iQ b62 rfl Z.z2 aN9 (aQ 0 aB))<|cP 5 cO.nd (aM cA (dG<|bM aB)<|aT 3)<|d7 (a91 6 cO.nd (bZ1 rfl Z.z3 rfl Z.z4 (aQ 3 aB))<|cP 7 cO.nd (dX (cM 4)<|aM dA (aT 6)<|aT 2)<|d7 (a76 5 (pv 5) (aT 7)<|aT 6)<|cU<|bI7 oG rfl (bZ0 (by rfl) Z.z5<|aQ 1 aB) (a72 rfl (fF 8 (eX cO.nd rfl (Or.inl rfl))<|fF 9 (eX cO.nd rfl (Or.inl rfl)) v7) (dY<|dY qJ)) (cU<|bY9 4 (pv 4) (aM dA (aT 6)<|aT 8) (aM cA (aT 7)<|aT 9) bG1))<|gD<|dL<|aF (fU t7 hr<|aF (iQ qH rfl Z.z6 lW (aQ 5 aB)) aB)<|aF (fU t7 hr<|aF (iQ qH rfl Z.z6 lW (aQ 4 aB)) aB) aB)
theorem aE8 (Z:Zs mg):DT<$>a31 "poly_at" mE 0 sY:=λhr=>
 (cP 2 nO.nd aE<|d7 (a91 3 nO.nd (bZ5 rfl Z.z3 (aQ 0 aB))<|cU<|a40 2 nO.nd<|aM dA (aM cA (aT 2)<|aT 1)<|aT 3)<|cU<|aL4 2<|pv 2)
theorem aC9 (Z:Zs mg)(t7:aX8<$>P):DT<$>t4 "mod_poly" iX 1 q0:=λhr=>
 (gD<|fU t7 hr<|aF (iQ qH rfl Z.z6 lW (aF (vK ["c","p",".acc"] (aI iX).names t4 (pX<|aT 0) (λ_ _ _ _ _ _=>lH) λ_ _ _ _ _ _=>(aM dH (aT 0)<|aT 1)) aB)) aB)
theorem a10 (Z:Zs mg)(cH:lL<$>P)(pG:a48<$>P)(mZ:a09<$>P)(t9:aX9<$>P):DT<$>uN "mod_parted" iK 3 mV:=λhr=>
 (cP 3 gX.nd (fU cH hr<|aQ 1<|aQ 2 aB)<|cP 4 gX.nd (fU pG hr<|aF (dX (cM 3)<|mQ aE)<|aQ 2 aB)<|d7 (aL6 (fU mZ hr<|aF (fU cH hr<|aQ 0<|aQ 2 aB)<|aF (fU t9 hr<|aQ 3<|aQ 4<|aQ 2 aB) aB)<|a72 rfl (fF 5 (eX gX.nd rfl (Or.inl rfl))<|fF 6 (eX gX.nd rfl (Or.inl rfl)) v7) (dY<|dY qJ))<|gD<|dL<|aF (fU t9 hr<|aQ 5<|aQ 4<|aQ 2 aB)<|aF (fU cH hr<|aQ 6<|aQ 2 aB) aB)
theorem aQ0 (Z:Zs mg)(cH:lL<$>P):DT<$>xT "scaled" lD 2 uI:=λhr=>
 (gD<|fU cH hr<|aF (iQ qH rfl Z.z6 lW (aF (vK ["c","k",".acc"] (aI lD).names xT (pX<|aT 0) (λ_ _ _ _ _ _=>lH) λ_ _ _ _ _ _=>(aM cA (aT 1)<|aT 0)) aB))<|aQ 2 aB)
theorem a11 (Z:Zs mg):DT<$>uO "inverse_of" iL 0 mT:=λhr=>
 (cP 2 j7.nd aE<|d7 (a91 3 j7.nd (jP rfl Z.z4 (aF (aM iI (aT 1) aE) aB))<|cU<|a40 2 j7.nd<|aM dH (aM cA (aT 2)<|aT 0)<|aT 1)<|cU<|aL4 2<|pv 2)
theorem xW (Z:Zs mg){gB:Addr}(eW:mg "SMALL_PRIMES"=some (.ref gB))(pH:KT K gB (T_SMALL_PRIMES.map V.int)):DT<$>qW "small_primes" gA 0 jZ:=λhr=>
 (gD<|iQ b62 rfl Z.z2 aN9 (aF (bZ6 rfl eW pH) aB))
theorem aD0 (Z:Zs mg)(eJ:pV<$>P)(hG:uT<$>P)(cH:lL<$>P)(dQ:nG<$>P):DT<$>t5 "split_by" fJ 5 qD:=λhr=>
 (kC (aL2 aS4 (aT 1) (aM1 eJ hr ac rfl) rfl) (cU bI2)<|d7 (aL6 (fU hG hr<|aF (fU cH hr<|aQ 0<|aQ 1 aB)<|aQ 1 aB)<|a72 rfl (fF 2 (eX gZ.nd rfl (Or.inl rfl))<|fF 3 (eX gZ.nd rfl (Or.inl rfl)) v7) (dY<|dY qJ))<|gD<|aM dA (aT 2)<|fU dQ hr<|aQ 3<|aQ 1 aB)
theorem aY1 (Z:Zs mg)(iY:vS<$>P):DT<$>a06 "stays" jR 6 xQ:=λhr=>
 (cP 2 t6.nd (fU iY hr<|aQ 0<|aQ 1 aB)<|gD<|oR (a41 fW (eZ (cM 2) rfl Z.z0) aE)<|oQ<|a41 fW (dX (a19<|dX (cM 2) aE) aE) aE)
theorem a50 (Z:Zs mg)(uX:aP8<$>P)(pI:a47<$>P):DT<$>vQ "lines_out" j5 4 pD:=λhr=>
 (cP 2 eV.nd (dG aB)<|cP 3 eV.nd (aT 0)<|d7 (a91 4 eV.nd (jP rfl Z.z4 (aQ 1 aB))<|cP 5 eV.nd aE<|d7 (a73 oG (kY fW (aM dH (fU uX hr<|aQ 3<|c53 (mQ<|aT 4) aB)<|aT 1) aE)<|cP 3 eV.nd (dX (a19<|fU pI hr<|aQ 3<|lU (dL<|aQ 4<|bM aB)<|aQ 1 aB) aE)<|cU<|us_g 5 eV.nd aE iu_add)<|cU<|us_i (kY a79 (aT 5) aE)<|cU<|qG 2 (pv 2)<|dL<|lU (dL<|aQ 4<|bM aB)<|aQ 5 aB)<|gD<|dL<|aQ 2<|aQ 3 aB)
theorem uW (Z:Zs mg)(pJ:a49<$>P):DT<$>jN "rootless_parts" dP 1 j2:=λhr=>
 (kC (kY fW (eZ (cM 0) rfl Z.z0) aE) (gD<|dG aB)<|cP 2 nF.nd (bH8 (kY fW (eZ (cM 0) rfl Z.z0) aE) (fU pJ hr<|aQ 0<|aQ 1 aB)<|dG aB)<|kC (kY fW (eZ (cM 2) rfl Z.z0) aE) (gD<|dG<|lU (dL<|aQ 0<|bM aB) aB)<|kC (kY (bK7 hr.units) (dX (cM 2) aE)<|dX (cM 2) aE) (gD<|dG<|lU (dL<|aF (dX (cM 2) aE)<|bM aB) aB)<|gD<|vK ["g",".acc"] (aI dP).names jN (pX<|eH bM1 rfl Z.z7 bE3 (aQ 2 aB)) (λ_ _ _ _ _ _=>lH) λ_ _ _ _ _ _=>(dL<|aQ 0<|bM aB))
theorem a12 (Z:Zs mg):DT<$>uQ "two_by_two" iM 0 mY:=λhr=>
 (d7 (a91 2 fA.nd (jP rfl Z.z4 (aQ 1 aB))<|cP 3 fA.nd (aM dH (aM iI (dX (cM 0) aE)<|aT 2)<|aT 1)<|cP 4 fA.nd (aM iI (dX (cM 0) aE)<|aM cA (aT 2)<|aT 3)<|cU<|a91 5 fA.nd (jP rfl Z.z4 (aQ 1 aB))<|cP 6 fA.nd (aM dH (aM iI (aT 4)<|aT 5)<|aT 1)<|cU<|us_i (PUW.pt<|y6 (kY fW (aM dH (aM cA (aT 5)<|aT 6)<|aT 1)<|dX (cM 0) aE)<|tY<|kY fW (aM dH (aM dA (aM cA (aT 2)<|aT 6)<|aM cA (aT 5)<|aT 3)<|aT 1)<|dX (cM 0) aE)<|gD<|dG<|lU (dL<|aQ 5<|aQ 2<|bM aB)<|lU (dL<|aQ 6<|aQ 3<|bM aB) aB)<|gD<|dG aB)
theorem bE9 (Z:Zs mg):DT<$>b97 "_law_mixed" yU 0 a97:=λhr=>
 (cP 3 aC6.nd (aM dH (aM cA (aM dA (aM dA (aM dA (aT 0)<|aM cA (aM cA aE<|aT 1)<|aT 1)<|aM cA aE<|aT 1) aE) aE) aE)<|cP 3 aC6.nd (aM dH (aM cA (aT 3)<|aT 3) aE)<|gD<|aM dH (aM cA (aT 3) aE)<|aT 2)
theorem bF0 (Z:Zs mg)(aQ2:bT2<$>P):DT<$>b98 "_law_draws" yV 1 a98:=λhr=>
 (cP 3 r6.nd aE<|kC (kY ou_ge (aT 0)<|aM pY aE aE) (cU<|a40 3 r6.nd<|aM iI (aT 0)<|aM pY aE aE)<|cP 4 r6.nd (dG aB)<|d7 (a91 5 r6.nd (jP rfl Z.z4 (aF (eZ (cM 1) rfl Z.z0) aB))<|cU<|bI1 (kY a79 (aT 3) aE) (d7 (qG 4 (pv 4)<|aM dH (aT 3)<|dX (cM 1)<|aT 5)<|cU<|a40 3 r6.nd<|aM ou_div (aT 3)<|dX (cM 1)<|aT 5)<|cU<|qG 4 (pv 4)<|aM dH (fU aQ2 hr<|aQ 0<|aQ 5<|aQ 2 aB)<|dX (cM 1)<|aT 5)<|cU<|aL4 4<|pv 4)
theorem b43 (Z:Zs mg):DT<$>aB8 "_law_primes" qX 0 zV:=λhr=>
 (gD<|vK ["_law_n",".acc"] (aI qX).names aB8 (aG0 rfl Z.z4 (bM<|bM aB)) (λ_ _ _ _ _ _=>(b66<|aF8<|eH (a83 rfl) rfl Z.z8 a84 (aF (vK ["_law_d","_law_n",".acc"] [(".0",NameKind.local),("_law_n",NameKind.cell),("all",NameKind.globalImplicit),("range",NameKind.globalImplicit)] ["_law_n",".acc"] (aG0 rfl Z.z4 (bM<|bM aB)) (λ_ _ _ _ _ _=>lH) λ_ _ _ _ _ _=>(c48 (a41 fW (aT 1)<|aT 0)<|oQ<|a41 c51 (aM dH (aT 1)<|aT 0) aE)) aB))) λ_ _ _ _ _ _=>(aT 0))
theorem bF1 (Z:Zs mg)(gU:uU<$>P)(zC:bE6<$>P):DT<$>b99 "_law_prime" yW 2 aA7:=λhr=>
 (cP 2 aX7.nd (fU gU hr<|aQ 0<|aF (dG<|bM<|bM aB)<|aQ 1 aB)<|kC (kY fW (dX (cM 2) aE) aE) (gD<|dX (a19<|aM1 zC hr ac rfl)<|aM dH (dX (cM 2) aE) aE)<|gD<|dX (a19<|aM1 zC hr ac rfl)<|dX (cM 2) aE)
theorem bT4 (Z:Zs mg):DT<$>bS7 "_law_cell" aB9 0 aN8:=λhr=>
 (kC (kY fW (eZ (cM 0) rfl Z.z0) aE) (gD<|aM cA aE<|aM dA (aT 1) aE)<|kC (kY c50 (aT 1)<|eZ (cM 0) rfl Z.z0) (gD<|dX (cM 0)<|aT 1)<|gD<|aM dA (dX (cM 0)<|aM dH (aT 1)<|eZ (cM 0) rfl Z.z0)<|aM cA aE<|aT 1)
theorem aD1 (Z:Zs mg)(gU:uU<$>P):DT<$>yX "_law_mod_places" k8 2 qB:=λhr=>
 (gD<|fU gU hr<|aQ 0<|aF (aM cA (dG<|aQ 2 aB)<|aT 1)<|aQ 3 aB)
theorem c38 (Z:Zs mg):DT<$>c61 "_law_cut" aX3 0 b26:=λhr=>
 (cP 1 b37.nd (eZ (cM 0) rfl Z.z0)<|d7 (a73 oG (PUW.pt<|y6 (kY a79 (aT 1) aE)<|tY<|kY fW (dX (cM 0)<|aM iI (aT 1) aE) aE)<|cU<|a40 1 b37.nd<|aM iI (aT 1) aE)<|gD<|iQ qH rfl Z.z6 lW (aF (a78 (cM 0) tZ<|u4<|aT 1) aB))
theorem aE9 (Z:Zs mg)(bT6:TF_cut<$>P):DT<$>a33 "_law_mod_times" mI 1 iW:=λhr=>
 (cP 3 nP.nd (aM cA (dG<|bM aB)<|aM dA (eZ (cM 0) rfl Z.z0)<|eZ (cM 1) rfl Z.z0)<|d7 (a91 4 nP.nd (jP rfl Z.z4 (aF (eZ (cM 0) rfl Z.z0) aB))<|cU<|a91 5 nP.nd (jP rfl Z.z4 (aF (eZ (cM 1) rfl Z.z0) aB))<|cU<|a76 3 (pv 3) (aM dH (aM dA (dX (cM 3)<|aM dA (aT 4)<|aT 5)<|aM cA (dX (cM 0)<|aT 4)<|dX (cM 1)<|aT 5)<|aT 2)<|aM dA (aT 4)<|aT 5)<|gD<|fU bT6 hr<|aQ 3 aB)
theorem aY2 (Z:Zs mg)(gU:uU<$>P):DT<$>a07 "_law_written" nT 2 lB:=λhr=>
 (cP 4 xV.nd (fU gU hr<|aQ 2<|aF (aM dA (dG<|bM aB)<|aM cA (dG<|aF (aM pY aE aE) aB)<|eZ (cM 0) rfl Z.z0)<|aQ 3 aB)<|cP 5 xV.nd (dX (a19<|dG<|bM<|bM<|aF (aM pY aE aE)<|aF (aM cA (aM pY aE aE)<|aM pY aE aE) aB)<|dX (cM 4) aE)<|gD<|aS2 (js:=[1,5]) (N:=["_law_place","_law_more","_law_p","_law_far_here",".acc"]) (cap:=[none,none,some 1,some 5,none]) (last:=4) (esc:=(aI nT).names) (XN:=a07) rfl rfl af ac ac rfl (ui_zip (by rfl) Z.z9<|aQ 0<|aF (a78 (cM 4) (u4 aE) tZ) aB) (λ_ _ _ _ _ _=>(a72 rfl (fF 0 (eX (show Nodup (["_law_place","_law_more","_law_p","_law_far_here",".acc"]:List Str)by decide +kernel) rfl (Or.inl rfl))<|fF 1 (eX (show Nodup (["_law_place","_law_more","_law_p","_law_far_here",".acc"]:List Str)by decide +kernel) rfl (Or.inl rfl)) v7) (dY<|dY qJ))) (λ_ _ _ _ _ _=>lH) (λ_ _ _ _ _ _=>(aM dA (aT 0)<|aM cA (aM cA (aT 2)<|aT 3)<|aM iI (aT 1)<|aM cA aE<|aM pY aE aE)))
theorem c39 (Z:Zs mg)(gU:uU<$>P):DT<$>c62 "_law_far" aX4 2 b22:=λhr=>
 (cP 4 aC7.nd (fU gU hr<|aQ 0<|aF (aM dA (dG<|bM aB)<|aM cA (dG<|aF (aM pY aE aE) aB)<|aT 1)<|aQ 3 aB)<|cP 5 aC7.nd aE<|d7 (a91 6 aC7.nd (pX<|a78 (cM 4) (u4 aE) tZ)<|cU<|a40 5 aC7.nd<|aM dA (aM cA (aT 5)<|aM pY aE aE)<|aT 6)<|kC (kY fW (dX (cM 4) aE) aE) (gD aE)<|kC (kY fW (dX (cM 4) aE) aE) (gD<|aM iI (aM dH (aT 5) aE) aE)<|gD<|aM iI (aM dH (aT 5)<|aM dA (aM cA aE<|aT 2) aE)<|aT 2)
theorem bF2 (Z:Zs mg):DT<$>bA1 "_law_whole" yZ 0 aA0:=λhr=>
 (gD<|oR (eH zJ rfl Z.z10 gY (aQ 0<|aF (a80 rfl Z.z11 bP7) aB))<|oQ<|bH7<|eH zJ rfl Z.z10 gY (aQ 0<|aF (a80 rfl Z.z12 b75) aB))
theorem aY3 (Z:Zs mg)(vD:aY0<$>P):DT<$>a08 "_law_is_poly" nU 1 xN:=λhr=>
 (kC (y8<|aF8<|eH zJ rfl Z.z10 gY (aQ 0<|aF (a80 rfl Z.z6 lW) aB)) (gD b56)<|kC (y8<|aF8<|eH (a83 rfl) rfl Z.z8 a84 (aF (vK ["_law_place",".acc"] (aI nU).names a08 (pX<|aT 0) (λ_ _ _ _ _ _=>lH) λ_ _ _ _ _ _=>(fU vD hr<|aQ 0 aB)) aB)) (gD b56)<|gD<|c48 (a41 fW (eZ (cM 0) rfl Z.z0) aE)<|oQ<|a41 c51 (dX (cM 0)<|mQ aE) aE)
theorem b44 (Z:Zs mg)(a13:b41<$>P):DT<$>aC2 "_law_is_mod" qY 2 zZ:=λhr=>
 (gD<|oR (fU a13 hr<|aQ 0 aB)<|oQ<|eH (a83 rfl) rfl Z.z8 a84 (aF (vK ["_law_place","_law_p",".acc"] (aI qY).names aC2 (pX<|aT 0) (λ_ _ _ _ _ _=>lH) λ_ _ _ _ _ _=>(bL1 ou_le c50 aE (aT 0)<|aT 1)) aB))
theorem c40 (Z:Zs mg):DT<$>bA2 "_law_due" aC3 0 b36:=λhr=>
 (cP 6 aC8.nd (aM dA (aM cA (dG<|aF (aM dH (mQ<|aT 1)<|aT 0) aB)<|dX (cM 5) aE)<|aM cA (dG<|aF (aM dH (mQ<|aT 2)<|aT 0) aB)<|dX (cM 5) aE)<|cP 7 aC8.nd (dG aB)<|kC (PUW.pt<|y6 (kY a79 (dX (cM 5) aE) aE)<|tY<|kY fW (aT 0) aE) (cU<|qG 7 (pv 7)<|dL<|lU (dL<|bM<|bM<|bM aB)<|aF (dX (cM 5) aE) aB)<|kC (PUW.pt<|y6 (kY a79 (dX (cM 5) aE) aE)<|tY<|kY a79 (aT 0) aE) (d7 (aS3 (js:=[0,4]) (N:=["_law_v","_law_p","_law_u",".acc"]) (cap:=[none,some 0,some 4,none]) (last:=3) (esc:=(aI aC3).names) (XN:=bA2) 8 rfl rfl af ac ac rfl (jP rfl Z.z4 (aQ 0 aB)) (λ_ _ _ _ _ _=>(aL5 0<|eX (show Nodup (["_law_v","_law_p","_law_u",".acc"]:List Str)by decide +kernel) rfl (Or.inl rfl))) (λ_ _ _ _ _ _=>(b66<|kY fW (aM dH (aM cA (aT 0)<|aT 0)<|aT 1)<|aT 2)) (λ_ _ _ _ _ _=>(aT 0)) (eX aC8.nd rfl (Or.inl rfl)) (il (n:=9) rfl ac))<|cU<|bI1 (kY fW (eZ (cM 8) rfl Z.z0) aE) (cU<|qG 7 (pv 7)<|dL<|lU (dL<|aF (aM dH (aM iI (aM cA (aT 3)<|aT 3)<|aT 4)<|aT 0)<|aF (aM dH (aM cA (mQ aE)<|aT 3)<|aT 0)<|bM aB)<|aF (dX (cM 5) aE) aB)<|cU<|a40 6 aC8.nd<|aM dA (aT 6)<|aM cA (dG<|aF (aM dH (aM iI (dX (cM 8) aE)<|aT 3)<|aT 0)<|aF (aM dH (aM iI (mQ<|dX (cM 8) aE)<|aT 3)<|aT 0) aB)<|dX (cM 5) aE)<|gD<|aM dA (vK ["_law_low","_law_lows",".acc"] (aI aC3).names bA2 (pX<|aN0 rfl rfl Z.z7 rfl Z.z13 (aQ 6 aB)) (λ_ _ _ _ _ _=>lH) λ_ _ _ _ _ _=>(dL<|lU (dL<|aQ 0<|bM aB)<|aF (bN5 (cM 1)<|aQ 0 aB) aB))<|aT 7)
theorem aY4 (Z:Zs mg){gG:Addr}(iN:mg "RingError"=some (.ref gG))(mJ:excIn K gG bmV vN=true){bD:Addr}(d6:mg "NoPrime"=some (.ref bD))(gC:excIn K bD bmV vN=true){mK:Addr}(pK:mg "NotTwo"=some (.ref mK))(zD:excIn K mK bmV vN=true)(hV: ∀n∈(["NoPrime"]:List Str),∀C,mg n=some (.ref C)->p6 K gG C bmV vN)(j3: ∀n∈(["NoPrime"]:List Str),∀C,mg n=some (.ref C)->p6 K bD C bmV vN)(KX_NoPrime:bO4 K bD)(U1_NoPrime:p6 K bD bD bmV vN)(ki_NoPrime_NoPrime:kitOne K (.ref bD) (.ref bD)=some true)(ki_NoPrime_ValueError:kitOne K (.ref bD) (.type "ValueError")=some true)(ki_NoPrime_NotTwo:kitOne K (.ref bD) (.ref mK)=some false)(hJ:FnX<$>"split_by" lK 6 g9)(xX:FnX<$>"stays" xU 7 pT):DT<$>aJ9 "_law_refused" qZ 7 xS:=λhr=>
 (cP 2 pF.nd aE<|d7 (c17 3 (.inl ⟨rfl,rfl⟩) vX rfl rfl rfl rfl (b73 hJ hr ac rfl (λ_=>(aQ 0<|aQ 1 aB))) (λa oe x ho hx=>(cU<|a40 2 pF.nd<|aM dA (aT 2)<|iQ cu_int rfl Z.z11 bP7 (aF (oR (b20 3 KX_NoPrime (aL ..) ho hx (pv 3) (bO7 rfl d6) rfl ki_NoPrime_NoPrime rfl Z.z10)<|oR (b20 3 KX_NoPrime (aL ..) ho hx (pv 3) (a80 rfl Z.z14 aE0) rfl ki_NoPrime_ValueError rfl Z.z10)<|oQ<|bH7<|b20 3 KX_NoPrime (aL ..) ho hx (pv 3) (bO7 rfl pK) rfl ki_NoPrime_NotTwo rfl Z.z10) aB))) rfl iN (.inl mJ) d6 (hV _ ac _ d6) pF.nd rfl rfl (il (n:=4) rfl ac))<|d7 (c19 vX rfl rfl rfl rfl (b73 xX hr ac rfl (λ_=>(aQ 0<|aQ 1 aB))) (λ_=>(cU<|a40 2 pF.nd<|aM dA (aT 2) aE)) rfl d6 (.inl gC) d6 (j3 _ ac _ d6))<|gD<|a41 fW (aT 2) aE)
theorem c41 (Z:Zs mg)(aQ3:bT3<$>P)(xY:c37<$>P)(gU:uU<$>P)(tD:aE7<$>P)(uY:aP9<$>P)(a14:b40<$>P)(bT7:TF_far<$>P)(a15:b42<$>P)(bT8:TF_due<$>P)(iY:vS<$>P)(aD2:bE7<$>P)(vD:aY0<$>P)(a16:b39<$>P):DT<$>bA3 "law" uS 8 aP7:=λhr=>
 (cP 1 fV.nd (fU aQ3 hr<|aF (fU xY hr<|aQ 0<|bM aB)<|bM aB) (by refine WS.out ?_;exact ws_lw (aM5 (jT<|jT<|jT p5)<|aM5 (jT<|jT<|jT p5)<|aM5 (jT<|jT<|jT p5)<|aM5 (jT<|jT<|jT p5)<|aM5 (jT<|jT<|jT p5)<|aM5 (jT<|jT<|jT p5)<|aM5 (jT<|jT<|jT p5)<|aM5 (jT<|jT<|jT p5)<|aM5 (jT<|jT<|jT p5) p5) (ws_of<|cP 2 fV.nd (aM dA (aT 2)<|dG<|lU (dL<|bM<|bM<|bM aB)<|lU (dL<|bM<|bM<|bM aB)<|lU (dL<|bM<|bM<|bM aB)<|lU (dL<|bM<|bM<|bM aB)<|lU (dL<|bM<|bM<|bM aB) aB)<|cP 3 fV.nd (fU gU hr<|aF (fU xY hr<|aQ 0<|bM aB)<|aF (by refine WE.out ?_;exact(we_l<|jT<|jT<|jT p5))<|bM aB)<|cP 4 fV.nd (dX (cM 2)<|dX (cM 3) aE)<|d7 (aL6 (fU tD hr<|aF (fU xY hr<|aQ 0<|bM aB)<|bM<|aQ 1<|bM aB)<|c01 rfl (fF 5 (eX fV.nd rfl (Or.inl rfl))<|fF 6 (eX fV.nd rfl (Or.inl rfl))<|fF 7 (eX fV.nd rfl (Or.inl rfl))<|fF 8 (eX fV.nd rfl (Or.inl rfl)) v7) (dY<|dY<|dY<|dY qJ))<|cP 9 fV.nd (dL<|aF (aM dH (aM iI (aM cA (aT 7)<|aT 7)<|aT 8)<|aT 1)<|aF (aM dH (aM cA (mQ aE)<|aT 7)<|aT 1)<|bM aB)<|kC (kY fW (aT 1) aE) (cU<|a40 9 fV.nd<|dL<|bM<|bM<|bM aB)<|cP 10 fV.nd (dL<|bM aB)<|d7 (a91 11 fV.nd (pX<|aM dA (aM dA (aM cA (dG<|lU (dL<|aF (aM dH (mQ<|aT 5)<|aT 1)<|bM aB) aB)<|dX (cM 4) aE)<|aM cA (dG<|lU (dL<|aF (aM dH (mQ<|aT 6)<|aT 1)<|bM aB) aB)<|dX (cM 4) aE)<|aM cA (dG<|aQ 9 aB)<|dX (cM 4) aE)<|cU<|a40 10 fV.nd<|fU uY hr<|aQ 10<|aQ 11<|aQ 1 aB)<|cP 12 fV.nd (iQ qH rfl Z.z6 lW (aF (aM dA (fU a14 hr<|aF (aG4 (aT 10) tZ<|u4<|mQ aE)<|aQ 1<|aF (fU xY hr<|aQ 0<|bM aB)<|bM aB)<|dG<|bM aB) aB))<|kC (kY fW (dX (cM 3) aE) aE) (cP 13 fV.nd (fU bT7 hr<|aF (fU xY hr<|aQ 0<|bM aB)<|bM<|aF (aM pY aE aE)<|bM aB)<|cP 14 fV.nd (dX (a19<|dG<|bM<|bM<|bM<|bM<|c53 (mQ<|eH bJ3 rfl Z.z15 bP6 (aQ 13 aB))<|aF (aM dA aE<|aM cA (eH bJ3 rfl Z.z15 bP6 (aQ 13 aB)) aE) aB)<|dX (cM 3) aE)<|gD<|fU a15 hr<|aQ 12<|aQ 14 aB)<|cP 15 fV.nd (fU bT8 hr<|aQ 1<|aQ 5<|aQ 6<|aQ 7<|aQ 8<|aQ 4 aB)<|cP 16 fV.nd (fU iY hr<|aQ 12<|aQ 1 aB)<|kC (PUW.pt<|pw_orU (y8<|aF8<|eH zJ rfl Z.z10 gY (aQ 16<|aF (a80 rfl Z.z2 aN9) aB))<|bW7<|y8<|aF8<|eH (a83 rfl) rfl Z.z8 a84 (aF (vK ["_law_row",".acc"] (aI uS).names bA3 (pX<|aT 16) (λ_ _ _ _ _ _=>lH) λ_ _ _ _ _ _=>(oR (eH zJ rfl Z.z10 gY (aQ 0<|aF (a80 rfl Z.z6 lW) aB))<|oQ<|a41 fW (eZ (cM 0) rfl Z.z0) aE)) aB)) (gD b56)<|kC (y8<|aF8<|eH (a83 rfl) rfl Z.z8 a84 (aF (vK ["_law_row","_law_p",".acc"] (aI uS).names bA3 (pX<|aT 16) (λ_ _ _ _ _ _=>lH) λ_ _ _ _ _ _=>(oR (fU aD2 hr<|aF (dX (cM 0) aE)<|aQ 1 aB)<|oQ<|fU vD hr<|aF (dX (cM 0) aE) aB)) aB)) (gD b56)<|cP 17 fV.nd (fU a16 hr<|aQ 12<|aQ 1 aB)<|gD<|oR (a41 (bK7 hr.units) (aT 16)<|aT 15)<|oR (eH zJ rfl Z.z10 gY (aQ 17<|aF (a80 rfl Z.z12 b75) aB))<|oQ<|a41 fW (aT 17)<|oR (a41 fW (eZ (cM 15) rfl Z.z0) aE)<|oQ<|a41 fW (dX (a19<|dX (cM 15) aE) aE) aE) fV.nd))
theorem a51 (Z:Zs mg){bD:Addr}(d6:mg "NoPrime"=some (.ref bD))(gC:excIn K bD bmV vN=true)(eJ:pV<$>P)(hG:uT<$>P)(cH:lL<$>P)(dQ:nG<$>P){f:Addr}{cdv:Value}{A:Around}{outer:List Env}{s:Shared}{H:Hp}{E:XK}(hr:gR 5 (A.deeper<|envOfC "split_by" (aI fJ) s.heap.objs.size f cdv)) :
  tM (sM (CXr P w base) P w K mg base t5 "split_by" (aI fJ) f cdv A outer s H E) E (eY fJ) pE:=
 (b70 (ux_if (aL2 aS4 (mO 1<|pv 1) (aM1 eJ hr ac rfl) rfl) (ux_one<|bO1 vX gC rfl d6 rfl (aF pu_str aB) throwX rfl) ux_nil)<|a95<|d7 (aL6 (b64 hG hr ac rfl (aF (b64 cH hr ac rfl (aF (mO 0<|pv 0)<|aF (mO 1<|pv 1) aB))<|aF (mO 1<|pv 1) aB))<|a72 rfl (fF 2 (eX gZ.nd rfl (Or.inl rfl))<|fF 3 (eX gZ.nd rfl (Or.inl rfl)) v7) (dY<|dY qJ))<|cU<|aZ7<|aM dA (mO 2<|pv 2)<|b64 dQ hr ac rfl (aF (mO 3<|pv 3)<|aF (mO 1<|pv 1) aB))
theorem aQ1 (Z:Zs mg)(hJ:FnX<$>"split_by" lK 6 g9){f:Addr}{cdv:Value}{A:Around}{outer:List Env}{s:Shared}{H:Hp}{E:XK}(hr:gR 6 (A.deeper<|envOfC "stays" (aI jR) s.heap.objs.size f cdv)) :
  tM (sM (CXr P w base) P w K mg base a06 "stays" (aI jR) f cdv A outer s H E) E (eY jR) uM:=
 (b70 (ux_set 2 hJ hr ac passX rfl (aF (mO 0<|pv 0)<|aF (mO 1<|pv 1) aB) t6.nd rfl (Or.inl rfl) (hl:=il (n:=3) rfl ac))<|a95<|cU<|aZ7<|oR (aZ5 fW (eZ (aZ4 2<|pv 2) rfl Z.z0) aE<|aK3 _)<|oQ<|aZ5 fW (bI9 (a19<|bI9 (aZ4 2<|pv 2) aE λ_ _=>rfl) aE λ_ _=>rfl) aE<|aK3 _)
end
theorem lC {P:List Value->Prop}{n:Nat}(h: ∀a us,us.length=n->P (a::us)): ∀us:List Value,us.length=n+1->P us:=λus=>us.casesOn (λe=>nomatch e) λa us e=>h a us (Nat.succ.inj e)
theorem lN0 {P:List Value->Prop}(h:P []): ∀us:List Value,us.length=0->P us:=λus=>us.casesOn (λ_=>h) λ_ _ e=>nomatch e
local macro_rules| `(tactic| walk_at "b0")=> `(tactic| exact λ_ _ _ _ _ _=>lN0 rfl)
theorem lN1 {P:List Value->Prop}(h: ∀a0,P [a0]): ∀us:List Value,us.length=1->P us:=lC λa0=>lN0 (h a0)
local macro_rules| `(tactic| walk_at "b1")=> `(tactic| exact λ_ _ _ _ _ _=>lN1 λ_=>rfl)
theorem lN2 {P:List Value->Prop}(h: ∀a0 a1,P [a0,a1]): ∀us:List Value,us.length=2->P us:=lC λa0=>lC λa1=>lN0 (h a0 a1)
local macro_rules| `(tactic| walk_at "b2")=> `(tactic| exact λ_ _ _ _ _ _=>lN2 λ_ _=>rfl)
theorem lN3 {P:List Value->Prop}(h: ∀a0 a1 a2,P [a0,a1,a2]): ∀us:List Value,us.length=3->P us:=lC λa0=>lC λa1=>lC λa2=>lN0 (h a0 a1 a2)
local macro_rules| `(tactic| walk_at "b3")=> `(tactic| exact λ_ _ _ _ _ _=>lN3 λ_ _ _=>rfl)
theorem lN4 {P:List Value->Prop}(h: ∀a0 a1 a2 a3,P [a0,a1,a2,a3]): ∀us:List Value,us.length=4->P us:=lC λa0=>lC λa1=>lC λa2=>lC λa3=>lN0 (h a0 a1 a2 a3)
local macro_rules| `(tactic| walk_at "b4")=> `(tactic| exact λ_ _ _ _ _ _=>lN4 λ_ _ _ _=>rfl)
theorem lN6 {P:List Value->Prop}(h: ∀a0 a1 a2 a3 a4 a5,P [a0,a1,a2,a3,a4,a5]): ∀us:List Value,us.length=6->P us:=lC λa0=>lC λa1=>lC λa2=>lC λa3=>lC λa4=>lC λa5=>lN0 (h a0 a1 a2 a3 a4 a5)
local macro_rules| `(tactic| walk_at "b6")=> `(tactic| exact λ_ _ _ _ _ _=>lN6 λ_ _ _ _ _ _=>rfl)
local macro_rules| `(tactic| walk_at "n")=> `(tactic| (intro _ _ h;repeat (first| (obtain⟨e,_⟩:=h;subst e;rfl)|obtain⟨_,h⟩:=h)))
structure FD where
 oc:Value
 od:Option Addr
 kV:Value
 dc:Value
 pm:Value
 an:Option Addr
 cd:Value
 ct:Value
 sl:Array (Option Value)
abbrev j6 (K:PySem.W.Frag)(x y:Str)(s:Stmt)(f:Addr):Prop:= ∃d:FD,nsIn K mainGlobals y=some (some<|.ref f)/\K.lookup f=some ⟨d.oc,d.od,.func<|fnOf x x (nJ s) (eY s) (aI s) .none d.kV d.dc d.pm d.an d.cd d.ct,d.sl⟩/\codeIn K d.cd x=true/\keepIn K (.ref f)=true
theorem fnAt {K:PySem.W.Frag}{x y:Str}{s:Stmt}{f:Addr}{oc:Value}{od:Option Addr}{kV dc pm:Value}{an:Option Addr}{cd ct:Value}{sl:Array (Option Value)}(a:nsIn K mainGlobals y=some (some<|.ref f))(b:K.lookup f=some ⟨oc,od,.func<|fnOf x x (nJ s) (eY s) (aI s) .none kV dc pm an cd ct,sl⟩)(c:codeIn K cd x=true)(k:keepIn K (.ref f)=true):j6 K x y s f:=⟨⟨oc,od,kV,dc,pm,an,cd,ct,sl⟩,a,b,c,k⟩
theorem bT5 {K:PySem.W.Frag}{x y:Str}{s:Stmt}{f:Addr}(p:j6 K x y s f): ∃fd,Fun K x x s f fd/\nsIn K mainGlobals y=some (some<|.ref f):=let ⟨_,a,b,c,k⟩:=p;⟨_,bH5 b c k,a⟩
section
variable {P:Program}{w:World}{K:PySem.W.Frag}{mg:Str->Option Value}{base h:Heap}(X:K.In h)(G:h.Ns mainGlobals mg){x y:Str}{st:Stmt}{f:Addr}{N ps:List Str}{k:Nat}(p:j6 K x y st f)(b: ∀(kV doc pm:Value) (an:Option Addr) (cdv ct:Value) (us:List Value),us.length=ps.length->bindArgs (fnOf x x (nJ st) (eY st) (aI st) .none kV doc pm an cdv ct) ⟨us,[]⟩=pure (ps.zip us))(S:bN N ps (aI st))
include X G p b S
theorem fn_b {φ:Φ}(len: ∀ds Q,φ ds Q->ds.length=ps.length){t:US}(der:DT<$>N x st k t)(rd: ∀ds Q,φ ds Q->t {Q with} (init N ds)):Fn<$>y ps (k+1) φ:=
 let ⟨_,U,m⟩:=bT5 p
 Fn.mkA U (jH X G m) (U.binds b) S len (λ_ _ _ _ _ _=>der) rd
theorem fnX_b {φ:ΦX}(q:x=y)(len: ∀ds Q Ex,φ ds Q Ex->ds.length=ps.length){t:USX}(der: ∀(cdv:Value) (A:Around) (outer:List Env) (s:Shared) (H:Hp) (E:XK),gR k (A.deeper<|envOfC x (aI st) s.heap.objs.size f cdv)->tM (sM (CXr P w base) P w K mg base N x (aI st) f cdv A outer s H E) E (eY st) t)(rd: ∀ds Q Ex,φ ds Q Ex->t Ex {Q with} (init N ds)):FnX<$>y ps (k+1) φ:=
 let ⟨_,U,m⟩:=bT5 p
 q▸FnX.mk' U (jH X G<|q▸m) (U.binds b) S len der rd
end
theorem all_mk {l:PySem.W.OpenLaw}{w:World}{K:PySem.W.Frag}{h:Heap}{mg:Str->Option Value}{fa f1 f2 f3 f4 f5 f6 f7 f8 f9 f10 f11 f12 f13 f14 f15 f16 f17 f18 f19 f20 f21 f22 f23 f24 f25 f26 f27 f28 f29 bD mK gG gB:Addr}(X:K.In h)(G:h.Ns mainGlobals mg)(hfa:mg "law"=some (.ref fa))
  {a52:Option Addr} {a53:Array (Option Value)} {vE bT9:ClassData} {a17:Array Value} {n_SMALL_PRIMES:Nat}
  (P1:j6 K "cut" "cut" yS f1)
  (P2:j6 K "poly_parted" "poly_parted" gW f2)
  (P3:j6 K "poly_at" "poly_at" mE f3)
  (P4:j6 K "mod_poly" "mod_poly" iX f4)
  (P5:j6 K "mod_parted" "mod_parted" iK f5)
  (P6:j6 K "scaled" "scaled" lD f6)
  (P7:j6 K "inverse_of" "inverse_of" iL f7)
  (P8:j6 K "small_primes" "small_primes" gA f8)
  (P9:j6 K "split_by" "split_by" fJ f9)
  (P10:j6 K "stays" "stays" jR f10)
  (P11:j6 K "lines_out" "lines_out" j5 f11)
  (P12:j6 K "rootless_parts" "rootless_parts" dP f12)
  (P13:j6 K "two_by_two" "two_by_two" iM f13)
  (P14:j6 K "_law_mixed" "_law_mixed" yU f14)
  (P15:j6 K "_law_draws" "_law_draws" yV f15)
  (P16:j6 K "_law_primes" "_law_primes" qX f16)
  (P17:j6 K "_law_prime" "_law_prime" yW f17)
  (P18:j6 K "_law_cell" "_law_cell" aB9 f18)
  (P19:j6 K "_law_mod_places" "_law_mod_places" k8 f19)
  (P20:j6 K "_law_cut" "_law_cut" aX3 f20)
  (P21:j6 K "_law_mod_times" "_law_mod_times" mI f21)
  (P22:j6 K "_law_written" "_law_written" nT f22)
  (P23:j6 K "_law_far" "_law_far" aX4 f23)
  (P24:j6 K "_law_whole" "_law_whole" yZ f24)
  (P25:j6 K "_law_is_poly" "_law_is_poly" nU f25)
  (P26:j6 K "_law_is_mod" "_law_is_mod" qY f26)
  (P27:j6 K "_law_due" "_law_due" aC3 f27)
  (P28:j6 K "_law_refused" "_law_refused" qZ f28)
  (P29:j6 K "law" "law" uS f29)
  (d6:nsIn K mainGlobals "NoPrime"=some (some<|.ref bD))
  (pK:nsIn K mainGlobals "NotTwo"=some (some<|.ref mK))
  (iN:nsIn K mainGlobals "RingError"=some (some<|.ref gG))
  (gC:excIn K bD [.type "ValueError",.type "Exception",.type "BaseException",.type "object"] "ValueError.__new__"=true)
  (zD:excIn K mK [.type "ValueError",.type "Exception",.type "BaseException",.type "object"] "ValueError.__new__"=true)
  (mJ:excIn K gG [.type "ValueError",.type "Exception",.type "BaseException",.type "object"] "ValueError.__new__"=true)
  (lF:PySem.W.clsIn K bD=some vE)
  (aK0:PySem.W.clsIn K mK=some bT9)
  (iO:(vE).mro.contains (.ref gG)=true)
  (jO:(vE).mro.contains (.ref bD)=true)
  (se_NoPrime:(vE).mro.contains (.ref bD)=true)
  (kg_NoPrime:PySem.W.findIn K (.ref bD) "__getattribute__"=some (some<|.builtin "BaseException.__getattribute__"))
  (kh_NoPrime:PySem.W.findIn K (.ref bD) "__getattr__"=some none)
  (ka_NoPrime:PySem.W.findIn K (.ref bD) "__class__"=some (some<|.builtin "object.__class__"))
  (kn_NoPrime:PySem.W.specialIn K (.builtin "object.__class__") "__get__"=some (some<|.builtin "getset_descriptor.__get__"))
  (kt_NoPrime:PySem.W.takesIn K (.builtin "object.__class__")=some true)
  (km_NoPrime:PySem.W.mroIn K bD (.type "object")=some true)
  (kb_NoPrime:PySem.W.mroIn K bD (.type "BaseException")=some true)
  (ki_NoPrime_NoPrime:kitOne K (.ref bD) (.ref bD)=some true)
  (ki_NoPrime_ValueError:kitOne K (.ref bD) (.type "ValueError")=some true)
  (ki_NoPrime_NotTwo:kitOne K (.ref bD) (.ref mK)=some false)
  (bU0:nsIn K mainGlobals "len"=some none)
  (bU1:nsIn K mainGlobals "max"=some none)
  (b45:nsIn K mainGlobals "list"=some none)
  (xZ:nsIn K mainGlobals "reversed"=some none)
  (aQ4:nsIn K mainGlobals "range"=some none)
  (uZ:nsIn K mainGlobals "enumerate"=some none)
  (aQ5:nsIn K mainGlobals "tuple"=some none)
  (aD3:nsIn K mainGlobals "sorted"=some none)
  (bU2:nsIn K mainGlobals "all"=some none)
  (bU3:nsIn K mainGlobals "zip"=some none)
  (tE:nsIn K mainGlobals "isinstance"=some none)
  (bU4:nsIn K mainGlobals "int"=some none)
  (b46:nsIn K mainGlobals "bool"=some none)
  (bU5:nsIn K mainGlobals "set"=some none)
  (tF:nsIn K mainGlobals "ValueError"=some none)
  (bU6:nsIn K mainGlobals "abs"=some none)
  (eW:nsIn K mainGlobals "SMALL_PRIMES"=some (some<|.ref gB))
  (n5:K.lookup gB=some ⟨.type "tuple",a52,.seq a17 n_SMALL_PRIMES,a53⟩)
  (n6:a17.size<=sizeLine)
  (n8:Vals (T_SMALL_PRIMES.map V.int) a17.toList) :
  ∃fd:FuncData,(∀(s:Shared) (v:Value),BindsTo s fd ⟨[v],[]⟩ [("_law_script",v)])/\ ∀base:Heap,K.In base->base.Ns mainGlobals mg->pL l.prog w K mg base CX0 9 fa fd ["_law_script"] (spP K aR8):=by
 have h29:=P29.choose_spec;have e:=hfa.symm.trans (jH X G h29.1);cases e;have Z:Zs mg:=⟨cR X G bU0,cR X G bU1,cR X G b45,cR X G xZ,cR X G aQ4,cR X G uZ,cR X G aQ5,cR X G aD3,cR X G bU2,cR X G bU3,cR X G tE,cR X G bU4,cR X G b46,cR X G bU5,cR X G tF,cR X G bU6⟩;have eW:=jH X G eW;have pH:KT K gB (T_SMALL_PRIMES.map V.int):=kt_of n5 n6 n8;have d6:=jH X G d6;have pK:=jH X G pK;have iN:=jH X G iN
 have hV: ∀n∈(["NoPrime"]:List Str),∀C,mg n=some (.ref C)->p6 K gG C bmV vN:=by
  intro n hn C hm;simp only[aG,cY,cL]at hn;rcases hn with rfl
  . (have e:=hm.symm.trans d6;cases e;exact zS (.inl gC) lF iO)
 have j3: ∀n∈(["NoPrime"]:List Str),∀C,mg n=some (.ref C)->p6 K bD C bmV vN:=by
  intro n hn C hm;simp only[aG,cY,cL]at hn;rcases hn with rfl
  . (have e:=hm.symm.trans d6;cases e;exact zS (.inl gC) lF jO)
 have KX_NoPrime:bO4 K bD:=⟨by rw[lF];rfl,kg_NoPrime,kh_NoPrime,ka_NoPrime,kn_NoPrime,kt_NoPrime,km_NoPrime,kb_NoPrime⟩
 have U1_NoPrime:p6 K bD bD bmV vN:=zS (.inl gC) lF se_NoPrime;have U29:=bH5 (st:=uS) h29.2.1 h29.2.2.1 h29.2.2.2;refine⟨fnOf "law" "law" (nJ uS) (eY uS) (aI uS) .none P29.choose.kV P29.choose.dc P29.choose.pm P29.choose.an P29.choose.cd P29.choose.ct,λs v=> .of_eq rfl,λbase _ _=> ?_⟩
 have mB:= @fn_b l.prog w K mg base h X G;have mX:= @fnX_b l.prog w K mg base h X G;have t7:=mB P1 (by walk_at "b1") aC5 ag (bE8 Z) bQ2
 have mZ:=mB P2 ah cO ag (zB Z t7) zU
 have uX:=mB P3 ah nO ag (aE8 Z) aO5
 have cH:=mB P4 ah aE5 ag (aC9 Z t7) aE1
 have pG:=mB P7 ah j7 ag (a11 Z) a43
 have t9:=mB P6 (by walk_at "b3") aX6 ag (aQ0 Z cH) aV1
 have pI:=mB P5 (by walk_at "b3") gX ag (a10 Z cH pG mZ t9) a44
 have eJ:=mB P8 (by walk_at "b0") zA ag (xW Z eW pH) yP
 have hG:=mB P11 ah eV ag (a50 Z uX pI) aB1
 have pJ:=mB P13 ah fA ag (a12 Z) a45
 have dQ:=mB P12 ah nF ag (uW Z pJ) vF
 have iY:=mB P9 ah gZ ag (aD0 Z eJ hG cH dQ) aE3
 have a16:=mB P10 ah t6 ag (aY1 Z iY) b33
 have aQ2:=mB P14 (by walk_at "b3") aC6 ag (bE9 Z) bP1
 have gU:=mB P15 (by walk_at "b3") r6 ag (bF0 Z aQ2) bP2
 have zC:=mB P16 (by walk_at "b0") bE4 ag (b43 Z) bD8
 have aQ3:=mB P17 ah aX7 ag (bF1 Z gU zC) bQ5
 have xY:=mB P18 ah c36 ag (bT4 Z) c20
 have tD:=mB P19 (by walk_at "b4") aE6 ag (aD1 Z gU) aE2
 have bT6:=mB P20 (by walk_at "b1") b37 ag (c38 Z) rd_cut
 have uY:=mB P21 (by walk_at "b3") nP ag (aE9 Z bT6) aO3
 have a14:=mB P22 (by walk_at "b4") xV ag (aY2 Z gU) b31
 have bT7:=mB P23 (by walk_at "b4") aC7 ag (c39 Z gU) rd_far
 have vD:=mB P24 (by walk_at "b1") bT1 ag (bF2 Z) bP5
 have a13:=mB P25 (by walk_at "b1") b38 ag (aY3 Z vD) b24
 have aD2:=mB P26 ah bE5 ag (b44 Z a13) bD9
 have bT8:=mB P27 (by walk_at "b6") aC8 ag (c40 Z) rd_due
 have hJ:=mX P9 ah gZ rfl a46 (λ_ _ _ _ _ _ hr=>a51 Z d6 gC eJ hG cH dQ hr) aB2
 have xX:=mX P10 ah t6 rfl aO8 (λ_ _ _ _ _ _ hr=>aQ1 Z hJ hr) aV8
 have a15:=mB P28 ah pF ag (aY4 Z iN mJ d6 gC pK zD hV j3 KX_NoPrime U1_NoPrime ki_NoPrime_NoPrime ki_NoPrime_ValueError ki_NoPrime_NotTwo hJ xX) b34
 exact aM0 U29 fV c21 (λcdv A outer s H E hr=>⟨aP7,c41 Z aQ3 xY gU tD uY a14 bT7 a15 bT8 iY aD2 vD a16 hr,rd_law⟩)
end M
open PySem PySem.W PyProof.Rows
local macro_rules| `(tactic| walk_at "f")=> `(tactic| (refine' M.fnAt ?x1 ?x2 ?x3 ?x4;(case x1=>k_is);(case x2=>k_is);(case x3=>k_is);(case x4=>k_is)))
namespace PySem.W.Fast
def tw4516777077779088187:=()
def tw4837620402190222295:=()
def tw12423691830459188886:=()
def tw5884970286153369585:=()
def tw8293199960439048838:=()
def tw4836274838275209160:=()
def tw8512916209051943940:=()
def tw3459319488746394545:=()
def tw927852239364135980:=()
def tw16679749026803682136:=()
def tw6741286414543027832:=()
def tw7148903753515649284:=()
def tw4411131282350440000:=()
def tw13167519905252121513:=()
def tw12937354223996566104:=()
def tw10817450120684110024:=()
def tw8413203688210740059:=()
def tw15217567884610203471:=()
def tw16615087836468939695:=()
def tw9851458769020594168:=()
def tw13830683184066158910:=()
def tw11468365200036063580:=()
def tw733999440919390692:=()
def tw8233488511170881716:=()
def tw181576298327003737:=()
def tw3900008274525340344:=()
def tw15778792225502373522:=()
def tw3542280242680255212:=()
def tw14425902781813343573:=()
def tw15394747389911740096:=()
def tw16083818349216587598:=()
def tw15753998348157943460:=()
def tw17942471060177491186:=()
def tw11105834959730856610:=()
def tw3952765127328779712:=()
def tw10294391674860053036:=()
def tw11643507092884680888:=()
def tw5883865064437498429:=()
def tw12877757050246138310:=()
def tw9797091917562313100:=()
def tw1854780345617275925:=()
def tw4918430488446214334:=()
def tw4369208508351768257:=()
def tw17750729357434959672:=()
def tw7798842575688611785:=()
def tw18407373713960960537:=()
def tw1996866759072052757:=()
def tw13257097410582068916:=()
def tw11634299753230267733:=()
def tw3054591803250138782:=()
def tw15408431744656672434:=()
def tw8068768551020012705:=()
def tw11369705794543689077:=()
def tw11761619512108729266:=()
def tw15917260876341908151:=()
def tw12789642705622262076:=()
def tw8059290616333792983:=()
def tw12489630185754453431:=()
def tw16326793841179217761:=()
def tw13681469441923132510:=()
def tw14450962169750003935:=()
def tw3222402750443191240:=()
def tw1004797064830404817:=()
def tw4840516337159330987:=()
def tw12619077636246778497:=()
def tw15573516265389546717:=()
def tw2934665087676599104:=()
def tw2942840938950136281:=()
def tw6906743161372787891:=()
def tw8755146638024580616:=()
def tw15229965046982231256:=()
def tw8229141185885754833:=()
def tw8502605201618108260:=()
def tw14070502989560365733:=()
def tw9776227400447846096:=()
def tw18094223785131688755:=()
def tw7750098526657630642:=()
def tw13181985482016032360:=()
def tw8421219418315490759:=()
def tw4187674317553374891:=()
def tw18339828302177213391:=()
def tw4974188971699233454:=()
def tw10696119319610410067:=()
def tw14089599671108517119:=()
end PySem.W.Fast
set_option maxRecDepth 100000 in
set_option maxHeartbeats 0 in
theorem PySem.Challenge.cw_ringhouse_k09_split_known_holds : PySem.Challenge.rw_ringhouse_k09_split_known.Holds := by
 w_on;o_law;k_head;(case hw=>w_witness2)
 k_fill
 refine M.walkM (l:=PySem.Challenge.rw_ringhouse_k09_split_known) (k:=9) (x:="_law_script") rfl rfl ⟨rfl,ac,ac⟩ (λw h Y=>PySem.W.kIn_of Y) ?F
 case F=>
  intro w mg fa h KX G hmg
  refine' M.all_mk KX G hmg ?P1 ?P2 ?P3 ?P4 ?P5 ?P6 ?P7 ?P8 ?P9 ?P10 ?P11 ?P12 ?P13 ?P14 ?P15 ?P16 ?P17 ?P18 ?P19 ?P20 ?P21 ?P22 ?P23 ?P24 ?P25 ?P26 ?P27 ?P28 ?P29 ?d6 ?pK ?iN ?gC ?zD ?mJ ?lF ?aK0 ?iO ?jO ?se_NoPrime ?kg_NoPrime ?kh_NoPrime ?ka_NoPrime ?kn_NoPrime ?kt_NoPrime ?km_NoPrime ?kb_NoPrime ?ki_NoPrime_NoPrime ?ki_NoPrime_ValueError ?ki_NoPrime_NotTwo ?bU0 ?bU1 ?b45 ?xZ ?aQ4 ?uZ ?aQ5 ?aD3 ?bU2 ?bU3 ?tE ?bU4 ?b46 ?bU5 ?tF ?bU6 ?eW ?n5 ?n6 ?n8
  (case P1|P2|P3|P4|P5|P6|P7|P8|P9|P10|P11|P12|P13|P14|P15|P16|P17|P18|P19|P20|P21|P22|P23|P24|P25|P26|P27|P28|P29=>walk_at "f");(case d6|pK|iN|lF|aK0|kg_NoPrime|kh_NoPrime|ka_NoPrime|kn_NoPrime|kt_NoPrime|km_NoPrime|kb_NoPrime|bU0|bU1|b45|xZ|aQ4|uZ|aQ5|aD3|bU2|bU3|tE|bU4|b46|bU5|tF|bU6|eW|n5=>k_is);(case gC|zD|mJ=>k_exc);(case iO|jO|se_NoPrime=>first|kernel_rfl|rfl|decide);(case ki_NoPrime_NoPrime|ki_NoPrime_ValueError|ki_NoPrime_NotTwo=>first|k_is|kernel_rfl|rfl);(case n6=>first|decide| (trace_state;decide +kernel));(case n8=>first| (show L2.Vals (List.map _ _) (List.toList _);simp only[M.T_SMALL_PRIMES,List.map];repeat (first|exact .nil|refine .cons (.int _ _) ?_))| (repeat constructor)|trace_state)
