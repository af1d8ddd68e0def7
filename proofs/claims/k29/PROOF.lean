import PyProof.Rows.All
import Wide.All
import OpenK.AllK
import Wide.FinOn
import Lean
import PyProof.EqAt
import PyProof.EqKinds
import PyProof.TupleCall
import PySem.Challenge.RW_ringhouse_k29_what_is_an_ideal
set_option Elab.async false
set_option linter.all false
open PySem.W (instObj methodObj Frag lookIn InstAt plainGet hasDictIn findIn plainOver takerIn makesIn emptyDict keepIn fnOf codeIn excIn clsIn nsIn)
open List (set_cons_zero set_cons_succ set_comm replicate length foldl nodup_nil set_set Nodup)
open Nat (le_of_eq mul_comm pow_succ add_le_add)
open Int (le_of_lt pow_zero toNat)
open PySem.Heap (SameBut ExtBut FlyingW HeldW MadeExcOf)
open Option (getD_none bind_some)
open Array (toList)
set_option maxRecDepth 100000
set_option compiler.extract_closed false
set_option bootstrap.genMatcherCode false
local macro_rules | `(tactic| walk_at "z") => `(tactic| first|exact .inl rfl|exact .inr rfl|assumption)
def aa{p:Prop}(h:p:=by omega):p:=h
def ac{p:Prop}(h:p:=by decide):p:=h
def ad{p:Prop}(h:p:=by lia):p:=h
def ae{p:Prop}(h:p:=by simp):p:=h
def af{p:Prop}(h:p:=by decide +kernel):p:=h
def al{p:Prop}(h:p:=by rfl):p:=h
local macro_rules|`(↥$t)=>`(autoParam $t al._auto_1)|`(⇑$t)=>`(autoParam $t ac._auto_1)
local macro_rules|`(nonrec def $i:declId $s:optDeclSig $v:declVal)=>`(noncomputable def $i:declId $s:optDeclSig $v:declVal)
local macro_rules|`($x∩$e $s*)=>`(PySem.wpAny (PySem.model ($x).prog ($x).w) ($x).A $e $s*)
local macro_rules|`($x∪0)=>`(($x==("__debug__":PySem.Str))=false)
local macro_rules|`({$q:ident with})=>`({nx:=λ_=>$q (.pu .non),rt:=$q})
local macro_rules|`(@$n:num)=>`($(Lean.mkIdent `M.uC) (.int $n))
local macro_rules|`($f<$>$x:ident)=>`($f $x $(Lean.mkIdent `w) $(Lean.mkIdent `K) $(Lean.mkIdent `mg) $(Lean.mkIdent `base))|`($f<$>$g $s*)=>`($f $(Lean.mkIdent `P) $(Lean.mkIdent `w) $(Lean.mkIdent `K) $(Lean.mkIdent `mg) $(Lean.mkIdent `base) $g $s*)
local macro_rules|`(tactic|exists $t)=>`(tactic|simpa using $t)
local macro_rules|`(tactic|right)=>`(tactic|dsimp only)
def ag{p:Prop}(h:p:=by walk_at "n"):p:=h
def ah{p:Prop}(h:p:=by walk_at "b2"):p:=h
def aO:= @List.getD_eq_getElem?_getD
def a9:= @PySem.wpAny_bind
def aS:= @List.getElem?_eq_getElem
def aG:= @List.length_map
def a7:= @if_neg
def aH:= @Nat.le_trans
def aV:= @PySem.Heap.get?_push_of_some
def aA:= @if_pos
def aK:= @Nat.le_refl
def aP:= @PySem.wpAny_pure
def aZ:= @List.getElem?_map
def b9:= @Nat.lt_of_lt_of_le
def bD:= @List.size_toArray
def bE:= @Int.toNat_natCast
def aW:= @PySem.Heap.lt_size
def bQ:= @Nat.zero_lt_succ
def bB:= @List.mem_cons
def cD:= @PySem.Heap.get?_push_size
def cB:= @List.length_append
def bT:= @List.map_append
def cN:= @Nat.pow_le_pow_right
def cK:= @Bool.false_ne_true
def bM:= @Nat.ne_of_lt
def cE:= @List.getElem_mem
def bZ:= @List.mem_range
def cL:= @List.all_eq_true
def bU:= @List.mem_map
def cQ:= @Bool.and_eq_true
def dG:= @Int.emod_lt_of_pos
def cR:= @List.mem_append
def cS:= @List.range_succ
def cZ:= @List.length_set
def gG:= @List.getElem?_eq_some_iff
def dP:= @List.length_cons
def eZ:= @List.mem_append_right
def d8:= @Int.emod_nonneg
def fA:= @List.getElem?_eq_none
def cF:= @Int.zero_add
def bW:= @PySem.wpAny_mono
def eE:= @PySem.W.mg_none_of
def dQ:= @List.lookup_cons
def fB:= @List.mem_cons_of_mem
def fX:= @List.mem_of_getElem?
nonrec def dA:= @PySem.W.mg_of
def fE:= @List.mem_singleton
def eF:= @decide_eq_false
def eG:= @Option.some.inj
def dW:= @Int.natAbs_mul
def iW:= @List.getElem?_append_left
def jV:= @PyProof.Rows.callWith_type1
def fF:= @List.not_mem_nil
def fG:= @List.ext_getElem
def fY:= @decide_eq_true_eq
def dX:= @Nat.lt_irrefl
def dY:= @List.map_cons
def jW:= @List.getElem?_append_right
def iD:= @List.length_replicate
def dI:= @PySem.wpAny_field
def dZ:= @List.map_map
def fH:= @Bool.false_and
def fJ:= @Nat.mul_le_mul
def cT:= @And.right
def eH:= @Nat.zero_le
def kR:= @PySem.wpAny_callSpecial?_slot
def gH:= @decide_eq_true
def iE:= @PySem.PassesOwn.never
def kS:= @PySem.Heap.get?_none_of_le
def iX:= @PySem.wpAny_call_entry
def gU:= @Bool.true_and
def tU:= @List.eraseIdx_eq_take_drop_succ
def jX:= @PySem.wpAny_newObj_type
def jY:= @List.length_range
def kT:= @List.mem_cons_self
def iY:= @PySem.Heap.size_push
def pJ:= @List.getElem?_replicate
def kU:= @PySem.wpAny_truthy_bool
def kW:= @Nat.lt_succ_of_lt
def eI:= @or_false
def kX:= @PySem.wpAny_loadPart'
def nE:= @List.filterMap_cons
def iZ:= @PySem.wpAny_holding
def gI:= @beq_iff_eq
def j3:= @List.map_take
def zH:= @PySem.F.slot_tuple_iterator_next
def pK:= @PySem.Heap.get?_update_self
def nF:= @Nat.lt_of_le_of_lt
def tV:= @Int.natAbs_ediv_le_natAbs
def zI:= @PyProof.Rows.slot_tuple_getitem
def pL:= @List.mem_append_left
def pM:= @PySem.wpAny_loadName_local
def fK:= @congrArg
def kY:= @List.append_nil
def kZ:= @Nat.min_eq_left
def tW:= @List.mem_of_mem_eraseIdx
def nG:= @PySem.wpAny_loadPart_at
def nI:= @Int.emod_eq_of_lt
def tX:= @List.length_eq_zero_iff
def tY:= @List.getElem?_cons_zero
def pN:= @beq_eq_false_iff_ne
def pO:= @PySem.mem_of_lookup
def nJ:= @List.length_take
def nK:= @List.length_drop
def fZ:= @if_false
def l4:= @Bool.false_xor
def l6:= @PySem.wpAny_seqItems
def j5:= @Nat.pow_add
def pP:= @PySem.wpAny_Call_Name_kw
def pQ:= @PySem.Obj.data_mapFields
def pR:= @PySem.wpAny_setField_rec
def bE9:= @set_cons_zero
def bF0:= @set_cons_succ
def jZ:= @Int.mul_zero
def nL:= @PySem.wpAny_execs_nil
def nM:= @PySem.wpAny_passesOwn
def nN:= @List.length_nil
def zJ:= @List.length_eraseIdx_of_lt
def zK:= @PySem.F.excBase_ValueError
def pS:= @PySem.Heap.get?_push_ne
def pT:= @List.ext_getElem?
def j6:= @PySem.call_meets
def zL:= @List.mem_or_eq_of_mem_set
def k7:= @PySem.wpAny_of_eq
def pU:= @Nat.lt_succ_self
def l7:= @List.map_set
def tZ:= @PyProof.Rows.call_isinstance_yes
def u4:= @PySem.Heap.SameBut.update
def u5:= @List.map_congr_left
def u6:= @Nat.mul_le_mul_left
def aN0:= @PySem.plainObj_wpAny_Assign_Attribute
def zM:= @PySem.F.plainAttrs_list
def nO:= @PySem.wpAny_standAt
def nP:= @List.map_drop
def u7:= @PySem.W.of_hideAll
def zN:= @List.take_of_length_le
def u8:= @Int.natAbs_add_le
def nQ:= @Nat.le_of_lt
def nR:= @List.map_nil
def zO:= @PySem.F.slot_zip_next
def pV:= @PySem.isSubtype_type
def zP:= @PySem.builtinLookup_eq_fast
def u9:= @PySem.wpAny_execs_cons
def uA:= @PySem.Heap.size_update
def pW:= @Bool.true_xor
def zQ:= @List.replicate_succ
def zR:= @PySem.Heap.get?_update_ne
def zS:= @PySem.wpAny_isSubtype_exc
def uB:= @Bool.eq_iff_iff
def uD:= @List.nodup_cons
def aN1:= @Decidable.byContradiction
def pX:= @Nat.ne_of_gt
def aN2:= @PySem.F.args_tuple_add_2
def aN3:= @PySem.AutoSeq1.wpAny_loadPart'
def aN4:= @PySem.F.args_tuple_mul_2
def pY:= @Int.le_trans
def zT:= @Int.natCast_nonneg
def nS:= @PySem.wpAny_Name
def j7:= @if_true
def uE:= @PySem.wpAny_setField
def aN5:= @PySem.F.entry_tuple_add
def aN6:= @PySem.F.entry_tuple_mul
def aN7:= @Nat.le_mul_of_pos_right
def zU:= @PySem.wpAny_pyIter_list
def zV:= @Bool.not_eq_true'
def zW:= @of_decide_eq_true
def pZ:= @Int.mul_one
def aN8:= @PySem.wpAny_pyIter_rangeiter
def qA:= @Nat.le_succ
def aN9:= @PySem.W.cellsFrom_some
def aO0:= @PySem.F.slot_tuple_add
def aO1:= @PySem.Heap.get?_update_other
def aO2:= @PySem.F.slot_tuple_mul
def uF:= @PySem.wpAny_attempt
def aO3:= @List.length_singleton
def aO4:= @PySem.Obj.isFreed_of_fields
def qB:= @PySem.wpAny_rule
def uG:= @PySem.codeAny_mono
def zX:= @List.of_mem_zip
def qC:= @PySem.typeIs_int
def aO5:= @PySem.Calls.evalArgs_plain
def aO6:= @PySem.isinstance_false_int
def zY:= @List.forIn_cons
def aO7:= @PySem.wpAny_updateSeq_pair
def zZ:= @PySem.typeLookup_type
def aO8:= @Nat.mul_le_mul_right
def aO9:= @Nat.pow_lt_pow_right
def uH:= @Int.mul_comm
def uI:= @Nat.sub_self
def a00:= @Bool.or_eq_true
def aP0:= @List.forall_mem_cons
def aP1:= @Array.length_toList
def aP2:= @PySem.W.looks_clsIn
def a01:= @Int.natAbs_neg
def a02:= @Int.mul_le_mul
def uJ:= @Nat.one_mul
def uK:= @Int.mul_pos
def aP3:= @PyProof.Rows.assignInOrder_cons
def qD:= @PyProof.Rows.IsTup.new
def aP4:= @List.mem_filterMap
def aP5:= @PySem.W.callWith_K
def aP6:= @PySem.wpAny_pyIter_tuple
def aP7:= @List.contains_cons
def aP8:= @Nat.add_sub_cancel
def a03:= @List.all_cons
def a04:= @List.any_cons
def a05:= @PySem.wpAny_onRaise
def a06:= @Int.zero_emod
def a07:= @Nat.add_assoc
def a08:= @Int.le_of_dvd
def aP9:= @List.any_eq_false
def aQ0:= @List.flatten_cons
def aQ1:= @Nat.le_succ_of_le
def aQ2:= @Int.natAbs_sub_le
def aQ3:= @Int.gcd_dvd_right
def uL:= @PySem.wpAny_call
def aQ4:= @PySem.noFill_tuple_add
def a09:= @PySem.wpAny_typeOf
def a10:= @PySem.seqIndex_neg
def aQ5:= @Nat.succ_le_succ
def aQ6:= @beq_self_eq_true
def a11:= @Int.add_zero
def a12:= @Int.zero_mul
def aQ7:= @Bool.not_eq_true
def aQ8:= @Option.getD_some
def aQ9:= @PySem.pushCells_keeps
def aR0:= @List.nil_append
def aR1:= @Int.natCast_mul
def aR2:= @List.sum_append
def aR3:= @Nat.not_lt_zero
def a13:= @PySem.seqIndex_of
open PySem PySem.Spec PyProof.Rows
section
variable {us its bmB:List Value}{a b it f t C dx R sl l l1 l2 fI:Addr}{P prog q:Program}{w:World}{h g base h':Heap}{o oe:Obj}{t' i j k n tk k' last kt:Nat}{ch fp:List Addr}{x y qual f1 f2:Str}{e c tg iter ix elt jx:Expr}{N loose XN ks:List Str}{A:Around}{E Q:Value->Shared->Prop}{u v vl vu fl:Value}{s' s:Shared}{pos pos' py tpos p apos cpos p2 spos tp p1 np:Pos}{pins:List (Addr×Obj)}{op:CmpOp}{K:Frag}{st:Stmt}{es ifs elts:List Expr}{body sts:List Stmt}{vs items xs:Array Value}{lo:Int}{hi:Option Int}{kw:List (Str×Value)}{mg:Str->Option Value}{fd:FuncData}{outer:List Env}{scope:Scope}{YP:World->Heap->Prop}{od:Option Addr}{φ:Φ}{T js:List Nat}{cl:List (Str×Addr)}{cap:List (Option Nat)}{em:Value->Env->Sem Unit}{esc:List (Str×NameKind)}{T1 T2:Bool}{l':List Int}{newId initId:String}
namespace L2
abbrev Key:=Sum Int Str
nonrec def e11:Key->Value->Bool
 | .inl k,v=>Value.isInt k v
 | .inr x,v=>Value.isStrOf x v
nonrec def keyH (w:World):Key->Int
 | .inl k=>hashInt k
 | .inr x=>hashStr w x
theorem iQ: ∀{k:Key} {v:Value},e11 k v=true->(∃i t,k=Sum.inl i/\v=Value.int i t)\/(∃x t,k=Sum.inr x/\v=Value.str x t)
 | .inl i,v,h=>by
  obtain⟨t,e⟩:=Value.isInt_shape h;exact .inl ⟨i,t,rfl,e⟩
 | .inr x,v,h=>by
  obtain⟨t,e⟩:=Value.isStrOf_shape h;exact .inr ⟨x,t,rfl,e⟩
theorem key_ll (a b:Int):decide ((Sum.inl a:Key)=Sum.inl b)=(a==b):=by
 by_cases e:a=b
 .subst e;simp
 .have h: ¬(Sum.inl a:Key)=Sum.inl b:=λq=>e (Sum.inl.inj q)
  rw[eF h];exact(pN.mpr e).symm
theorem key_rr (a b:Str):decide ((Sum.inr a:Key)=Sum.inr b)=decide (a=b):=by
 by_cases e:a=b
 .subst e;simp
 .have h: ¬(Sum.inr a:Key)=Sum.inr b:=λq=>e (Sum.inr.inj q)
  rw[eF h,eF e]
theorem key_lr (a:Int)(b:Str):decide ((Sum.inl a:Key)=Sum.inr b)=false:=eF (λq=>nomatch q)
theorem key_rl (a:Str)(b:Int):decide ((Sum.inr a:Key)=Sum.inl b)=false:=eF (λq=>nomatch q)
nonrec def cU9 (prog:Program)(w:World):PySem.KeyKind prog w Key where
 is:=e11
 hash:=keyH w
 inj:=λv a b ha hb=>by
  rcases iQ ha with⟨i,t,rfl,rfl⟩| ⟨x,t,rfl,rfl⟩
  .rcases iQ hb with⟨j,u,rfl,e⟩| ⟨y,u,rfl,e⟩
   .injection e with e1 _;rw[e1]
   .exact nomatch e
  .rcases iQ hb with⟨j,u,rfl,e⟩| ⟨y,u,rfl,e⟩
   .exact nomatch e
   .injection e with e1 _;rw[e1]
 byValue:=λk v h=>by
  rcases iQ h with⟨i,t,rfl,rfl⟩| ⟨x,t,rfl,rfl⟩<;>rfl
 pyHash:=λhv h=>by
  rcases iQ hv with⟨i,t,rfl,rfl⟩| ⟨x,t,rfl,rfl⟩
  .exact wpAny_pyHash_int h
  .exact wpAny_pyHash_str h
 eqBool:=λhu hv h=>by
  rcases iQ hu with⟨i,t,rfl,rfl⟩| ⟨x,t,rfl,rfl⟩
  .rcases iQ hv with⟨j,u,rfl,rfl⟩| ⟨y,u,rfl,rfl⟩
   .rw[key_ll]at h;exact wpAny_eqBool_int h
   .rw[key_lr]at h;exact SeqAt.EqAt.int_str i t y u _ _ _ _ h
  .rcases iQ hv with⟨j,u,rfl,rfl⟩| ⟨y,u,rfl,rfl⟩
   .rw[key_rl]at h;exact SeqAt.EqAt.str_int x t j u _ _ _ _ h
   .rw[key_rr]at h;exact wpAny_eqBool_str h
 «strs» :=λk x t v h=>by
  rcases iQ h with⟨i,u,rfl,e⟩| ⟨y,u,rfl,e⟩
  .exact nomatch e
  .injection e with e1 _
   subst e1;cases v<;>rfl
end L2
open L2
namespace L2
inductive V where
 | non|bl (b:Bool)|int (i:Int)|str (x:Str)|byt (b:Array UInt8)|flt (b:UInt64)|ref (a:Addr)|ty (n:String)
 deriving DecidableEq
def RelV:V->Value->Prop
 | .non,u=>u=Value.none
 | .bl b,u=>u=Value.bool b
 | .int i,u=> ∃t,u=Value.int i t
 | .str x,u=> ∃t,u=Value.str x t
 | .byt b,u=> ∃t,u=Value.bytes b t
 | .flt b,u=> ∃t,u=Value.float b t
 | .ref a,u=>u=Value.ref a
 | .ty n,u=>u=Value.type n
abbrev Vals:List V->List Value->Prop:=Paired RelV
theorem Vals.length {xs:List V}(r:Vals xs us):xs.length=us.length:=Paired.length r
theorem Vals.get: ∀{xs:List V} {us:List Value} {i:Nat} {x:V},Vals xs us->xs[i]? =some x-> ∃u,us[i]? =some u/\RelV x u
 | _,_,_,_,.nil,e=>by simp at e
 | _,_,0,_,.cons r _,e=>by simp at e;subst e;exact⟨_,rfl,r⟩
 | _,_,i+1,x,.cons _ t,e=>by
  obtain⟨u,h1,h2⟩:=Vals.get t (by exists e)
  exact⟨u,by simpa using h1,h2⟩
theorem Vals.set {x:V}{u:Value}(r:RelV x u): ∀{xs:List V} {us:List Value} (i:Nat),Vals xs us->Vals (xs.set i x) (us.set i u)
 | _,_,_,.nil=> .nil
 | _,_,0,.cons _ t=> .cons r t
 | _,_,i+1,.cons q t=> .cons q (Vals.set r i t)
theorem Vals.append: ∀{xs ys:List V} {us ws:List Value},Vals xs us->Vals ys ws->Vals (xs++ys) (us++ws)
 | _,_,_,_,.nil,s=>s
 | _,_,_,_,.cons r t,s=> .cons r (Vals.append t s)
theorem Vals.take: ∀{xs:List V} {us:List Value} (n:Nat),Vals xs us->Vals (xs.take n) (us.take n)
 | _,_,0,_=> .nil
 | _,_,_+1,.nil=> .nil
 | _,_,n+1,.cons r t=> .cons r (Vals.take n t)
theorem Vals.drop: ∀{xs:List V} {us:List Value} (n:Nat),Vals xs us->Vals (xs.drop n) (us.drop n)
 | _,_,0,r=>r
 | _,_,_+1,.nil=> .nil
 | _,_,n+1,.cons _ t=>Vals.drop n t
def cL4:Option V->Option Value->Prop
 | some v,some u=>RelV v u
 | none,none=>True
 | _,_=>False
def KV {κ:Type}:List (κ×V)->List (κ×Value)->Prop:=Paired fun(p:κ×V) (q:κ×Value)=>p.1=q.1/\RelV p.2 q.2
nonrec def kV:Key->V
 | .inl i=> .int i
 | .inr x=> .str x
inductive HO where
 | lst (xs:List V)
 | tup (xs:List V)
 | dK (kvs:List (Key×V))|dT (kvs:List (List Key×V))
 | set (S:Int->Bool) (n:Nat)
 | ins (C dx:Addr) (fs:List (Str×V))
 | own (x:Addr)
 | xd (fs:List (Str×V))
 | met (f x:Addr)
 | rng (lo hi:Int)
 | frz (o:Obj) (u:HO)
 | tbl (ps:Array Value)
 | ext (φ:Heap->Prop)
abbrev Hp:=Addr->Option HO
nonrec def upd (H:Hp)(a:Addr)(o:HO):Hp:=λb=>if b=a then some o else H b
theorem iF {H:Hp}{o:HO}:upd H a o a=some o:=by unfold upd;rw[aA rfl]
theorem cM {H:Hp}{o:HO}(h:b≠a):upd H a o b=H b:=by unfold upd;rw[a7 h]
theorem dJ {H:Hp}{o:HO}(h:H a=some o)(h':H b=none):a≠b:=by
 intro e;subst e;rw[h]at h';cases h'
section
variable (P:Program)(w:World)
nonrec def rK (H:Hp)(h:Heap)(a:Addr):HO->Prop
 | .lst xs=>xs.length<=sizeLine/\ ∃(its:List Value) (n:Nat),Vals xs its/\h.get? a=some {cls:= .type "list",data:= .seq its.toArray n}
 | .tup xs=>xs.length<=sizeLine/\ ∃its:List Value,Vals xs its/\IsTup h a its.toArray
 | .dK kvs=>kvs.length<=sizeLine/\(a==sysModules)=false/\ ∃vs,KV kvs vs/\h.DictOf (cU9 P w) a vs
 | .dT kvs=>kvs.length<=sizeLine/\(a==sysModules)=false/\ ∃xs:List (List Key×Addr×Value),
   Paired (fun(p:List Key×V) (q:List Key×Addr×Value)=>p.1=q.1/\H q.2.1=some (.tup<|p.1.map kV)/\RelV p.2 q.2.2) kvs xs/\
   ∃o es ep,h.get? a=some o/\o.ExactDict/\o.data= .dict es ep/\es.toList=xs.map (entryOfKey<|tupleKind<|cU9 P w)/\(xs.map (·.1)).Nodup
 | .set S n=>h.SetOf (intKind P w) a S n
 | .ins C dx fs=>H dx=some (.own a)/\fs.length<=1000/\dx≠a/\h.get? a=some (instObj C dx)/\
   ∃mA,h.Ns1 dx mA/\(∀f,cL4 (fs.lookup f)<|mA f)/\PySem.Within mA (fs.map (·.1))
 | .own _=> ∃o,h.get? a=some o
 | .xd fs=> ∃mA,h.Ns1 a mA/\ ∀f,cL4 (fs.lookup f) (mA f)
 | .rng lo hi=> ∃t u v,h.get? a=some {cls:= .type "range",data:= .fields #[.int lo t,.int hi u,.int 1 v]}
 | .frz o u=>h.get? a=some o/\rK H h a u
 | .tbl ps=>h.get? a=some {cls:= .none,data:= .fields ps}
 | .met f x=>h.get? a=some (methodObj (.ref f)<|.ref x)
 | .ext φ=>φ h/\(∃o,h.get? a=some o)/\ ∀h1 h2:Heap,φ h1->(∀o,h1.get? a=some o->h2.get? a=some o)->φ h2
def HOk (H:Hp)(h:Heap):Prop:= ∀a o,H a=some o->rK P w H h a o
end
section
variable {P:Program}{w:World}{H H':Hp}{h h':Heap}{a:Addr}{o:HO}
theorem rK.lt (x:rK P w H h a o):a<h.objs.size:=by
 cases o with
 | lst xs=>obtain⟨_,_,_,_,e⟩:=x;exact aW e
 | tup xs=>obtain⟨_,_,_,p⟩:=x;exact p.lt
 | dK kvs=>obtain⟨_,_,_,_,o,_,_,e,_⟩:=x;exact aW e
 | dT kvs=>obtain⟨_,_,_,_,o,_,_,e,_⟩:=x;exact aW e
 | set S n=>obtain⟨o,_,_,_,e,_⟩:=x;exact aW e
 | ins C dx fs=>obtain⟨_,_,_,e,_⟩:=x;exact aW e
 | own y=>obtain⟨_,e⟩:=x;exact aW e
 | xd fs=>obtain⟨_,⟨_,_,_,e,_⟩,_⟩:=x;exact aW e
 | rng lo hi=>obtain⟨_,_,_,e⟩:=x;exact aW e
 | frz ob u=>obtain⟨e,_⟩:=x;exact aW e
 | tbl ps=>exact aW (show h.get? a=some _ from x)
 | met f y=>exact aW (show h.get? a=some _ from x)
 | ext φ=>obtain⟨_,⟨_,e⟩,_⟩:=x;exact aW e
theorem Paired.mapP {α β:Type}{F G:α->β->Prop}: ∀{l₁:List α} {l₂:List β},Paired F l₁ l₂->(∀a b,F a b->G a b)->Paired G l₁ l₂
 | _,_,.nil,_=> .nil
 | _,_,.cons r t,f=> .cons (f _ _ r) (Paired.mapP t f)
theorem rK.stay (x:rK P w H h a o)(k: ∀b u,(b=a\/H b=some (.own a))->h.get? b=some u->h'.get? b=some u)
  (ho: ∀b,H b=some (.own a)->H' b=some (.own a)) (ht: ∀b xs,H b=some (.tup xs)->H' b=some (.tup xs)):rK P w H' h' a o:=by
 induction o with
 | lst xs=>obtain⟨z,its,n,r,e⟩:=x;exact⟨z,its,n,r,k _ _ (.inl rfl) e⟩
 | tup xs=>obtain⟨z,its,r,ob,e,c⟩:=x;exact⟨z,its,r,ob,k _ _ (.inl rfl) e,c⟩
 | dK kvs=>obtain⟨z,y,vs,r,ob,es,ep,e,c⟩:=x;exact⟨z,y,vs,r,ob,es,ep,k _ _ (.inl rfl) e,c⟩
 | dT kvs=>
  obtain⟨z,y,xs,r,ob,es,ep,e,c⟩:=x;exact⟨z,y,xs,Paired.mapP r λp q z=>⟨z.1,ht _ _ z.2.1,z.2.2⟩,ob,es,ep,k _ _ (.inl rfl) e,c⟩
 | set S n=>obtain⟨ob,es,ep,t,e,c⟩:=x;exact⟨ob,es,ep,t,k _ _ (.inl rfl) e,c⟩
 | ins C dx fs=>
  obtain⟨d,z,ne,e,mA,⟨od,es,ep,e2,c⟩,r⟩:=x;exact⟨ho _ d,z,ne,k _ _ (.inl rfl) e,mA,⟨od,es,ep,k _ _ (.inr d) e2,c⟩,r⟩
 | own y=>obtain⟨ob,e⟩:=x;exact⟨ob,k _ _ (.inl rfl) e⟩
 | xd fs=>obtain⟨mA,⟨od,es,ep,e,c⟩,r⟩:=x;exact⟨mA,⟨od,es,ep,k _ _ (.inl rfl) e,c⟩,r⟩
 | rng lo hi=>obtain⟨t,u,v,e⟩:=x;exact⟨t,u,v,k _ _ (.inl rfl) e⟩
 | frz ob u ih=>obtain⟨e,q⟩:=x;exact⟨k _ _ (.inl rfl) e,ih q⟩
 | tbl ps=>
  have e:h.get? a=some {cls:= .none,data:= .fields ps}:=x;show h'.get? a=some {cls:= .none,data:= .fields ps};exact k a _ (.inl rfl) e
 | met f y=>
  have e:h.get? a=some (methodObj (.ref f)<|.ref y):=x;show h'.get? a=some (methodObj (.ref f)<|.ref y);exact k a _ (.inl rfl) e
 | ext φ=>obtain⟨p,⟨o,e⟩,st⟩:=x;exact⟨st _ _ p λo q=>k _ _ (.inl rfl) q,⟨o,k _ _ (.inl rfl) e⟩,st⟩
theorem HOk.lt (x:HOk P w H h)(e:H a=some o):a<h.objs.size:=(x a o e).lt
theorem HOk.fresh (x:HOk P w H h)(e:h.objs.size<=a):H a=none:=by
 cases q:H a with
 | none=>rfl
 | some u=>exact absurd (b9 (x.lt q) e) (dX _)
theorem HOk.kept (x:HOk P w H h)(k: ∀b u,h.get? b=some u->h'.get? b=some u):HOk P w H h':=λa o e=>
 (x a o e).stay (λb u _ q=>k b u q) (λ_ q=>q) λ_ _ q=>q
theorem HOk.laid (x:HOk P w H h)(k: ∀b u,h.get? b=some u->h'.get? b=some u)(hp:h.objs.size<=a)(new:rK P w (upd H a o) h' a o):HOk P w (upd H a o) h':=λb u e=>by
 have hn:=x.fresh hp
 by_cases hb:b=a
 .subst hb;rw[iF]at e;cases e;exact new
 .rw[cM hb]at e;exact(x b u e).stay (λc v _ q=>k c v q) (λc q=>by rw[cM<|dJ q hn];exact q) λc xs q=>by rw[cM<|dJ q hn];exact q
end
def Rd (H:Hp)(a:Addr)(u:HO):Prop:=H a=some u\/ ∃o,H a=some (.frz o u)
theorem Rd.ok {H:Hp}{u:HO}(r:Rd H a u)(x:HOk P w H h):rK P w H h a u:=by
 rcases r with r| ⟨o,r⟩
 .exact x a u r
 .obtain⟨_,q⟩:=x a _ r;exact q
def Mut:Option HO->Prop
 | some (.lst _)=>True
 | some (.dK _)=>True
 | some (.dT _)=>True
 | some (.set _ _)=>True
 | some (.ins _ _ _)=>True
 | some (.ext _)=>True
 | _=>False
section
variable {P:Program}{w:World}{H:Hp}{h h':Heap}{x e:Addr}{o':HO}
theorem HOk.write (ok:HOk P w H h)(mu:Mut (H x))(he:e=x\/H e=some (.own x))(k: ∀b u,b≠e->h.get? b=some u->h'.get? b=some u)(heo: ∃u,h'.get? e=some u)
  (new:rK P w (upd H x o') h' x o'):HOk P w (upd H x o') h':=λb u q=>by
 have nown: ∀c y,H c=some (.own y)->c≠x:=λc y r z=>by subst z;rw[r]at mu;exact mu
 have ntup: ∀c xs,H c=some (.tup xs)->c≠x:=λc xs r z=>by subst z;rw[r]at mu;exact mu
 by_cases hb:b=x
 .subst hb;rw[iF]at q;cases q;exact new
 .rw[cM hb]at q
  by_cases hbe:b=e
  .have q':H b=some (.own x):=by
    rcases he with z|z
    .exact absurd (hbe.trans z) hb
    .rw[hbe];exact z
   rw[q]at q';cases q';obtain⟨v,hv⟩:=heo;exact⟨v,by rw[hbe];exact hv⟩
  .refine(ok b u q).stay (λc v hc r=>k c v ?_ r) (λc r=>by rw[cM<|nown c b r];exact r) λc xs r=>by rw[cM<|ntup c xs r];exact r
   rcases hc with rfl|hc
   .exact hbe
   .rintro rfl;rcases he with z|z
    .exact nown c b hc z
    .rw[hc]at z;cases z;exact hb rfl
end
structure Un (fs ex:List Addr)(H H':Hp)(h h':Heap):Prop where
 keep: ∀b o,h.get? b=some o->H b=none->b ∉ fs->b ∉ ex->h'.get? b=some o
 slot: ∀b o,h.get? b=some o->H b=none->b∈fs->b ∉ ex-> ∃sl,h'.get? b=some {o with slots:=sl}
 free: ∀b o,h.get? b=some o->H b=none->b ∉ ex->H' b=none
 there: ∀b o,h.get? b=some o->b ∉ ex-> ∃o',h'.get? b=some o'
 tups: ∀b xs,H b=some (.tup xs)->H' b=some (.tup xs)
 frzs: ∀b o u,H b=some (.frz o u)->H' b=some (.frz o u)
 tbls: ∀b ps,H b=some (.tbl ps)-> ∃more,H' b=some (.tbl<|ps++more)
section
variable {fs fs' ex ex':List Addr}{H H1 H2:Hp}{h h1 h2 h':Heap}{a x e:Addr}{o:HO}
theorem Un.any (u:Un fs ex H H1 h h1){ob:Obj}(q:h.get? b=some ob)(n:H b=none)(hx:b ∉ ex): ∃sl,h1.get? b=some {ob with slots:=sl}:=by
 by_cases hb:b∈fs
 .exact u.slot b ob q n hb hx
 .exact⟨ob.slots,u.keep b ob q n hb hx⟩
theorem Un.kept (k: ∀b u,h.get? b=some u->h'.get? b=some u):Un fs ex H H h h':=
 ⟨λb ob q _ _ _=>k b ob q,λb ob q _ _ _=>⟨ob.slots,k b ob q⟩,λ_ _ _ n _=>n,λb ob q _=>⟨ob,k b ob q⟩,λ_ _ q=>q,λ_ _ _ q=>q,λ_ ps q=>⟨#[],by rw[q];simp⟩⟩
theorem Un.refl:Un fs ex H H h h:=Un.kept λ_ _ q=>q
theorem Un.laid (k: ∀b u,h.get? b=some u->h'.get? b=some u)(hp:h.objs.size<=a)(hn:H a=none):Un fs ex H (upd H a o) h h' where
 keep:=λb u q _ _ _=>k b u q
 slot:=λb u q _ _ _=>⟨u.slots,k b u q⟩
 free:=λb u q n _=>by rw[cM<|bM<|b9 (aW q) hp];exact n
 there:=λb u q _=>⟨u,k b u q⟩
 tups:=λb xs q=>by rw[cM<|dJ q hn];exact q
 frzs:=λb u xs q=>by rw[cM<|dJ q hn];exact q
 tbls:=λb ps q=>⟨#[],by rw[cM<|dJ q hn,q];simp⟩
theorem Un.write (mu:Mut (H x))(he:e=x\/H e=some (.own x))(k: ∀b u,b≠e->h.get? b=some u->h'.get? b=some u)(heo: ∃u,h'.get? e=some u):Un fs ex H (upd H x o) h h':=by
 have hx: ∀b,H b=none->b≠x:=λb n z=>by subst z;rw[n]at mu;exact mu
 have hb: ∀b,H b=none->b≠e:=λb n z=>by
  subst z;rcases he with r|r
  .exact hx b n r
  .rw[n]at r;cases r
 have hm: ∀b u,H b=some u-> ¬Mut (some u)->b≠x:=λb u q nm z=>by subst z;rw[q]at mu;exact nm mu
 refine⟨λb u q n _ _=>k b u (hb b n) q,λb u q n _ _=>⟨u.slots,k b u (hb b n) q⟩,λb u q n _=>by rw[cM<|hx b n];exact n,λb u q _=> ?_,
  λb xs q=>by rw[cM<|hm b _ q λz=>z];exact q,λb u xs q=>by rw[cM<|hm b _ q λz=>z];exact q,λb ps q=>⟨#[],by rw[cM<|hm b _ q λz=>z,q];simp⟩⟩
 by_cases hbe:b=e
 .subst hbe;exact heo
 .exact⟨u,k b u hbe q⟩
end
nonrec def trk (h:Heap)(H:Hp):List Addr:=(List.range h.objs.size).filter λa=>(H a).isSome
nonrec def c07 (h:Heap)(H:Hp):Heap:=PySem.W.hideAll h (trk h H)
theorem d04 (h:Heap)(H:Hp):(c07 h H).objs.size=h.objs.size:=PySem.W.hideAll_size _ _
theorem d73 {H:Hp}(e:h.get? b=some o)(n:H b=none):(c07 h H).get? b=some o:=
 PySem.W.hideAll_get _ e λhm=>by
  have q:(H b).isSome=true:=(List.mem_filter.mp hm).2;rw[n]at q;simp at q
theorem dP1 {H:Hp}(e:(c07 h H).get? b=some o):h.get? b=some o/\H b=none:=by
 have e':h.get? b=some o:=u7 (trk h H) e;refine⟨e',?_⟩;cases q:H b with
 | none=>rfl
 | some x=>
  have hm:b∈trk h H:=List.mem_filter.mpr ⟨bZ.mpr<|aW e',by simp[q]⟩
  have z:(c07 h H).get? b=none:=PySem.W.hideAll_none (trk h H) hm;rw[z]at e;cases e
nonrec def dP2 (g h:Heap)(L:Addr):List (Addr×Obj):=(List.range h.objs.size).filterMap λa=>if a=L\/(g.get? a).isSome=true then none else(h.get? a).map λo=>(a,o)
nonrec def iN (g h:Heap)(L d:Addr):List (Addr×Obj):=(dP2 g h L).filter λp=>decide (p.1≠d)
structure Mod (K:Frag)(mg:Str->Option Value)(base:Heap):Prop where
 kin:K.In base
 glob:base.Ns mainGlobals mg
 blt: ∃mb,base.Ns builtinsNs mb/\ ∀x:Str,x≠"__name__"->mb x=bootBuiltins x
 nolimit:base.NoLimit
structure Cx where
 prog:Program
 w:World
 K:Frag
 mg:Str->Option Value
 base:Heap
 A:Around
 N:List Str
 s₀:Shared
 H₀:Hp
 env:Env
 outer:List Env
 stack:List Env
 ex:List Addr
 fn:Str->Bool
 calm:Bool
 pn:List (Addr×Obj)
 xe:Value->Shared->Prop
nonrec def frs (l:List Env):List Addr:=l.filterMap (·.frame)
noncomputable abbrev Cx.fs (X:Cx):List Addr:=frs X.outer
def Vis (sc:Scope)(x:Str):Prop:=sc.names.lookup x=some .local\/sc.names.lookup x=some .cell\/sc.names.lookup x=some .free
def Loc (sc:Scope)(x:Str):Prop:=sc.names.lookup x=some .local\/sc.names.lookup x=some .cell
def Look (env:Env)(h:Heap)(m:Str->Option Value)(x:Str)(u:Value):Prop:=
 (env.kindOf x=some .local/\m x=some u)\/((env.kindOf x=some .cell\/env.kindOf x=some .free)/\ ∃c,env.cells.lookup x=some c/\h.IsCell c (some u))
structure Cx.Ok (X:Cx):Prop where
 mod:Mod X.K X.mg X.base
 kind:X.env.scope.kind= .function
 glob:X.env.globals=mainGlobals
 blt:X.env.builtins=builtinsNs
 above:X.s₀.heap.objs.size<=X.env.locals
 inj: ∀x y c,X.env.cells.lookup x=some c->X.env.cells.lookup y=some c->x=y
 has: ∀x,(X.env.kindOf x=some .cell\/X.env.kindOf x=some .free)-> ∃c,X.env.cells.lookup x=some c
 cab: ∀x c,X.fn x=true->X.env.cells.lookup x=some c->X.s₀.heap.objs.size<=c
 hd:X.calm=true->X.A.handled=none
 frames:X.A.frames=some X.stack
 stk:X.stack=X.outer\/(X.stack=X.env::X.outer/\X.env.frame=some X.env.locals)
 exf: ∀b∈X.ex,b≠X.env.locals/\ ∀x c,X.env.cells.lookup x=some c->c≠b
 bs: ∀b o,X.base.get? b=some o->X.s₀.heap.get? b=some o/\X.H₀ b=none
 bsz:X.base.objs.size<=X.s₀.heap.objs.size
 noex: ∀b o,X.base.get? b=some o->b ∉ X.ex
 exfs: ∀b∈X.ex,b ∉ X.fs
 funs:X.s₀.heap.FunFrames X.base X.outer
 frf: ∀b∈X.fs,X.H₀ b=none
structure Inv (X:Cx)(pins:List (Addr×Obj))(σ:List (Option V))(H:Hp)(s:Shared):Prop where
 ok:X.Ok
 os:s.os=X.s₀.os
 bare:AllBare s.gens
 base:Un X.fs X.ex X.H₀ H X.s₀.heap s.heap
 loc: ∃m,s.heap.Ns X.env.locals m/\ ∀(i:Nat) (x:Str) (v:V),X.N[i]? =some x->σ[i]? =some (some v)->Vis X.env.scope x-> ∃u,RelV v u/\Look X.env s.heap m x u
 cell: ∀x c,X.env.cells.lookup x=some c-> ∃v,s.heap.IsCell c v
 free:H X.env.locals=none
 freeC: ∀x c,X.env.cells.lookup x=some c->H c=none
 pin: ∀p∈X.pn++pins,s.heap.get? p.1=some p.2/\H p.1=none/\p.1≠X.env.locals/\p.1 ∉ X.fs/\ ∀v,p.2.data≠ .cell v
 hok:HOk X.prog X.w H s.heap
 len:σ.length=X.N.length
section
variable {X:Cx}{pins:List (Addr×Obj)}{σ:List (Option V)}{H H':Hp}{s:Shared}{h':Heap}
theorem Cx.Ok.nofr (ok:X.Ok)(e:X.base.get? b=some o):b ∉ X.fs:=λhb=>by
 have:=(ok.funs.mem hb).1;rw[e]at this;cases this
theorem Inv.bs (I:Inv X pins σ H s): ∀b o,X.base.get? b=some o->s.heap.get? b=some o/\H b=none:=λb o e=>
 ⟨I.base.keep b o (I.ok.bs b o e).1 (I.ok.bs b o e).2 (I.ok.nofr e)<|I.ok.noex b o e,I.base.free b o (I.ok.bs b o e).1 (I.ok.bs b o e).2<|I.ok.noex b o e⟩
theorem Inv.bk (I:Inv X pins σ H s): ∀b o,X.base.get? b=some o->s.heap.get? b=some o:=λb o e=>(I.bs b o e).1
theorem Inv.mod (I:Inv X pins σ H s):Mod X.K X.mg X.base:=I.ok.mod
theorem Inv.kIn (I:Inv X pins σ H s):X.K.In s.heap:=I.ok.mod.kin.keeps I.bk
theorem Inv.nolimit (I:Inv X pins σ H s):s.heap.NoLimit:=I.ok.mod.nolimit.keeps I.bk
theorem Inv.lt (I:Inv X pins σ H s):X.env.locals<s.heap.objs.size:=let ⟨_,hn,_⟩:=I.loc;hn.lt
theorem Inv.sz (I:Inv X pins σ H s):X.s₀.heap.objs.size<=s.heap.objs.size:=aH I.ok.above (nQ I.lt)
theorem Inv.nofs (I:Inv X pins σ H s)(h:s.heap.objs.size<=a):a ∉ X.fs:=λhb=>by
 obtain⟨_,o,ho,_⟩:=I.ok.funs.mem hb;exact absurd (b9 (aW ho)<|aH I.sz h) (dX _)
theorem Inv.cne (I:Inv X pins σ H s): ∀x c,X.env.cells.lookup x=some c->c≠X.env.locals:=λx c e z=>by
 obtain⟨v,o,ho,hd⟩:=I.cell x c e;obtain⟨m,⟨o',es,ep,ho',hd',_⟩,_⟩:=I.loc;rw[z,ho']at ho;cases ho;rw[hd']at hd;cases hd
theorem Inv.funs (I:Inv X pins σ H s):s.heap.FunFrames X.base X.outer:=by
 have all: ∀(l:List Env),(∀b∈frs l,b∈X.fs)->X.s₀.heap.FunFrames X.base l->s.heap.FunFrames X.base l:=by
  intro l
  induction l with
  | nil=>intro _ _;trivial
  | cons env r ih=>
   intro hs hl;obtain⟨hk,⟨L,o,hf,hn,ho,hd⟩,hr⟩:=hl;have hL:L∈X.fs:=hs L (by unfold frs;rw[nE,hf];exact kT)
   obtain⟨sl,e⟩:=I.base.slot L o ho (I.ok.frf L hL) hL λz=>I.ok.exfs L z hL
   exact⟨hk,⟨L,_,hf,hn,e,hd⟩,ih (λb hb=>hs b (by unfold frs;rw[nE,hf];exact fB _ hb)) hr⟩
 exact all X.outer (λ_ hb=>hb) I.ok.funs
theorem Inv.stack (I:Inv X pins σ H s):s.heap.FunFrames X.base X.stack:=by
 rcases I.ok.stk with e| ⟨e,hf⟩
 .rw[e];exact I.funs
 .rw[e];obtain⟨m,hn,_⟩:=I.loc;refine .cons (by rw[I.ok.kind];decide) hf hn ?_ I.funs
  exact kS (aH I.ok.bsz I.ok.above)
theorem Inv.stkSub (I:Inv X pins σ H s): ∀b∈frs X.stack,b∈X.env.locals::X.fs:=λb hb=>by
 rcases I.ok.stk with e| ⟨e,hf⟩
 .rw[e]at hb;exact fB _ hb
 .rw[e]at hb;unfold frs at hb;rw[nE,hf]at hb;exact hb
theorem Inv.stkFree (I:Inv X pins σ H s): ∀b∈frs X.stack,H b=none:=λb hb=>by
 rcases bB.mp (I.stkSub b hb)with e|hb
 .rw[e];exact I.free
 .obtain⟨_,o,ho,_⟩:=I.ok.funs.mem hb;exact I.base.free b o ho (I.ok.frf b hb) λz=>I.ok.exfs b z hb
theorem Inv.step {g':Array GenState}{d':Drawn}(I:Inv X pins σ H s)
  (hch: ∀b∈ch,(b∈X.ex\/X.s₀.heap.objs.size<=b)/\b≠X.env.locals/\(∀x c,X.env.cells.lookup x=some c->c≠b)/\ ∀p∈X.pn++pins,p.1≠b)
  (keep: ∀b o,b≠X.env.locals->b ∉ X.fs->b ∉ ch->s.heap.get? b=some o->H b=none->h'.get? b=some o)
  (slot: ∀b o,b≠X.env.locals->b∈X.fs->b ∉ ch->s.heap.get? b=some o->H b=none-> ∃sl,h'.get? b=some {o with slots:=sl}) (free: ∀b o,b ∉ ch->s.heap.get? b=some o->H b=none->H' b=none)
  (there: ∀b o,b ∉ ch->s.heap.get? b=some o-> ∃o',h'.get? b=some o')
  (tups: ∀b xs,H b=some (.tup xs)->H' b=some (.tup xs)) (frzs: ∀b o u,H b=some (.frz o u)->H' b=some (.frz o u)) (tbls: ∀b ps,H b=some (.tbl ps)-> ∃more,H' b=some (.tbl<|ps++more))
  (ns: ∀m,s.heap.Ns X.env.locals m->h'.Ns X.env.locals m) (hok:HOk X.prog X.w H' h') (hg:AllBare g') :
  Inv X pins σ H' {s with heap:=h',gens:=g',drawn:=d',toks:=t'}:=by
 have neL: ∀b o,X.s₀.heap.get? b=some o->b≠X.env.locals:=λb o e=>bM (b9 (aW e) I.ok.above)
 have neC: ∀b o,X.s₀.heap.get? b=some o->b ∉ X.ex->b ∉ ch:=λb o e hx hb=>by
  rcases(hch b hb).1 with z|z
  .exact hx z
  .exact absurd (b9 (aW e) z) (dX _)
 have cellK: ∀x c,X.env.cells.lookup x=some c-> ∀v,s.heap.IsCell c v->h'.IsCell c v:=λx c e v ⟨o,ho,hd⟩=>by
  have nch:c ∉ ch:=λz=>(hch c z).2.2.1 x c e rfl
  by_cases hc:c∈X.fs
  .obtain⟨sl,q⟩:=slot c o (I.cne x c e) hc nch ho (I.freeC x c e);exact⟨_,q,hd⟩
  .exact⟨o,keep c o (I.cne x c e) hc nch ho<|I.freeC x c e,hd⟩
 refine⟨I.ok,I.os,hg,⟨λb o e n hb hx=> ?_,λb o e n hb hx=> ?_,λb o e n hx=> ?_,λb o e hx=> ?_,λb xs e=>tups b xs (I.base.tups b xs e),λb o xs e=>frzs b o xs (I.base.frzs b o xs e),λb ps e=> ?_⟩,?_,λx c e=> ?_,?_,λx c e=> ?_,λp hp=> ?_,hok,I.len⟩
 .exact keep b o (neL b o e) hb (neC b o e hx) (I.base.keep b o e n hb hx) (I.base.free b o e n hx)
 .obtain⟨sl,e1⟩:=I.base.slot b o e n hb hx;obtain⟨sl',e2⟩:=slot b _ (neL b o e) hb (neC b o e hx) e1 (I.base.free b o e n hx);exact⟨sl',e2⟩
 .obtain⟨o',e1⟩:=I.base.there b o e hx;exact free b o' (neC b o e hx) e1 (I.base.free b o e n hx)
 .obtain⟨o',e1⟩:=I.base.there b o e hx;exact there b o' (neC b o e hx) e1
 .obtain⟨m1,e1⟩:=I.base.tbls b ps e;obtain⟨m2,e2⟩:=tbls b _ e1;exact⟨m1++m2,by rw[e2,Array.append_assoc]⟩
 .obtain⟨m,hn,hl⟩:=I.loc;refine⟨m,ns m hn,λi x v e1 e2 e3=> ?_⟩
  obtain⟨u,r,l⟩:=hl i x v e1 e2 e3;refine⟨u,r,?_⟩;rcases l with l| ⟨k,c,e,z⟩
  .exact .inl l
  .exact .inr ⟨k,c,e,cellK x c e _ z⟩
 .obtain⟨v,z⟩:=I.cell x c e;exact⟨v,cellK x c e v z⟩
 .obtain⟨m,⟨o,_,_,ho,_⟩,_⟩:=I.loc;exact free _ o (λz=>(hch _ z).2.1 rfl) ho I.free
 .obtain⟨v,o,ho,hd⟩:=I.cell x c e;exact free c o (λz=>(hch c z).2.2.1 x c e rfl) ho (I.freeC x c e)
 .obtain⟨e,n,ne,nf,d⟩:=I.pin p hp;have nch:p.1 ∉ ch:=λz=>(hch p.1 z).2.2.2 p hp rfl
  exact⟨keep p.1 p.2 ne nf nch e n,free p.1 p.2 nch e n,ne,nf,d⟩
theorem Inv.un (I:Inv X pins σ H s)(u:Un X.fs [] H H' s.heap h')(hok:HOk X.prog X.w H' h'):Inv X pins σ H' {s with heap:=h',toks:=t'}:=by
 obtain⟨m,⟨o,es,ep,ho,r⟩,_⟩:=id I.loc;obtain⟨sl,hL⟩:=u.any ho I.free ae
 exact I.step (g':=s.gens) (d':=s.drawn) (ch:=[]) (λ_ z=>nomatch z) (λb o _ hb _ e n=>u.keep b o e n hb ae) (λb o _ hb _ e n=>u.slot b o e n hb ae) (λb o _ e n=>u.free b o e n ae) (λb o _ e=>u.there b o e ae) u.tups u.frzs u.tbls (λm' hm=>by
  obtain⟨o',es',ep',ho',r'⟩:=hm;rw[ho]at ho';cases ho';exact⟨_,es',ep',hL,r'⟩) hok I.bare
theorem Inv.call {g':Array GenState}{d':Drawn}(I:Inv X pins σ H s)(u:Un (frs X.stack) ch H H' s.heap h')(hok:HOk X.prog X.w H' h')(hg:AllBare g')
  (hch: ∀b∈ch,(b∈X.ex\/X.s₀.heap.objs.size<=b)/\b≠X.env.locals/\(∀x c,X.env.cells.lookup x=some c->c≠b)/\ ∀p∈X.pn++pins,p.1≠b) :
  Inv X pins σ H' {s with heap:=h',gens:=g',drawn:=d',toks:=t'}:=by
 obtain⟨m,⟨o,es,ep,ho,r⟩,_⟩:=id I.loc;obtain⟨sl,hL⟩:=u.any ho I.free λz=>(hch _ z).2.1 rfl
 exact I.step (ch:=ch) hch (λb o hL hb hc e n=>u.keep b o e n (λz=>(bB.mp<|I.stkSub b z).elim hL hb) hc) (λb o _ _ hc e n=>u.any e n hc) (λb o hc e n=>u.free b o e n hc) (λb o hc e=>u.there b o e hc) u.tups u.frzs u.tbls (λm' hm=>by
  obtain⟨o',es',ep',ho',r'⟩:=hm;rw[ho]at ho';cases ho';exact⟨_,es',ep',hL,r'⟩) hok hg
theorem Inv.turned (I:Inv X pins σ H s)(k: ∀b o,b≠it->s.heap.get? b=some o->h'.get? b=some o)(hn:H it=none)(hL:it≠X.env.locals)
  (h1:it∈X.ex\/X.s₀.heap.objs.size<=it) (h2: ∀x c,X.env.cells.lookup x=some c->c≠it) (h3: ∀p∈X.pn++pins,p.1≠it):Inv X pins σ H {s with heap:=h',toks:=t'}:=by
 have nit: ∀b u,H b=some u->b≠it:=λb u e z=>by rw[z,hn]at e;cases e
 refine I.step (g':=s.gens) (d':=s.drawn) (ch:=[it]) (λb hb=> ?_) (λb o _ _ hc e _=>k b o (λz=>hc (by simp[z])) e) (λb o _ _ hc e _=>⟨o.slots,k b o (λz=>hc (by simp[z])) e⟩) (λ_ _ _ _ n=>n)
  (λb o hc e=>⟨o,k b o (λz=>hc (by simp[z])) e⟩) (λ_ _ e=>e) (λ_ _ _ e=>e) (λb ps e=>⟨#[],by rw[e];simp⟩) (λm hm=> ?_) (λb u e=> ?_) I.bare
 .have e:b=it:=by exists hb
  subst e;exact⟨h1,hL,h2,h3⟩
 .obtain⟨o,es,ep,ho,r⟩:=hm;exact⟨o,es,ep,k _ o (Ne.symm hL) ho,r⟩
 .refine(I.hok b u e).stay (λc v hc q=>k c v ?_ q) (λ_ q=>q) λ_ _ q=>q
  rcases hc with z|z
  .rw[z];exact nit b u e
  .exact nit c _ z
theorem Inv.tok (I:Inv X pins σ H s)(t:Nat):Inv X pins σ H {s with toks:=t}:=I.un Un.refl I.hok
theorem Inv.kept (I:Inv X pins σ H s)(k: ∀b u,s.heap.get? b=some u->h'.get? b=some u):Inv X pins σ H {s with heap:=h',toks:=t'}:=I.un (Un.kept k) (I.hok.kept k)
theorem Inv.laid {o:HO}(I:Inv X pins σ H s)(k: ∀b u,s.heap.get? b=some u->h'.get? b=some u)(hp:s.heap.objs.size<=a)(new:rK X.prog X.w (upd H a o) h' a o) :
  Inv X pins σ (upd H a o) {s with heap:=h',toks:=t'}:=I.un (Un.laid k hp<|I.hok.fresh hp) (I.hok.laid k hp new)
theorem Inv.write {x e:Addr}{o:HO}(I:Inv X pins σ H s)(mu:Mut (H x))(he:e=x\/H e=some (.own x))(k: ∀b u,b≠e->s.heap.get? b=some u->h'.get? b=some u)(heo: ∃u,h'.get? e=some u)
  (new:rK X.prog X.w (upd H x o) h' x o):Inv X pins σ (upd H x o) {s with heap:=h',toks:=t'}:=I.un (Un.write mu he k heo) (I.hok.write mu he k heo new)
theorem Inv.pins_of {pins':List (Addr×Obj)}(I:Inv X pins σ H s)(h: ∀p∈pins',s.heap.get? p.1=some p.2/\H p.1=none/\p.1≠X.env.locals/\p.1 ∉ X.fs/\ ∀v,p.2.data≠ .cell v):Inv X pins' σ H s:=
 ⟨I.ok,I.os,I.bare,I.base,I.loc,I.cell,I.free,I.freeC,λp hp=>(cR.mp hp).elim (λz=>I.pin p (pL _ z)) (h p),I.hok,I.len⟩
theorem cA3 (hN:N.Nodup)(a:N[i]? =some x)(b:N[j]? =some x):i=j:=by
 obtain⟨h1,e1⟩:=gG.mp a;obtain⟨h2,e2⟩:=gG.mp b;exact(List.getElem_inj hN).mp (e1.trans e2.symm)
theorem d05 {M:Model}{v:V}{Q:Unit->Shared->Prop}(I:Inv X pins σ H s)(hN:X.N.Nodup)(hi:X.N[i]? =some x)(hx:Loc X.env.scope x)(r:RelV v u)
  (h: ∀s',Inv X pins (σ.set i<|some v) H s'->(∃a,SameBut a s.heap s'.heap/\(a=X.env.locals\/X.env.cells.lookup x=some a))->Q () s') (hf:X.fn x=true\/X.env.scope.names.lookup x=some .local:=by walk_at "z"):wpAny M A (storeName X.env x u) Q E s:=by
 obtain⟨m,hn,hl⟩:=id I.loc;have hcls:(X.env.scope.kind== .class||(X.env.scope.kind== .module&&X.env.locals != X.env.globals))=false:=by rw[I.ok.kind];rfl
 have hiσ:i<σ.length:=by rw[I.len];exact(gG.mp hi).1
 have cne:=I.cne;have tracked: ∀{a:Addr} {h':Heap},(∃o,s.heap.get? a=some o/\H a=none)->SameBut a s.heap h'->HOk X.prog X.w H h':=λ{a h'} ha hs b ob e=>by
  obtain⟨_,_,hfree⟩:=ha;refine(I.hok b ob e).stay (λc w' hc q=>(hs.2 c ?_).trans q) (λ_ q=>q) λ_ _ q=>q
  rintro rfl;rcases hc with rfl|hc
  .rw[hfree]at e;cases e
  .rw[hfree]at hc;cases hc
 rcases hx with hk|hk
 .refine wpAny_storeName_local hk hn (λh' hn' hs=> ?_) hcls
  obtain⟨oL,_,_,hoL,_⟩:=id hn;refine h _ ⟨I.ok,I.os,I.bare,⟨λb o e n hb hx=> ?_,λb o e n hb hx=> ?_,I.base.free,λb o e hx=> ?_,I.base.tups,I.base.frzs,I.base.tbls⟩,⟨_,hn',λj y v' e1 e2 e3=> ?_⟩,λy c e=> ?_,I.free,I.freeC,λp hp=> ?_,tracked ⟨oL,hoL,I.free⟩ hs,by exists I.len⟩ ⟨_,hs,.inl rfl⟩
  .exact(hs.2 b<|bM<|b9 (aW e) I.ok.above).trans (I.base.keep b o e n hb hx)
  .obtain⟨sl,e1⟩:=I.base.slot b o e n hb hx;exact⟨sl,(hs.2 b<|bM<|b9 (aW e) I.ok.above).trans e1⟩
  .obtain⟨o',e1⟩:=I.base.there b o e hx;exact⟨o',(hs.2 b<|bM<|b9 (aW e) I.ok.above).trans e1⟩
  .by_cases hj:j=i
   .subst hj;rw[hi]at e1;cases e1;rw[List.getElem?_set_self hiσ]at e2;cases e2;exact⟨u,r,.inl ⟨hk,ae⟩⟩
   .rw[List.getElem?_set_ne<|Ne.symm hj]at e2;obtain⟨u',r',q⟩:=hl j y v' e1 e2 e3;refine⟨u',r',?_⟩;rcases q with⟨k,e⟩| ⟨k,c,e,z⟩
    .refine .inl ⟨k,?_⟩
     have:y≠x:=λe=>hj (cA3 hN e1<|e▸hi)
     simp[this,e]
    .exact .inr ⟨k,c,e,z.sameBut hs<|cne y c e⟩
  .obtain⟨w',z⟩:=I.cell y c e;exact⟨w',z.sameBut hs<|cne y c e⟩
  .obtain⟨e,n,ne,nf,d⟩:=I.pin p hp;exact⟨(hs.2 p.1 ne).trans e,n,ne,nf,d⟩
 .have hfn:X.fn x=true:=by
   rcases hf with z|z
   .exact z
   .rw[z]at hk;cases hk
  obtain⟨c,hc⟩:=I.ok.has x (.inl hk);obtain⟨w',z⟩:=I.cell x c hc;refine wpAny_storeName_cell I.ok.kind hk hc z (λh' hc' hs=> ?_)
  obtain⟨oc,hoc,hocd⟩:=id z;refine h {s with heap:=h'} ⟨I.ok,I.os,I.bare,⟨λb o e n hb hx=> ?_,λb o e n hb hx=> ?_,I.base.free,λb o e hx=> ?_,I.base.tups,I.base.frzs,I.base.tbls⟩,⟨m,hn.sameBut hs<|Ne.symm<|cne x c hc,λj y v' e1 e2 e3=> ?_⟩,λy c' e=> ?_,I.free,I.freeC,λp hp=> ?_,tracked ⟨oc,hoc,I.freeC x c hc⟩ hs,by exists I.len⟩ ⟨c,hs,.inr hc⟩
  .exact(hs.2 b<|bM<|b9 (aW e)<|I.ok.cab x c hfn hc).trans (I.base.keep b o e n hb hx)
  .obtain⟨sl,e1⟩:=I.base.slot b o e n hb hx;exact⟨sl,(hs.2 b<|bM<|b9 (aW e)<|I.ok.cab x c hfn hc).trans e1⟩
  .obtain⟨o',e1⟩:=I.base.there b o e hx;exact⟨o',(hs.2 b<|bM<|b9 (aW e)<|I.ok.cab x c hfn hc).trans e1⟩
  .by_cases hj:j=i
   .subst hj;rw[hi]at e1;cases e1;rw[List.getElem?_set_self hiσ]at e2;cases e2;exact⟨u,r,.inr ⟨.inl hk,c,hc,hc'⟩⟩
   .rw[List.getElem?_set_ne<|Ne.symm hj]at e2;obtain⟨u',r',q⟩:=hl j y v' e1 e2 e3;refine⟨u',r',?_⟩;rcases q with q| ⟨k,c',e,z'⟩
    .exact .inl q
    .refine .inr ⟨k,c',e,z'.sameBut hs ?_⟩
     rintro rfl;exact hj (cA3 hN e1<|I.ok.inj _ _ _ e hc▸hi)
  .by_cases hcc:c'=c
   .subst hcc;exact⟨_,hc'⟩
   .obtain⟨w2,z2⟩:=I.cell y c' e;exact⟨w2,z2.sameBut hs hcc⟩
  .obtain⟨e,n,ne,nf,d⟩:=I.pin p hp;refine⟨(hs.2 p.1 ?_).trans e,n,ne,nf,d⟩;intro q;rw[q,hoc]at e;have q':oc=p.2:=eG e;exact d w' (by rw[<-q'];exact hocd)
theorem yJ {M:Model}{v:V}{Q:Unit->Shared->Prop}(I:Inv X pins σ H s)(hN:X.N.Nodup)(hi:X.N[i]? =some x)(hx:Loc X.env.scope x)(r:RelV v u)
  (h: ∀s',Inv X pins (σ.set i<|some v) H s'->Q () s') (hf:X.fn x=true\/X.env.scope.names.lookup x=some .local:=by walk_at "z"):wpAny M A (storeName X.env x u) Q E s:=
 d05 I hN hi hx r (λs' I' _=>h s' I') hf
theorem Inv.call' (I:Inv X pins σ H s)(ho:s'.os=s.os)(u:Un (frs X.stack) ch H H' s.heap s'.heap)(hok:HOk X.prog X.w H' s'.heap)(hg:AllBare s'.gens)
  (hch: ∀b∈ch,(b∈X.ex\/X.s₀.heap.objs.size<=b)/\b≠X.env.locals/\(∀x c,X.env.cells.lookup x=some c->c≠b)/\ ∀p∈X.pn++pins,p.1≠b):Inv X pins σ H' s':=by
 obtain⟨h',g',d',t',o'⟩:=s';have e:o'=s.os:=ho;subst e;exact I.call (g':=g') (t':=t') (d':=d') u hok hg hch
end
abbrev XK:=Value->Option Addr->Hp->Prop
abbrev St:=List (Option V)
abbrev VK:=V->Hp->Prop
abbrev TE:=St->Hp->VK->Prop
abbrev TT:=St->Hp->(Bool->Hp->Prop)->Prop
abbrev TA:=St->Hp->(List V->Hp->Prop)->Prop
structure b18 where
 nx:St->Hp->Prop
 rt:VK
 bk:St->Hp->Prop:=λ_ _=>False
 ct:St->Hp->Prop:=λ_ _=>False
abbrev TS:=b18->St->Hp->Prop
def EP (X:Cx)(pins:List (Addr×Obj))(σ:St)(Q:VK)(u:Value)(s':Shared):Prop:= ∃v H',Inv X pins σ H' s'/\RelV v u/\Q v H'
def TP (X:Cx)(pins:List (Addr×Obj))(σ:St)(Q:Bool->Hp->Prop)(b:Bool)(s':Shared):Prop:= ∃H',Inv X pins σ H' s'/\Q b H'
def AP (X:Cx)(pins:List (Addr×Obj))(σ:St)(Q:List V->Hp->Prop)(us:List Value)(s':Shared):Prop:= ∃vs H',Inv X pins σ H' s'/\Vals vs us/\Q vs H'
def SP (X:Cx)(pins:List (Addr×Obj))(D:b18)(f:Flow)(s':Shared):Prop:=
 match f with
 | .next=> ∃σ' H',Inv X pins σ' H' s'/\D.nx σ' H'
 | .brk=> ∃σ' H',Inv X pins σ' H' s'/\D.bk σ' H'
 | .cont=> ∃σ' H',Inv X pins σ' H' s'/\D.ct σ' H'
 | .ret u=> ∃v σ' H',Inv X pins σ' H' s'/\RelV v u/\D.rt v H'
def PE (X:Cx)(e:Expr)(t:TE):Prop:=
 ∀(pins:List (Addr×Obj)) (s:Shared) (σ:St) (H:Hp) (Q:VK),Inv X pins σ H s->t σ H Q->X∩(eval e X.env) (EP X pins σ Q) X.xe s
def PT (X:Cx)(e:Expr)(t:TT):Prop:=
 ∀(pins:List (Addr×Obj)) (s:Shared) (σ:St) (H:Hp) (Q:Bool->Hp->Prop),Inv X pins σ H s->t σ H Q->X∩(isTrue e X.env<|eval e X.env) (TP X pins σ Q) X.xe s
def PW (X:Cx)(e:Expr)(t:TT):Prop:=
 ∀(whole:Sem Value) (pins:List (Addr×Obj)) (s:Shared) (σ:St) (H:Hp) (Q:Bool->Hp->Prop),Inv X pins σ H s->t σ H Q->X∩(isTrue e X.env whole) (TP X pins σ Q) X.xe s
theorem PW.pt {X:Cx}{t:TT}(h:PW X e t):PT X e t:=h _
def PA (X:Cx)(es:List Expr)(t:TA):Prop:=
 ∀(pos:Pos) (pins:List (Addr×Obj)) (s:Shared) (σ:St) (H:Hp) (Q:List V->Hp->Prop),Inv X pins σ H s->t σ H Q->X∩(spliced<|backTo pos<|starEach es X.env) (AP X pins σ Q) X.xe s
def PS (X:Cx)(st:Stmt)(t:TS):Prop:=
 ∀(pins:List (Addr×Obj)) (s:Shared) (σ:St) (H:Hp) (D:b18),Inv X pins σ H s->t D σ H->X∩(exec st X.env) (SP X pins D) X.xe s
def PSs (X:Cx)(st:List Stmt)(t:TS):Prop:=
 ∀(pins:List (Addr×Obj)) (s:Shared) (σ:St) (H:Hp) (D:b18),Inv X pins σ H s->t D σ H->X∩(execs st X.env) (SP X pins D) X.xe s
theorem thn {α:Type}{t:Sem α}{Q Q':α->Shared->Prop}{M:Model}(h:wpAny M A t Q E s)(hQ: ∀a s,Q a s->Q' a s):wpAny M A t Q' E s:=bW h hQ λ_ _ x=>x
section
variable {X:Cx}
def yK (i:Nat):TE:=λσ H Q=> ∃v,σ[i]? =some (some v)/\Q v H
def tC (v:V):TE:=λ_ H Q=>Q v H
theorem pe_var (hN:X.N[i]? =some x)(hv:Vis X.env.scope x)(hd:⇑(x∪0))(hcd:⇑((x==("__classdict__":Str))=false)):PE X (.Name x pos) (yK i):=by
 intro pins s σ H Q I h;obtain⟨v,e,h⟩:=h;obtain⟨m,hn,hl⟩:=I.loc;obtain⟨u,r,l⟩:=hl i x v hN e hv;have fin:EP X pins σ Q u s:=⟨v,H,I,r,h⟩;rcases l with⟨hk,hm⟩| ⟨hk,c,hc,hcell⟩
 .exact nS (pM I.ok.kind hk hn hm fin) hd
 .rcases hk with hk|hk
  .exact nS (wpAny_loadName_cell I.ok.kind hk hc hcell fin) hd
  .exact nS (wpAny_loadName_free I.ok.kind hk hc hcell fin hcd) hd
theorem pe_int {i j pos}:PE X (.Constant (.int i) j pos) (tC<|.int i):=λ_ _ _ H _ I h=>wpAny_Constant_int ⟨.int i,H,I.tok _,⟨_,rfl⟩,h⟩
theorem pe_bl {b j pos}:PE X (.Constant (.bool b) j pos) (tC<|.bl b):=λ_ _ _ H _ I h=>Constant_bool ⟨.bl b,H,I,rfl,h⟩
theorem pe_non {j pos}:PE X (.Constant .none j pos) (tC .non):=λ_ _ _ H _ I h=>Constant_none ⟨.non,H,I,rfl,h⟩
theorem pe_str {x j pos}:PE X (.Constant (.str x) j pos) (tC<|.str x):=λ_ _ _ H _ I h=>Calls.Constant_str ⟨.str x,H,I.tok _,⟨_,rfl⟩,h⟩
def Gl (X:Cx)(x:Str):Prop:=X.env.kindOf x=some .globalImplicit
theorem vT {σ:St}{H:Hp}(I:Inv X pins σ H s)(hg:Gl X x)(hm:X.mg x=some u)(h:Q u s)
  (hd:⇑(x∪0)):X∩(eval (.Name x pos) X.env) Q E s:=
 Calls.Name_function_global I.ok.kind hg (Calls.loadGlobal_global (by rw[I.ok.glob];exact I.mod.glob.keeps I.bk) hm h) hd
theorem uM {σ:St}{H:Hp}(I:Inv X pins σ H s)(hg:Gl X x)(hm:X.mg x=none)(hv:bootBuiltins x=some u)(h:Q u s)
  (hn:⇑(x≠"__name__")) (hd:⇑(x∪0)):X∩(eval (.Name x pos) X.env) Q E s:=by
 obtain⟨mb,h1,h2⟩:=I.mod.blt;exact Calls.Name_function_global I.ok.kind hg (Calls.loadGlobal_builtin (by rw[I.ok.glob];exact I.mod.glob.keeps I.bk) hm (by rw[I.ok.blt];exact h1.keeps I.bk) ((h2 x hn).trans hv) h) hd
theorem cV0 {v:V}(hg:Gl X x)(hm:X.mg x=some u)(r:RelV v u)(hd:⇑(x∪0)):PE X (.Name x pos) (tC v):=
 λ_ _ _ H _ I h=>vT I hg hm ⟨v,H,I,r,h⟩ hd
theorem dP3 {v:V}(hg:Gl X x)(hm:X.mg x=none)(hv:bootBuiltins x=some u)(r:RelV v u)(hn:⇑(x≠"__name__"))(hd:⇑(x∪0)):PE X (.Name x pos) (tC v):=
 λ_ _ _ H _ I h=>uM I hg hm hv ⟨v,H,I,r,h⟩ hn hd
variable {a b:Expr}{ta tb:TE}{pos:Pos}
def PC (X:Cx)(op:CmpOp)(a b:Expr)(t:TE):Prop:=
 ∀(pins:List (Addr×Obj)) (s:Shared) (σ:St) (H:Hp) (Q:VK),Inv X pins σ H s->t σ H Q->
  X∩(eval a X.env) (λv s₁=>X∩(eval b X.env) (λu s₂=>X∩(compareOp op v u) (EP X pins σ Q) X.xe s₂) X.xe s₁) X.xe s
theorem d74 (b:Expr)(h:op≠ .In)(h2:op≠ .NotIn):behindInMarks op b=false:=by
 have e1:(op==CmpOp.In)=false:=by cases op<;>first|rfl|exact absurd rfl h
 have e2:(op==CmpOp.NotIn)=false:=by cases op<;>first|rfl|exact absurd rfl h2
 cases b<;>simp[behindInMarks,e1,e2]
def tIsN (ta:TE):TE:=λσ H Q=>ta σ H λx H1=>Q (.bl<|decide (x= .non)) H1
def e12 (ta:TE):TE:=λσ H Q=>ta σ H λx H1=>Q (.bl<|!decide (x= .non)) H1
theorem RelV.none_iff {x:V}(r:RelV x v):(v==Value.none)=decide (x= .non):=by
 cases x with
 | non=>cases r;rfl
 | bl _=>cases r;rfl
 | int _=>obtain⟨t,rfl⟩:=r;rfl
 | str _=>obtain⟨t,rfl⟩:=r;rfl
 | byt _=>obtain⟨t,rfl⟩:=r;rfl
 | flt _=>obtain⟨t,rfl⟩:=r;rfl
 | ref _=>cases r;rfl
 | ty _=>cases r;rfl
theorem pc_isN {j pos'}(ha:PE X a ta):PC X .Is a (.Constant .none j pos') (tIsN ta):=by
 intro pins s σ H Q I h;refine thn (ha pins s σ H _ I h) λv s1 ⟨x,H1,I1,r1,q1⟩=> ?_
 exact Constant_none (is_none_gen ⟨.bl _,H1,I1,by rw[r1.none_iff];rfl,q1⟩)
theorem dP4 {j pos'}(ha:PE X a ta):PC X .IsNot a (.Constant .none j pos') (e12 ta):=by
 intro pins s σ H Q I h;refine thn (ha pins s σ H _ I h) λv s1 ⟨x,H1,I1,r1,q1⟩=> ?_
 exact Constant_none (isnot_none_gen ⟨.bl _,H1,I1,by rw[r1.none_iff];rfl,q1⟩)
def tB (t:TE):TT:=λσ H Q=>t σ H λx H1=> ∃c,x= .bl c/\Q c H1
theorem d75 {t:TE}(h:PC X op a b t)(h1:behindInMarks op b=false:=by first|exact d74 _ ac ac|rfl):PT X (.Compare a [op] [b] pos) (tB t):=by
 intro pins s σ H Q I hw;refine wpAny_isTrue_Compare1 (thn (h pins s σ H _ I hw) λv s1 h1=>thn h1 λu s2 h2=>thn h2 λc s3 ⟨x,H1,I1,r1,q1⟩=> ?_) h1
 obtain⟨d,rfl,q⟩:=q1;cases r1;exact kU ⟨H1,I1,q⟩
theorem pt_val {t:TE}(h:PE X e t)(he: ∀whole,isTrue e X.env whole=(do let v<-whole;standAt e.pos;holding [v] (truthy v)):=by intro _;rfl):PT X e (tB t):=by
 intro pins s σ H Q I hw;refine isTrue_plain (thn (h pins s σ H _ I hw) λv s1 ⟨x,H1,I1,r1,q1⟩=> ?_) (he _)
 obtain⟨d,rfl,q⟩:=q1;cases r1;exact kU ⟨H1,I1,q⟩
variable {tA tB':TT}{iN:List Expr}
def tAnd (t u:TT):TT:=λσ H Q=>t σ H λc H1=>if c=true then u σ H1 Q else Q false H1
def tOr (t u:TT):TT:=λσ H Q=>t σ H λc H1=>if c=true then Q true H1 else u σ H1 Q
def tNot (t:TT):TT:=λσ H Q=>t σ H λc H1=>Q (!c) H1
theorem dP5 (ha:PT X a tA):PW X (.BoolOp .And [a] pos) tA:=by
 intro wh pins s σ H Q I h;refine isTrue_and (thn (ha pins s σ H Q I h) λc s1 e=> ?_)
 cases c with
 | true=>exact isTrue_and_nil e
 | false=>exact e
theorem pw_or1 (ha:PT X a tA):PW X (.BoolOp .Or [a] pos) tA:=by
 intro wh pins s σ H Q I h;refine isTrue_or (thn (ha pins s σ H Q I h) λc s1 e=> ?_)
 cases c with
 | false=>exact isTrue_or_nil e
 | true=>exact e
theorem pw_and (ha:PT X a tA)(hb:PW X (.BoolOp .And (b::iN) pos) tB'):PW X (.BoolOp .And (a::b::iN) pos) (tAnd tA tB'):=by
 intro wh pins s σ H Q I h;refine isTrue_and (thn (ha pins s σ H _ I h) λc s1 ⟨H1,I1,q1⟩=> ?_)
 cases c with
 | true=>exact hb wh pins s1 σ H1 Q I1 q1
 | false=>exact⟨H1,I1,q1⟩
theorem pw_or (ha:PT X a tA)(hb:PW X (.BoolOp .Or (b::iN) pos) tB'):PW X (.BoolOp .Or (a::b::iN) pos) (tOr tA tB'):=by
 intro wh pins s σ H Q I h;refine isTrue_or (thn (ha pins s σ H _ I h) λc s1 ⟨H1,I1,q1⟩=> ?_)
 cases c with
 | true=>exact⟨H1,I1,q1⟩
 | false=>exact hb wh pins s1 σ H1 Q I1 q1
theorem pt_not (ha:PT X a tA):PT X (.UnaryOp .Not a pos) (tNot tA):=by
 intro pins s σ H Q I h;exact isTrue_not (ha pins s σ H (λc H1=>Q (!c) H1) I h)
def tAndV (ta tb:TE):TE:=λσ H Q=>ta σ H λx H1=> ∃c,x= .bl c/\if c=true then tb σ H1 Q else Q (.bl false) H1
def tNotV (ta:TE):TE:=λσ H Q=>ta σ H λx H1=> ∃c,x= .bl c/\Q (.bl<|!c) H1
theorem pe_one {op}{t:TE}(h:PE X a t):PE X (.BoolOp op [a] pos) t:=λpins s σ H Q I hw=>BoolOp_one (h pins s σ H Q I hw)
theorem pe_and (ha:PE X a ta)(hb:PE X (.BoolOp .And (b::iN) pos) tb):PE X (.BoolOp .And (a::b::iN) pos) (tAndV ta tb):=by
 intro pins s σ H Q I h;refine BoolOp_and (thn (ha pins s σ H _ I h) λv s1 ⟨x,H1,I1,r1,q1⟩=> ?_)
 obtain⟨c,rfl,q1⟩:=q1;cases r1;refine kU ?_;cases c with
 | true=>exact hb pins s1 σ H1 Q I1 q1
 | false=>exact⟨.bl false,H1,I1,rfl,q1⟩
theorem pe_not (ha:PE X a ta):PE X (.UnaryOp .Not a pos) (tNotV ta):=by
 intro pins s σ H Q I h;refine UnaryOp_ (thn (ha pins s σ H _ I h) λv s1 ⟨x,H1,I1,r1,q1⟩=> ?_)
 obtain⟨c,rfl,q1⟩:=q1;cases r1;exact not_of (kU ⟨.bl<|!c,H1,I1,rfl,q1⟩)
def tIf (t:TT)(ta tb:TE):TE:=λσ H Q=>t σ H λc H1=>if c=true then ta σ H1 Q else tb σ H1 Q
theorem d76 (hc:PT X c tA)(ha:PE X a ta)(hb:PE X b tb):PE X (.IfExp c a b pos) (tIf tA ta tb):=by
 intro pins s σ H Q I h;refine wpAny_IfExp (thn (hc pins s σ H _ I h) λd s1 ⟨H1,I1,q1⟩=> ?_)
 cases d with
 | true=>exact ha pins s1 σ H1 Q I1 q1
 | false=>exact hb pins s1 σ H1 Q I1 q1
end
def SqL (K:Frag)(H:Hp)(a:Addr)(xs:List V):Prop:=
 Rd H a (.lst xs)\/
  ∃(o:Obj) (its:Array Value) (n:Nat),K.lookup a=some o/\o.cls= .type "list"/\o.dict=none/\o.data= .seq its n/\its.size<=sizeLine/\Vals xs its.toList
def SqT (K:Frag)(H:Hp)(a:Addr)(xs:List V):Prop:=
 Rd H a (.tup xs)\/
  ∃(o:Obj) (its:Array Value) (n:Nat),K.lookup a=some o/\o.cls= .type "tuple"/\o.data= .seq its n/\its.size<=sizeLine/\Vals xs its.toList
nonrec def absV:Value->Option V
 | .none=>some .non
 | .bool b=>some (.bl b)
 | .int i _=>some (.int i)
 | .str x _=>some (.str x)
 | .bytes b _=>some (.byt b)
 | .float b _=>some (.flt b)
 | .ref a=>some (.ref a)
 | .type n=>some (.ty n)
 | _=>none
theorem RelV.abs {x:V}(r:RelV x u):absV u=some x:=by
 cases x with
 | non=>cases r;rfl
 | bl _=>cases r;rfl
 | int _=>obtain⟨t,rfl⟩:=r;rfl
 | str _=>obtain⟨t,rfl⟩:=r;rfl
 | byt _=>obtain⟨t,rfl⟩:=r;rfl
 | flt _=>obtain⟨t,rfl⟩:=r;rfl
 | ref _=>cases r;rfl
 | ty _=>cases r;rfl
theorem RelV.inj {x y:V}(r:RelV x u)(q:RelV y u):x=y:=eG (r.abs.symm.trans q.abs)
theorem Vals.inj: ∀{xs ys:List V} {us:List Value},Vals xs us->Vals ys us->xs=ys
 | _,_,_,.nil,.nil=>rfl
 | _,_,_,.cons r t,.cons r' t'=>by rw[r.inj r',Vals.inj t t']
section
variable {X:Cx}{pins:List (Addr×Obj)}{σ:St}{H:Hp}{s:Shared}{a:Addr}{xs ys:List V}
theorem SqL.of (h:H a=some (.lst xs)):SqL K H a xs:= .inl (.inl h)
theorem Inv.list (I:Inv X pins σ H s)(h:SqL X.K H a xs): ∃its:List Value,Vals xs its/\PlainL s.heap a its.toArray/\xs.length<=sizeLine:=by
 rcases h with h| ⟨o,its,n,hk,hc,hd,hs,hz,r⟩
 .obtain⟨z,its,n,r,e⟩:=h.ok I.hok;exact⟨its,r,⟨_,n,e,rfl,rfl,rfl⟩,z⟩
 .refine⟨its.toList,r,⟨o,n,I.kIn a o hk,hc,hd,by exists hs⟩,?_⟩
  have e:=r.length;simp only[aP1]at e
  lia
theorem Inv.tuple (I:Inv X pins σ H s)(h:SqT X.K H a xs): ∃its:List Value,Vals xs its/\IsTup s.heap a its.toArray/\xs.length<=sizeLine:=by
 rcases h with h| ⟨o,its,n,hk,hc,hs,hz,r⟩
 .obtain⟨z,its,r,p⟩:=h.ok I.hok;exact⟨its,r,p,z⟩
 .refine⟨its.toList,r,⟨o,I.kIn a o hk,hc,n,by exists hs⟩,?_⟩
  have e:=r.length;simp only[aP1]at e
  lia
theorem Inv.list_inj (I:Inv X pins σ H s)(h:SqL X.K H a xs)(h':SqL X.K H a ys):xs=ys:=by
 obtain⟨its,r,⟨o,n,e,_,_,d⟩,_⟩:=I.list h;obtain⟨its',r',⟨o',n',e',_,_,d'⟩,_⟩:=I.list h';rw[e]at e';cases e';rw[d]at d'
 injection d' with d1 _
 have:its=its':=by simpa using fK toList d1
 subst this;exact r.inj r'
theorem Inv.tuple_inj (I:Inv X pins σ H s)(h:SqT X.K H a xs)(h':SqT X.K H a ys):xs=ys:=by
 obtain⟨its,r,⟨o,e,_,n,d⟩,_⟩:=I.tuple h;obtain⟨its',r',⟨o',e',_,n',d'⟩,_⟩:=I.tuple h';rw[e]at e';cases e';rw[d]at d'
 injection d' with d1 _
 have:its=its':=by simpa using fK toList d1
 subst this;exact r.inj r'
end
noncomputable abbrev Cx.wish (X:Cx)(E:Value->Shared->Prop):Cx:={X with xe:=E}
noncomputable abbrev Cx.nox (X:Cx):Cx:=X.wish λ_ _=>False
theorem Cx.Ok.wish {X:Cx}(ok:X.Ok)(E:Value->Shared->Prop):(X.wish E).Ok:=
 ⟨ok.mod,ok.kind,ok.glob,ok.blt,ok.above,ok.inj,ok.has,ok.cab,ok.hd,ok.frames,ok.stk,ok.exf,ok.bs,ok.bsz,ok.noex,ok.exfs,ok.funs,ok.frf⟩
theorem Cx.Ok.unwish {X:Cx}(ok:(X.wish E).Ok):X.Ok:=
 ⟨ok.mod,ok.kind,ok.glob,ok.blt,ok.above,ok.inj,ok.has,ok.cab,ok.hd,ok.frames,ok.stk,ok.exf,ok.bs,ok.bsz,ok.noex,ok.exfs,ok.funs,ok.frf⟩
section
variable {X:Cx}{pins:List (Addr×Obj)}{σ:St}{H:Hp}{s:Shared}{E:Value->Shared->Prop}
theorem Inv.wish (I:Inv X pins σ H s)(E:Value->Shared->Prop):Inv (X.wish E) pins σ H s:=⟨I.ok.wish E,I.os,I.bare,I.base,I.loc,I.cell,I.free,I.freeC,I.pin,I.hok,I.len⟩
theorem Inv.unwish (I:Inv (X.wish E) pins σ H s):Inv X pins σ H s:=⟨I.ok.unwish,I.os,I.bare,I.base,I.loc,I.cell,I.free,I.freeC,I.pin,I.hok,I.len⟩
theorem SP.unwish {D:b18}{f:Flow}(h:SP (X.wish E) pins D f s'):SP X pins D f s':=by
 cases f with
 | next=>obtain⟨σ',H',I,q⟩:=h;exact⟨σ',H',I.unwish,q⟩
 | brk=>obtain⟨σ',H',I,q⟩:=h;exact⟨σ',H',I.unwish,q⟩
 | cont=>obtain⟨σ',H',I,q⟩:=h;exact⟨σ',H',I.unwish,q⟩
 | ret u=>obtain⟨v,σ',H',I,r,q⟩:=h;exact⟨v,σ',H',I.unwish,r,q⟩
theorem PSs.nox {st:List Stmt}{t:TS}(h:PSs X.nox st t):PSs X st t:=λpins s σ H D I hw=>
 bW (h pins s σ H D (I.wish _) hw) (λ_ _ q=>q.unwish) λ_ _ z=>False.elim z
end
section
variable {X:Cx}{st:Stmt}{iN:List Stmt}{t u:TS}{e:Expr}{te:TE}{pos:Pos}
def tNext:TS:=λD σ H=>D.nx σ H
def tSeq (t u:TS):TS:=λD σ H=>t {D with nx:=u D} σ H
theorem bC4:PSs X [] tNext:=λ_ _ σ H _ I h=>nL ⟨σ,H,I,h⟩
theorem l8 (h1:PS X st t)(h2:PSs X iN u):PSs X (st::iN) (tSeq t u):=by
 intro pins s σ H D I h;refine u9 (thn (h1 pins s σ H {D with nx:=u D} I h) λf s1 q=> ?_)
 cases f with
 | next=>
  obtain⟨σ',H',I',q⟩:=q;exact h2 pins s1 σ' H' D I' q
 | ret v=>exact q
 | brk=>exact q
 | cont=>exact q
theorem bC5 (h1:PS X st t):PSs X [st] t:=by
 intro pins s σ H D I h;refine u9 (thn (h1 pins s σ H D I h) λf s1 q=> ?_)
 cases f with
 | next=>exact nL q
 | ret v=>exact q
 | brk=>exact q
 | cont=>exact q
theorem Inv.quiet {σ:St}{H:Hp}(I:Inv X pins σ H s):interactive X.env=false:=by simp[interactive,I.ok.kind]
def tDrop (te:TE):TS:=λD σ H=>te σ H λ_ H1=>D.nx σ H1
theorem aH3 (he:PE X e te)(hs:↥(swapsWith e none pos.line X.env=pure false)):PS X (.Expr e pos) (tDrop te):=by
 intro pins s σ H D I h;exact wpAny_Expr_any (thn (he pins s σ H _ I h) λv s1 ⟨x,H1,I1,r1,q1⟩=>⟨σ,H1,I1,q1⟩) I.quiet hs
def tRet (te:TE):TS:=λD σ H=>te σ H D.rt
theorem d77 (he:PE X e te):PS X (.Return (some e) pos) (tRet te):=by
 intro pins s σ H D I h;exact wpAny_Return_some (thn (he pins s σ H _ I h) λv s1 ⟨x,H1,I1,r1,q1⟩=>⟨x,σ,H1,I1,r1,q1⟩)
def tIfS (c:TT)(t u:TS):TS:=λD σ H=>c σ H λb H1=>if b=true then t D σ H1 else u D σ H1
theorem cA4 {a b:List Stmt}{tc:TT}(hc:PT X c tc)(ha:PSs X a t)(hb:PSs X b u):PS X (.If c a b pos) (tIfS tc t u):=by
 intro pins s σ H D I h;refine wpAny_If (thn (hc pins s σ H _ I h) λd s1 ⟨H1,I1,q1⟩=> ?_)
 cases d with
 | true=>exact ha pins s1 σ H1 D I1 q1
 | false=>exact hb pins s1 σ H1 D I1 q1
def tNever:TS:=λ_ _ _=>False
theorem d78:PS X st tNever:=λ_ _ _ _ _ _ h=>h.elim
end
abbrev TG:=V->St->Hp->(St->Hp->Prop)->Prop
abbrev TGs:=List V->St->Hp->(St->Hp->Prop)->Prop
def PG (X:Cx)(target:Expr)(t:TG):Prop:=
 ∀(pins:List (Addr×Obj)) (s:Shared) (σ:St) (H:Hp) (v:V) (u:Value) (Q:St->Hp->Prop),Inv X pins σ H s->RelV v u->t v σ H Q->
  X∩(assign target X.env u) (λ_ s'=> ∃σ' H',Inv X pins σ' H' s'/\Q σ' H') X.xe s
def PGs (X:Cx)(ts:List Expr)(t:TGs):Prop:=
 ∀(pins:List (Addr×Obj)) (s:Shared) (σ:St) (H:Hp) (vs:List V) (us:List Value) (Q:St->Hp->Prop),Inv X pins σ H s->Vals vs us->t vs σ H Q->
  X∩(assignInOrder ((assignEach ts X.env).map (·.2)) us) (λ_ s'=> ∃σ' H',Inv X pins σ' H' s'/\Q σ' H') X.xe s
abbrev d79:=V->V->V->Hp->(Hp->Prop)->Prop
def PSet (X:Cx)(t:d79):Prop:=
 ∀(pins:List (Addr×Obj)) (s:Shared) (σ:St) (H:Hp) (o i v:V) (ov iv u:Value) (Q:Hp->Prop),Inv X pins σ H s->RelV o ov->RelV i iv->RelV v u->t o i v H Q->
  X∩(setItem ov iv u) (λ_ s'=> ∃H',Inv X pins σ H' s'/\Q H') X.xe s
abbrev TIp:=V->V->Hp->VK->Prop
def PIp (X:Cx)(op:Operator)(t:TIp):Prop:=
 ∀(pins:List (Addr×Obj)) (s:Shared) (σ:St) (H:Hp) (x y:V) (v u:Value) (Q:VK),Inv X pins σ H s->RelV x v->RelV y u->t x y H Q->
  X∩(inplaceOp op v u) (EP X pins σ Q) X.xe s
section
variable {X:Cx}{pos:Pos}
def a75 (i:Nat):TG:=λv σ H Q=>Q (σ.set i<|some v) H
theorem cV (hN:X.N.Nodup)(hi:X.N[i]? =some x)(hx:Loc X.env.scope x)(hf:X.fn x=true\/X.env.scope.names.lookup x=some .local:=by walk_at "z"):PG X (.Name x pos) (a75 i):=by
 intro pins s σ H v u Q I r h;exact wpAny_assign_Name (yJ I hN hi hx r (λs' I'=>⟨_,H,I',h⟩) hf)
def gNil:TGs:=λvs σ H Q=>vs=[]/\Q σ H
def gCons (t:TG)(u:TGs):TGs:=λvs σ H Q=> ∃v r,vs=v::r/\t v σ H λσ' H'=>u r σ' H' Q
theorem dP6:PGs X [] gNil:=by
 intro pins s σ H vs us Q I r h;obtain⟨e,h⟩:=h;exact assignInOrder_nil ⟨σ,H,I,h⟩
theorem cA5 {e:Expr}{es:List Expr}{t:TG}{u:TGs}(h1:PG X e t)(h2:PGs X es u)
  (hs:↥((assignEach (e::es) X.env).map (·.2)=assign e X.env::(assignEach es X.env).map (·.2))):PGs X (e::es) (gCons t u):=by
 intro pins s σ H vs us Q I r h;obtain⟨v,vr,e1,h⟩:=h;subst e1;cases r with
 | cons r rr=>
  rw[hs];refine aP3 (thn (h1 pins s σ H _ _ _ I r h) λ_ s1 ⟨σ1,H1,I1,q1⟩=> ?_)
  exact h2 pins s1 σ1 H1 _ _ Q I1 rr q1
def gTup (K:Frag)(n:Nat)(t:TGs):TG:=λv σ H Q=> ∃a xs,v= .ref a/\SqT K H a xs/\xs.length=n/\t xs σ H Q
theorem pg_tup {t:TGs}(hc:X.calm=true)(h:PGs X es t)
  (hn:↥((assignEach es X.env).length=n)) (hst:↥((assignEach es X.env).findIdx? (·.1)=none)):PG X (.Tuple es k pos) (gTup X.K n t):=by
 intro pins s σ H v u Q I r hw;obtain⟨a,xs,e1,hq,hl,hw⟩:=hw;subst e1;cases r;obtain⟨its,rv,ht,hz⟩:=I.tuple hq;refine assign_Tuple_tuple (I.ok.hd hc) ht (by simp[hn,<-hl,rv.length]) hst λh' hx=> ?_
 have I1:Inv X pins σ H {s with heap:=h'}:=I.kept λb o e=>hx b o (bM<|aW e) e
 exact h pins _ σ H xs _ Q I1 (by exists rv) hw
def gSub (to ti:TE)(t:d79):TG:=λv σ H Q=>to σ H λo H1=>ti σ H1 λi H2=>t o i v H2 λH3=>Q σ H3
theorem cL5 {o i:Expr}{to ti:TE}{t:d79}(ho:PE X o to)(hi:PE X i ti)(hs:PSet X t)
  (ha: ∀v,assign (.Subscript o i pos) X.env v=(do
   let ov<-holding [v] (eval o X.env)
   let iv<-holding [v,ov] (eval i X.env)
   standAt pos
   holding [v,ov,iv] (setItem ov iv v)
   release [v,ov,iv] []):=by intro _;rfl):PG X (.Subscript o i pos) (gSub to ti t):=by
 intro pins s σ H v u Q I r h;refine a9 (iZ<|thn (ho pins s σ H _ I h) λov s1 ⟨x,H1,I1,r1,q1⟩=> ?_)
 refine a9 (iZ<|thn (hi pins s1 σ H1 _ I1 q1) λiv s2 ⟨y,H2,I2,r2,q2⟩=> ?_)
 refine a9 (nO<|a9<|iZ<|thn (hs pins s2 σ H2 x y v ov iv u _ I2 r1 r2 r q2) λ_ s3 ⟨H3,I3,q3⟩=> ?_)
 exact wpAny_release ⟨σ,H3,I3,q3⟩
def dP7 (te:TE)(g:TG):TS:=λD σ H=>te σ H λx H1=>g x σ H1 D.nx
theorem cL6 {te:TE}{g:TG}(he:PE X e te)(hg:PG X tg g)(hs:↥(swapsWithSole [tg] e pos.line X.env=pure false))(hw:↥(swappedStores [tg] e X.env=pure none))
  (h1:↥((assignEach [tg] X.env).map (·.2)=[assign tg X.env])):PS X (.Assign [tg] e pos) (dP7 te g):=by
 intro pins s σ H D I h;refine wpAny_Assign_stores (thn (he pins s σ H _ I h) λv s1 ⟨x,H1,I1,r1,q1⟩=> ?_) hs hw
 rw[h1];exact thn (hg pins s1 σ H1 x v _ I1 r1 q1) λ_ s2 q=>q
theorem d80 {te:TE}(hN:X.N.Nodup)(hi:X.N[i]? =some x)(hx:Loc X.env.scope x)(he:PE X e te)(hs:↥(swapsWith e (some<|.Name x pos') pos.line X.env=pure false))(hf:X.fn x=true\/X.env.scope.names.lookup x=some .local:=by walk_at "z") :
  PS X (.Assign [.Name x pos'] e pos) (dP7 te<|a75 i):=by
 intro pins s σ H D I h;refine wpAny_Assign_Name (thn (he pins s σ H _ I h) λv s1 ⟨y,H1,I1,r1,q1⟩=> ?_) hs
 exact yJ I1 hN hi hx r1 (λs2 I2=>⟨_,H1,I2,q1⟩) hf
def tPar (i j:Nat)(ta:TA):TS:=λD σ H=>ta σ H λvs H1=> ∃v w,vs=[v,w]/\D.nx ((σ.set i<|some v).set j<|some w) H1
theorem ps_par {a b:Expr}{ta:TA}{px pt:Pos}{kt k2 pt2}(hc:X.calm=true)(hN:X.N.Nodup)(hi:X.N[i]? =some x)(hj:X.N[j]? =some y)(hij:i≠j)
  (hx:X.env.scope.names.lookup x=some .local) (hy:X.env.scope.names.lookup y=some .local) (ha:PA X [a,b] ta)
  (hw:swappedStores [.Tuple [.Name x px,.Name y py] kt pt] (.Tuple [a,b] k2 pt2) X.env=pure (some [x,y]))
  (hs:↥(swapsWithSole [.Tuple [.Name x px,.Name y py] kt pt] (.Tuple [a,b] k2 pt2) pos.line X.env=pure false)) :
  PS X (.Assign [.Tuple [.Name x px,.Name y py] kt pt] (.Tuple [a,b] k2 pt2) pos) (tPar i j ta):=by
 intro pins s σ H D I h;refine a9 (nO ?_);refine a9 (aP ?_);refine a9 (Tuple_<|thn (ha _ pins s σ H _ I h) λus s1 ⟨vs,H1,I1,r1,q1⟩=> ?_)
 obtain⟨v,w,e1,q1⟩:=q1;subst e1;obtain⟨u1,u2,rfl,rv,rw'⟩: ∃u1 u2,us=[u1,u2]/\RelV v u1/\RelV w u2:=by
  cases r1 with
  | cons p q=>
   cases q with
   | cons p' q'=>
    cases q';exact⟨_,_,rfl,p,p'⟩
 refine jX ?_ (by show 2<=sizeLine;decide)
 have I2:Inv X pins σ H1 {s1 with heap:=s1.heap.push {cls:= .type "tuple",data:= .seq [u1,u2].toArray}}:=I1.kept λb o e=>aV _ e
 rw[hw];refine a9 (aP ?_);refine a9 (qB<|a9<|unpackItems_tuple (items:= #[u1,u2]) (I.ok.hd hc) (qD s1.heap _) λh' hx'=> ?_)
 have I3:=I2.kept (t':=s1.toks) λb o e=>hx' b o (bM<|aW e) e
 refine a9 (aP3<|wpAny_bindName<|yJ I3 hN hj (.inl hy) rw' (λs2 I4=> ?_)<|.inr hy)
 refine aP3 (wpAny_bindName<|yJ I4 hN hi (.inl hx) rv (λs3 I5=>assignInOrder_nil (aP ?_))<|.inr hx)
 rw[set_comm _ _<|Ne.symm hij]at I5;exact⟨_,H1,I5,q1⟩
def tAug (i:Nat)(te:TE)(ti:TIp):TS:=λD σ H=> ∃x,σ[i]? =some (some x)/\te σ H λy H1=>ti x y H1 λz H2=>D.nx (σ.set i<|some z) H2
theorem ps_aug {te:TE}{op:Operator}{ti:TIp}(hN:X.N.Nodup)(hi:X.N[i]? =some x)(hx:Loc X.env.scope x)(he:PE X e te)(ho:PIp X op ti)(hf:X.fn x=true\/X.env.scope.names.lookup x=some .local:=by walk_at "z") :
  PS X (.AugAssign (.Name x pos') op e pos) (tAug i te ti):=by
 intro pins s σ H D I h;obtain⟨v,e1,h⟩:=h;obtain⟨m,hn,hl⟩:=I.loc;have vis:Vis X.env.scope x:=by rcases hx with k|k;exact .inl k;exact .inr (.inl k)
 obtain⟨u,r,l⟩:=hl i x v hi e1 vis;refine wpAny_AugAssign_Name ?_;have go:X∩(eval e X.env) (λw s₂=>X∩(inplaceOp op u w) (λr s₃=>X∩(storeName X.env x r) (λ_=>SP X pins D .next) X.xe s₃) X.xe s₂) X.xe s:=by
  refine thn (he pins s σ H _ I h) λw s1 ⟨y,H1,I1,r1,q1⟩=> ?_
  refine thn (ho pins s1 σ H1 v y u w _ I1 r r1 q1) λz s2 ⟨zv,H2,I2,r2,q2⟩=> ?_
  exact yJ I2 hN hi hx r2 (λs3 I3=>⟨_,H2,I3,q2⟩) hf
 rcases l with⟨hk,hm⟩| ⟨hk,c,hc,hcell⟩
 .exact pM I.ok.kind hk hn hm go
 .rcases hk with hk|hk
  .exact wpAny_loadName_cell I.ok.kind hk hc hcell go
  .rcases hx with k|k
   .have:X.env.scope.names.lookup x=some .free:=hk;rw[k]at this;cases this
   .have:X.env.scope.names.lookup x=some .free:=hk;rw[k]at this;cases this
def tAugS (to ti te:TE)(tget:V->V->Hp->VK->Prop)(tip:TIp)(tset:d79):TS:=λD σ H=>to σ H λo H1=>ti σ H1 λi H2=>tget o i H2 λx H3=>te σ H3 λy H4=>tip x y H4 λz H5=>tset o i z H5 λH6=>D.nx σ H6
def PGet (X:Cx)(t:V->V->Hp->VK->Prop):Prop:=
 ∀(pins:List (Addr×Obj)) (s:Shared) (σ:St) (H:Hp) (o i:V) (ov iv:Value) (Q:VK),Inv X pins σ H s->RelV o ov->RelV i iv->t o i H Q->
  X∩(getItem ov iv) (EP X pins σ Q) X.xe s
theorem dP8 {o i:Expr}{to ti te:TE}{tget:V->V->Hp->VK->Prop}{tip:TIp}{tset:d79}{op:Operator}(ho:PE X o to)(hi:PE X i ti)(hg:PGet X tget)(he:PE X e te)(hp:PIp X op tip)(hs:PSet X tset)
  (ha: ∀ov iv new,augStore i ov iv new=(do holding [new,ov,iv] (setItem ov iv new);release [new,ov,iv] [];pure .next):=by intros;rfl):PS X (.AugAssign (.Subscript o i tpos) op e pos) (tAugS to ti te tget tip tset):=by
 intro pins s σ H D I h;refine wpAny_AugAssign_SubscriptAny (thn (ho pins s σ H _ I h) λov s1 ⟨x1,H1,I1,r1,q1⟩=> ?_) ha
 refine thn (hi pins s1 σ H1 _ I1 q1) λiv s2 ⟨x2,H2,I2,r2,q2⟩=> ?_
 refine thn (hg pins s2 σ H2 x1 x2 ov iv _ I2 r1 r2 q2) λold s3 ⟨x3,H3,I3,r3,q3⟩=> ?_
 refine thn (he pins s3 σ H3 _ I3 q3) λv s4 ⟨x4,H4,I4,r4,q4⟩=> ?_
 refine thn (hp pins s4 σ H4 x3 x4 old v _ I4 r3 r4 q4) λnew s5 ⟨x5,H5,I5,r5,q5⟩=> ?_
 exact thn (hs pins s5 σ H5 x1 x2 x5 ov iv new _ I5 r1 r2 r5 q5) λ_ s6 ⟨H6,I6,q6⟩=>⟨σ,H6,I6,q6⟩
def ipI (f:Int->Int->Int):TIp:=λx y H Q=> ∃i j,x= .int i/\y= .int j/\Q (.int<|f i j) H
theorem ip_add:PIp X .Add (ipI λi j=>i+j):=by
 intro pins s σ H x y v u Q I r1 r2 h;obtain⟨i,j,e1,e2,q⟩:=h;subst e1;subst e2;obtain⟨t,rfl⟩:=r1;obtain⟨t',rfl⟩:=r2;exact iadd_int ⟨.int _,H,I.tok _,⟨_,rfl⟩,q⟩
theorem d81:PIp X .Sub (ipI λi j=>i-j):=by
 intro pins s σ H x y v u Q I r1 r2 h;obtain⟨i,j,e1,e2,q⟩:=h;subst e1;subst e2;obtain⟨t,rfl⟩:=r1;obtain⟨t',rfl⟩:=r2;exact isub_int ⟨.int _,H,I.tok _,⟨_,rfl⟩,q⟩
end
section
variable {X:Cx}{pos:Pos}
def tWhile (c:TT)(tb:TS):TS:=λD σ H=> ∃W:Nat->St->Hp->Prop,(∃m,W m σ H)/\ ∀m σ H,W m σ H->
 c σ H λb H1=>if b=true then ∃N:St->Hp->Prop,(∀σ' H',N σ' H'-> ∃m',m'<m/\W m' σ' H')/\tb {D with nx:=N,ct:=N,bk:=D.nx} σ H1 else D.nx σ H1
theorem d82 {tc:TT}{tb:TS}(hp:PassesOwn (model X.prog X.w) X.A X.env X.xe)(hc:PT X c tc)(hb:PSs X body tb):PS X (.While c body [] pos) (tWhile tc tb):=by
 intro pins s σ H D I h;obtain⟨W,⟨m0,w0⟩,turn⟩:=h;refine wpAny_While (codeAny_whileLoop (λn s'=> ∃σ' H',Inv X pins σ' H' s'/\W n σ' H') ?_ m0 ⟨σ,H,I,w0⟩)
 rintro n s1 ⟨σ1,H1,I1,w1⟩;refine nM hp (thn (hc pins s1 σ1 H1 _ I1<|turn n σ1 H1 w1) λb s2 ⟨H2,I2,q2⟩=> ?_)
 cases b with
 | true=>
  obtain⟨N,hN,q2⟩:=q2;refine nM hp (thn (hb pins s2 σ1 H2 _ I2 q2) λf s3 q3=> ?_)
  cases f with
  | next=>
   obtain⟨σ3,H3,I3,n3⟩:=q3;obtain⟨m',hm,w3⟩:=hN σ3 H3 n3;exact⟨m',hm,σ3,H3,I3,w3⟩
  | cont=>
   obtain⟨σ3,H3,I3,n3⟩:=q3;obtain⟨m',hm,w3⟩:=hN σ3 H3 n3;exact⟨m',hm,σ3,H3,I3,w3⟩
  | brk=>exact q3
  | ret v=>exact q3
 | false=>
  exact nL ⟨σ1,H2,I2,q2⟩
end
structure It where
 go:Nat->Hp->Prop
 yld:Nat->Hp->V->Hp->Prop
 stop:Nat->Hp->Prop
def b19 (X:Cx)(pins:List (Addr×Obj))(H:Hp)(b:Addr):Prop:=
 H b=none/\b≠X.env.locals/\b ∉ X.fs/\(b∈X.ex\/X.s₀.heap.objs.size<=b)/\(∀x c,X.env.cells.lookup x=some c->c≠b)/\ ∀p∈X.pn++pins,p.1≠b
theorem Inv.fpOk {X:Cx}{σ:St}{H H':Hp}(I:Inv X pins σ H s)(hb:s.heap.objs.size<=b)(hn:H' b=none):b19 X pins H' b:=by
 refine⟨hn,pX<|b9 I.lt hb,I.nofs hb,.inr<|aH I.sz hb,λx c e z=> ?_,λp hp z=> ?_⟩
 .obtain⟨v,q⟩:=I.cell x c e;exact absurd (b9 q.lt (by rw[z];exact hb)) (dX _)
 .exact absurd (b9 (aW (I.pin p hp).1) (by rw[z];exact hb)) (dX _)
structure cA6 (P:Program)(w:World)(K:Frag)(tg:Expr)(J:It)(fp:List Addr)(it:Addr)(tn:Nat->Heap->Prop):Prop where
 mem:it∈fp
 obj: ∀i h,tn i h-> ∀b∈fp,∃o,h.get? b=some o/\ ∀v,o.data≠ .cell v
 keep: ∀i h h',tn i h->(∀b∈fp,∀o,h.get? b=some o->h'.get? b=some o)->tn i h'
 item: ∀(X:Cx),X.prog=P->X.w=w->X.K=K->X.calm=true-> ∀(i:Nat) (pins:List (Addr×Obj)) (s:Shared) (σ:St) (H:Hp) (E:Value->Shared->Prop),Inv X pins σ H s->(∀b∈fp,b19 X pins H b)->tn i s.heap->J.go i H->
  wpAny (model P w) X.A (pyNext<|.ref it) (λr s1=> ∃u,r=some u/\
   wpAny (model P w) X.A (letOwnedTupleGo tg (.ref it) u) (λ_ s2=> ∃x H',Inv X pins σ H' s2/\RelV x u/\J.yld i H x H'/\tn (i+1) s2.heap/\ ∀b∈fp,H' b=none) E s1) E s
 done: ∀(X:Cx),X.prog=P->X.w=w->X.K=K->X.calm=true-> ∀(i:Nat) (pins:List (Addr×Obj)) (s:Shared) (σ:St) (H:Hp) (E:Value->Shared->Prop),Inv X pins σ H s->(∀b∈fp,b19 X pins H b)->tn i s.heap->J.stop i H->
  wpAny (model P w) X.A (pyNext<|.ref it) (λr s1=>r=none/\Inv X pins σ H s1) E s
 self: ∀(A:Around) (i:Nat) (s:Shared) (Q:Value->Shared->Prop) (E:Value->Shared->Prop),tn i s.heap->Q (.ref it) s->wpAny (model P w) A (pyIter<|.ref it) Q E s
abbrev TI:=St->Hp->(It->Hp->Prop)->Prop
def PIE (X:Cx)(pins:List (Addr×Obj))(σ:St)(tg:Expr)(R:It->Hp->Prop)(itv:Value)(s2:Shared):Prop:=
 ∃(it:Addr) (fp:List Addr) (tn:Nat->Heap->Prop) (J:It) (H':Hp),itv= .ref it/\Inv X pins σ H' s2/\cA6 X.prog X.w X.K tg J fp it tn/\tn 0 s2.heap/\(∀b∈fp,b19 X pins H' b)/\R J H'
def PI (X:Cx)(tg iter:Expr)(wi:TI):Prop:=
 ∀(pins:List (Addr×Obj)) (s:Shared) (σ:St) (H:Hp) (R:It->Hp->Prop),Inv X pins σ H s->wi σ H R->
  X∩(eval iter X.env) (λv s1=>X∩(pyIter v) (PIE X pins σ tg R) X.xe s1) X.xe s
theorem cA7 {M:Model}{n:String}{Q:Unit->Shared->Prop}(ho:s.heap.get? it=some o)(hc:o.cls= .type n)(hd:o.data= .fields vs)
  (hn:["enumerate","zip","dict_itemiterator","dict_reverseitemiterator","odict_iterator","itertools.zip_longest","itertools.pairwise"].contains n=false) (hQ:Q () s):wpAny M A (letOwnedTupleGo tg (.ref it) u) Q E s:=by
 unfold letOwnedTupleGo;cases tg<;>first
  | exact aP hQ
  | (cases u<;>first
    | exact aP hQ
    | (refine a9 (wpAny_load ho ?_)
       rw[hc,hd];show wpAny M A (if(["enumerate","zip","dict_itemiterator","dict_reverseitemiterator","odict_iterator","itertools.zip_longest","itertools.pairwise"].contains n&&vs[0]? ==some (rawInt _))=true then _ else _) Q E s;rw[a7 (by intro h;rw[hn,fH]at h;cases h)]
       exact aP hQ))
nonrec def Itl (K:Frag)(a:Addr):It:=
 ⟨λi H=> ∃xs x,SqL K H a xs/\xs[i]? =some x,λi H x H'=>H'=H/\ ∀xs,SqL K H a xs->xs[i]? =some x,λi H=> ∃xs,SqL K H a xs/\xs.length<=i⟩
nonrec def Itt (K:Frag)(a:Addr):It:=
 ⟨λi H=> ∃xs x,SqT K H a xs/\xs[i]? =some x,λi H x H'=>H'=H/\ ∀xs,SqT K H a xs->xs[i]? =some x,λi H=> ∃xs,SqT K H a xs/\xs.length<=i⟩
nonrec def Itr (lo:Int)(n:Nat):It:=⟨λi _=>i<n,λi H x H'=>H'=H/\x= .int (lo+i),λi _=>n<=i⟩
theorem d06 (a it:Addr):cA6 P w K tg (Itl K a) [it] it (λi h=>h.IsListIter it a i) where
 mem:=ae
 obj:=λi h st b hb=>by
  have e:b=it:=by exists hb
  subst e;obtain⟨o,e,c,d⟩:=st;exact⟨o,e,λv z=>by rw[d]at z;cases z⟩
 keep:=λi h h' st k=>st.at λo e=>k it ae o e
 item:=by
  intro X hP hw hK hc i pins s σ H E I hf st hg;subst hP hw hK;obtain⟨xs,x,hq,hx⟩:=hg;obtain⟨its,rv,p,hz⟩:=I.list hq;obtain⟨u,hu,ru⟩:=rv.get hx;obtain⟨f0,f1,f2,f3,f4,f5⟩:=hf it ae
  refine wpAny_pyNext_list_item st p.isList (by exists hu) λh' st' sb=> ?_
  have I1:Inv X pins σ H {s with heap:=h'}:=I.turned (λb o hb e=>(sb.2 b hb).trans e) f0 f1 f3 f4 f5
  obtain⟨o,e,c,d⟩:=id st';exact⟨u,rfl,cA7 e c d ac ⟨x,H,I1,ru,⟨rfl,λys hy=>by rw[I.list_inj hy hq];exact hx⟩,st',λb hb=>(hf b hb).1⟩⟩
 done:=by
  intro X hP hw hK hc i pins s σ H E I hf st hg;subst hP hw hK;obtain⟨xs,hq,hx⟩:=hg;obtain⟨its,rv,p,hz⟩:=I.list hq;obtain⟨f0,f1,f2,f3,f4,f5⟩:=hf it ae
  have hl:=rv.length;exact wpAny_pyNext_list_end (I.ok.hd hc) st p.isList (by simp;lia) λh' eb=>⟨rfl,I.turned (λb o hb e=>eb b o hb e) f0 f1 f3 f4 f5⟩
 self:=λ_ _ _ _ _ st h=>wpAny_pyIter_listiter st h
theorem cL7 (a it:Addr):cA6 P w K tg (Itt K a) [it] it (λi h=>h.IsTupleIter it a i) where
 mem:=ae
 obj:=λi h st b hb=>by
  have e:b=it:=by exists hb
  subst e;obtain⟨o,e,c,d⟩:=st;exact⟨o,e,λv z=>by rw[d]at z;cases z⟩
 keep:=λi h h' st k=>st.at λo e=>k it ae o e
 item:=by
  intro X hP hw hK hc i pins s σ H E I hf st hg;subst hP hw hK;obtain⟨xs,x,hq,hx⟩:=hg;obtain⟨its,rv,p,hz⟩:=I.tuple hq;obtain⟨u,hu,ru⟩:=rv.get hx;obtain⟨f0,f1,f2,f3,f4,f5⟩:=hf it ae
  refine wpAny_pyNext_tuple_item st (show s.heap.IsTuple a its.toArray from p) (by exists hu) λh' st' sb=> ?_
  have I1:Inv X pins σ H {s with heap:=h'}:=I.turned (λb o hb e=>(sb.2 b hb).trans e) f0 f1 f3 f4 f5
  obtain⟨o,e,c,d⟩:=id st';exact⟨u,rfl,cA7 e c d ac ⟨x,H,I1,ru,⟨rfl,λys hy=>by rw[I.tuple_inj hy hq];exact hx⟩,st',λb hb=>(hf b hb).1⟩⟩
 done:=by
  intro X hP hw hK hc i pins s σ H E I hf st hg;subst hP hw hK;obtain⟨xs,hq,hx⟩:=hg;obtain⟨its,rv,p,hz⟩:=I.tuple hq;obtain⟨f0,f1,f2,f3,f4,f5⟩:=hf it ae
  have hl:=rv.length;exact wpAny_pyNext_tuple_end (I.ok.hd hc) st (show s.heap.IsTuple a its.toArray from p) (by simp;lia) λh' eb=>⟨rfl,I.turned (λb o hb e=>eb b o hb e) f0 f1 f3 f4 f5⟩
 self:=λ_ _ _ _ _ st h=>wpAny_pyIter_tupleiter st h
theorem cL8 (it:Addr)(lo:Int)(n:Nat):cA6 P w K tg (Itr lo n) [it] it (λi h=>IsRangeIter h it (lo+(i:Nat)*1) ((n:Int)-(i:Nat)) 1) where
 mem:=ae
 obj:=λi h st b hb=>by
  have e:b=it:=by exists hb
  subst e;exact⟨_,st,λv z=>by
   have z':Data.fields _=Data.cell v:=z;cases z'⟩
 keep:=λi h h' st k=>k it ae _ st
 item:=by
  intro X hP hw hK hc i pins s σ H E I hf st hg;subst hP hw hK;obtain⟨f0,f1,f2,f3,f4,f5⟩:=hf it ae
  have W:=Walks.range (prog:=X.prog) (w:=X.w) (I.ok.hd hc) it lo 1 n;refine W.item i s _ _ hg st λv h' tk hv st' kk=> ?_
  obtain⟨t,rfl⟩:=hv;have I1:Inv X pins σ H {s with heap:=h',toks:=tk}:=I.turned (λb o hb e=>kk b o (by exists hb) e) f0 f1 f3 f4 f5
  refine⟨_,rfl,cA7 st' rfl rfl ac ⟨.int<|lo+i,H,I1,⟨t,?_⟩,⟨rfl,rfl⟩,st',λb hb=>(hf b hb).1⟩⟩
  rw[pZ]
 done:=by
  intro X hP hw hK hc i pins s σ H E I hf st hg;obtain⟨f0,f1,f2,f3,f4,f5⟩:=hf it ae
  exact wpAny_pyNext_range_end (I.ok.hd hc) st (by have:n<=i:=hg;lia) λh' eb=>⟨rfl,I.turned (λb o hb e=>eb b o hb e) f0 f1 f3 f4 f5⟩
 self:=λ_ _ _ _ _ st h=>aN8 st h
section
variable {X:Cx}{tg:Expr}
theorem cA8 {σ:St}{H:Hp}{R:It->Hp->Prop}{hi:Int}{t u v:Tok}(I:Inv X pins σ H s)(h1: -(2^62)<=lo)(h2:lo<2^62)(h3: -(2^62)<=hi)(h4:hi<2^62)
  (q:R (Itr lo (hi-lo).toNat) H):X∩(pyIter<|.ref s.heap.objs.size) (PIE X pins σ tg R) E {s with heap:=s.heap.push {cls:= .type "range",data:= .fields #[.int lo t,.int hi u,.int 1 v]},toks:=tk}:=by
 refine wpAny_pyIter_range (IsRange.new ..) (small_one h1 h2 h3 h4) ?_
 have I1:Inv X pins σ H {s with heap:=s.heap.push {cls:= .type "range",data:= .fields #[.int lo t,.int hi u,.int 1 v]},toks:=tk}:=I.kept λb o e=>aV _ e
 refine⟨(s.heap.push {cls:= .type "range",data:= .fields #[.int lo t,.int hi u,.int 1 v]}).objs.size,[(s.heap.push {cls:= .type "range",data:= .fields #[.int lo t,.int hi u,.int 1 v]}).objs.size],_,_,H,rfl,
  I1.kept (t':=tk) λb o e=>aV _ e,cL8 _ lo (hi-lo).toNat,?_,λb hb=> ?_,q⟩
 .have e1:lo+((0:Nat):Int)*1=lo:=ae
  have e2:(((hi-lo).toNat:Nat):Int)-((0:Nat):Int)=Builtin.Range.rangeSize lo hi 1:=by rw[rangeSize_one];split<;>lia
  show IsRangeIter _ _ (lo+((0:Nat):Int)*1) ((((hi-lo).toNat:Nat):Int)-((0:Nat):Int)) 1
  rw[e1,e2];exact cD _ rfl
 .have e:b=(s.heap.push {cls:= .type "range",data:= .fields #[.int lo t,.int hi u,.int 1 v]}).objs.size:=by exists hb
  subst e;exact I1.fpOk (aK _) (I1.hok.fresh<|aK _)
def iRng1 (ta:TA):TI:=λσ H R=>ta σ H λvs H1=> ∃j:Int,vs=[.int j]/\ -(2^62)<=j/\j<2^62/\R (Itr 0 j.toNat) H1
def iRng2 (ta:TA):TI:=λσ H R=>ta σ H λvs H1=> ∃i j:Int,vs=[.int i,.int j]/\(-(2^62)<=i/\i<2^62/\ -(2^62)<=j/\j<2^62)/\R (Itr i (j-i).toNat) H1
theorem d07 {a:Expr}{ta:TA}(hg:Gl X "range")(hm:X.mg "range"=none)(ha:PA X [a] ta)(hs:↥(starEach [a] X.env=[(false,eval a X.env)])):PI X tg (.Call (.Name "range" p) [a] [] pos) (iRng1 ta):=by
 intro pins s σ H R I h;refine Call_ (uM I hg hm boot_range<|jV (thn (ha pos pins s σ H _ I h) λus s1 ⟨vs,H1,I1,r1,q1⟩=> ?_) hs rfl)
 obtain⟨j,e,q1,q2,q⟩:=q1;subst e;cases r1 with
 | cons r rr=>
  cases rr;obtain⟨t,rfl⟩:=r;exact call_range_1 (cA8 I1 ad ad q1 q2<|by exists q)
theorem d08 {a b:Expr}{ta:TA}(hg:Gl X "range")(hm:X.mg "range"=none)(ha:PA X [a,b] ta)(hs:↥(starEach [a,b] X.env=[(false,eval a X.env),(false,eval b X.env)]))(hs2:↥(starEach [b] X.env=[(false,eval b X.env)])) :
  PI X tg (.Call (.Name "range" p) [a,b] [] pos) (iRng2 ta):=by
 intro pins s σ H R I h;refine Call_ (uM I hg hm boot_range<|jV (thn (ha pos pins s σ H _ I h) λus s1 ⟨vs,H1,I1,r1,q1⟩=> ?_) (by rw[hs,hs2]) (by rw[hs2];rfl))
 obtain⟨i,j,e,⟨q1,q2,q3,q4⟩,q⟩:=q1;subst e;cases r1 with
 | cons r rr=>
  cases rr with
  | cons r' rr=>
   cases rr;obtain⟨t,rfl⟩:=r;obtain⟨t',rfl⟩:=r';exact call_range_2 (cA8 I1 q1 q2 q3 q4 q)
def tFor (wi:TI)(g:TG)(tb:TS):TS:=λD σ H=>wi σ H λJ H1=> ∃W:Nat->Nat->St->Hp->Prop,(∃m,W 0 m σ H1)/\ ∀i m σ H,W i m σ H->
 (J.stop i H/\D.nx σ H)\/(J.go i H/\ ∃N:St->Hp->Prop,(∀σ' H',N σ' H'-> ∃m',m'<m/\W (i+1) m' σ' H')/\ ∀x H',J.yld i H x H'->g x σ H' λσ2 H2=>tb {D with nx:=N,ct:=N,bk:=D.nx} σ2 H2)
nonrec def bF1 (fp:List Addr)(h:Heap):List (Addr×Obj):=fp.filterMap λb=>(h.get? b).map λo=>(b,o)
theorem a14 (hb:b∈fp)(e:h.get? b=some o):(b,o)∈bF1 fp h:=aP4.mpr ⟨b,hb,by rw[e];rfl⟩
theorem d09 {p:Addr×Obj}(hp:p∈bF1 fp h):p.1∈fp/\h.get? p.1=some p.2:=by
 obtain⟨b,hb,e⟩:=aP4.mp hp;cases q:h.get? b with
 | none=>rw[q]at e;cases e
 | some o=>
  rw[q]at e;have e':(b,o)=p:=eG e;subst e';exact⟨hb,q⟩
theorem Inv.pinned {σ:St}{H:Hp}(I:Inv X pins σ H s)(hf: ∀b∈fp,b19 X pins H b)(ho: ∀b∈fp,∃o,s.heap.get? b=some o/\ ∀v,o.data≠ .cell v):Inv X (pins++bF1 fp s.heap) σ H s:=
 I.pins_of λp hp=>(cR.mp hp).elim (λz=>I.pin p (eZ _ z)) λz=>by
  obtain⟨hb,e⟩:=d09 z;obtain⟨f0,f1,f2,_⟩:=hf p.1 hb;obtain⟨o,e',d⟩:=ho p.1 hb;rw[e]at e';cases e';exact⟨e,f0,f1,f2,d⟩
theorem Inv.unpinned {pl:List (Addr×Obj)}{σ:St}{H:Hp}(I:Inv X (pins++pl) σ H s):Inv X pins σ H s:=I.pins_of λp hp=>I.pin p (eZ _<|pL _ hp)
theorem ps_for {wi:TI}{g:TG}{tb:TS}(hp:PassesOwn (model X.prog X.w) X.A X.env X.xe)(hc:X.calm=true)(hi:PI X tg iter wi)(hg:PG X tg g)(hb:PSs X body tb)
  (hs: ∀x,foldedSetIterable iter X.env x=pure x:=by intro _;rfl):PS X (.For tg iter body [] pos) (tFor wi g tb):=by
 intro pins s σ H D I h;refine wpAny_For (thn (hi pins s σ H _ I h) λv s1 h1=>thn h1 λitv s2 h2=> ?_) hs
 obtain⟨it,fp,tn,J,H2,e,I2,T,st2,f2,W,⟨m0,w0⟩,turn⟩:=h2;subst e;have stat: ∀{H':Hp},(∀b∈fp,H' b=none)-> ∀b∈fp,b19 X pins H' b:=λhn b hb=>⟨hn b hb,(f2 b hb).2⟩
 refine codeAny_forLoop_any (λn s'=> ∃i σ' H',Inv X pins σ' H' s'/\tn i s'.heap/\(∀b∈fp,H' b=none)/\W i n σ' H') ?_ m0 ⟨0,σ,H2,I2,st2,λb hb=>(f2 b hb).1,w0⟩
 rintro n s3 ⟨i,σ3,H3,I3,st3,fr3,w3⟩;rcases turn i n σ3 H3 w3 with⟨stop,qn⟩| ⟨go,N,hN,step⟩
 .refine nM hp (thn (T.done X rfl rfl rfl hc i pins s3 σ3 H3 X.xe I3 (stat fr3) st3 stop) λr s4 ⟨hr,I4⟩=> ?_)
  subst hr;exact nL ⟨σ3,H3,I4,qn⟩
 .refine nM hp (thn (T.item X rfl rfl rfl hc i pins s3 σ3 H3 X.xe I3 (stat fr3) st3 go) λr s4 ⟨u,hr,h4⟩=> ?_)
  subst hr;refine nM hp (thn h4 λ_ s5 ⟨x,H5,I5,r5,y5,st5,fr5⟩=> ?_)
  have I5':=I5.pinned (stat fr5) (T.obj _ _ st5);refine nM hp (thn (hg _ s5 σ3 H5 x u _ I5' r5<|step x H5 y5) λ_ s6 ⟨σ6,H6,I6,q6⟩=> ?_)
  refine nM hp (thn (hb _ s6 σ6 H6 _ I6 q6) λf s7 q7=> ?_)
  have again: ∀{σ7:St} {H7:Hp},Inv X (pins++bF1 fp s5.heap) σ7 H7 s7->N σ7 H7-> ∃m,m<n/\ ∃i σ' H',Inv X pins σ' H' s7/\tn i s7.heap/\(∀b∈fp,H' b=none)/\W i m σ' H':=λ{σ7 H7} I7 n7=>by
   obtain⟨m',hm,w7⟩:=hN σ7 H7 n7;refine⟨m',hm,i+1,σ7,H7,I7.unpinned,T.keep _ _ _ st5 λb hb o e=>(I7.pin (b,o)<|eZ _<|eZ _<|a14 hb e).1,λb hb=> ?_,w7⟩
   obtain⟨o,e,d⟩:=T.obj _ _ st5 b hb;exact(I7.pin (b,o)<|eZ _<|eZ _<|a14 hb e).2.1
  cases f with
  | next=>obtain⟨σ7,H7,I7,n7⟩:=q7;exact again I7 n7
  | cont=>obtain⟨σ7,H7,I7,n7⟩:=q7;exact again I7 n7
  | brk=>obtain⟨σ7,H7,I7,q7⟩:=q7;exact⟨σ7,H7,I7.unpinned,q7⟩
  | ret v=>obtain⟨x7,σ7,H7,I7,r7,q7⟩:=q7;exact⟨x7,σ7,H7,I7.unpinned,r7,q7⟩
end
abbrev R2:=V->V->Hp->VK->Prop
def OpR (X:Cx)(f:Value->Value->Sem Value)(r:R2):Prop:=
 ∀(pins:List (Addr×Obj)) (s:Shared) (σ:St) (H:Hp) (x y:V) (v u:Value) (Q:VK),Inv X pins σ H s->RelV x v->RelV y u->r x y H Q->
  X∩(f v u) (EP X pins σ Q) X.xe s
def UnR (X:Cx)(f:Value->Sem Value)(r:V->Hp->VK->Prop):Prop:=
 ∀(pins:List (Addr×Obj)) (s:Shared) (σ:St) (H:Hp) (x:V) (v:Value) (Q:VK),Inv X pins σ H s->RelV x v->r x H Q->
  X∩(f v) (EP X pins σ Q) X.xe s
def oE (X:Cx)(f:Value)(r:List V->Hp->VK->Prop):Prop:=
 ∀(pins:List (Addr×Obj)) (s:Shared) (σ:St) (H:Hp) (xs:List V) (us:List Value) (Q:VK),Inv X pins σ H s->Vals xs us->r xs H Q->
  X∩(call f us) (EP X pins σ Q) X.xe s
def tOp (r:R2)(ta tb:TE):TE:=λσ H Q=>ta σ H λx H1=>tb σ H1 λy H2=>r x y H2 Q
def tUn (r:V->Hp->VK->Prop)(ta:TE):TE:=λσ H Q=>ta σ H λx H1=>r x H1 Q
def rI (C:Int->Int->Prop)(g:Int->Int->V):R2:=λx y H Q=> ∃i j,x= .int i/\y= .int j/\C i j/\Q (g i j) H
def rI0 (g:Int->Int->V):R2:=λx y H Q=> ∃i j,x= .int i/\y= .int j/\Q (g i j) H
def rU (g:Int->V):V->Hp->VK->Prop:=λx H Q=> ∃i,x= .int i/\Q (g i) H
section
variable {X:Cx}{a b c:Expr}{ta tb tc:TE}{pos:Pos}
theorem binT (ha:PE X a ta)(hb:PE X b tb){σ:St}{H:Hp}{R:V->V->Hp->Prop}(I:Inv X pins σ H s)
  (h:ta σ H λx H1=>tb σ H1 λy H2=>R x y H2) {Q:Value->Shared->Prop} {f:Value->Value->Sem Value}
  (hf: ∀v u s2 x y H2,Inv X pins σ H2 s2->RelV x v->RelV y u->R x y H2->X∩(f v u) Q X.xe s2) :
  X∩(eval a X.env) (λv s₁=>X∩(eval b X.env) (λu s₂=>X∩(f v u) Q X.xe s₂) X.xe s₁) X.xe s:=by
 refine thn (ha pins s σ H _ I h) λv s1 ⟨x,H1,I1,r1,q1⟩=> ?_
 refine thn (hb pins s1 σ H1 _ I1 q1) λu s2 ⟨y,H2,I2,r2,q2⟩=> ?_
 exact hf v u s2 x y H2 I2 r1 r2 q2
theorem pe_op {op:Operator}{r:R2}(ho:OpR X (binaryOp op) r)(ha:PE X a ta)(hb:PE X b tb):PE X (.BinOp a op b pos) (tOp r ta tb):=by
 intro pins s σ H Q I h;exact wpAny_BinOp (binT ha hb I h λv u s2 x y H2 I2 rx ry q=>ho pins s2 σ H2 x y v u Q I2 rx ry q)
theorem pe_un {op:UnaryOp}{r:V->Hp->VK->Prop}(ho:UnR X (unaryOp op) r)(ha:PE X a ta):PE X (.UnaryOp op a pos) (tUn r ta):=by
 intro pins s σ H Q I h;exact UnaryOp_ (thn (ha pins s σ H _ I h) λv s1 ⟨x,H1,I1,r1,q1⟩=>ho pins s1 σ H1 x v Q I1 r1 q1)
theorem opI {f:Value->Value->Sem Value}{C:Int->Int->Prop}{g:Int->Int->Int}
  (rule: ∀(i j:Int) (t u:Tok) (s:Shared) (Q:Value->Shared->Prop) (E:Value->Shared->Prop),C i j->Q (.int (g i j) s.toks) {s with toks:=s.toks+1}->X∩(f (.int i t)<|.int j u) Q E s) :
  OpR X f (rI C λi j=> .int (g i j)):=by
 intro pins s σ H x y v u Q I rx ry h;obtain⟨i,j,rfl,rfl,hc,q⟩:=h;obtain⟨t,rfl⟩:=rx;obtain⟨t',rfl⟩:=ry;exact rule i j t t' s _ _ hc ⟨.int<|g i j,H,I.tok _,⟨_,rfl⟩,q⟩
theorem opI0 {f:Value->Value->Sem Value}{g:Int->Int->Int}
  (rule: ∀(i j:Int) (t u:Tok) (s:Shared) (Q:Value->Shared->Prop) (E:Value->Shared->Prop),Q (.int (g i j) s.toks) {s with toks:=s.toks+1}->X∩(f (.int i t)<|.int j u) Q E s) :
  OpR X f (rI0 λi j=> .int (g i j)):=by
 intro pins s σ H x y v u Q I rx ry h;obtain⟨i,j,rfl,rfl,q⟩:=h;obtain⟨t,rfl⟩:=rx;obtain⟨t',rfl⟩:=ry;exact rule i j t t' s _ _ ⟨.int<|g i j,H,I.tok _,⟨_,rfl⟩,q⟩
theorem dP9 {f:Value->Value->Sem Value}{g:Int->Int->Bool}
  (rule: ∀(i j:Int) (t u:Tok) (s:Shared) (Q:Value->Shared->Prop) (E:Value->Shared->Prop),Q (.bool<|g i j) s->X∩(f (.int i t)<|.int j u) Q E s) :
  OpR X f (rI0 λi j=> .bl (g i j)):=by
 intro pins s σ H x y v u Q I rx ry h;obtain⟨i,j,rfl,rfl,q⟩:=h;obtain⟨t,rfl⟩:=rx;obtain⟨t',rfl⟩:=ry;exact rule i j t t' s _ _ ⟨.bl<|g i j,H,I,rfl,q⟩
def dQ0 (i j:Int):Prop:=0<=j/\j<=1000000/\i.natAbs<2^64
def bQ0 (i j:Int):Prop:=(-(2^64)<i/\i<2^64)\/(-(2^64)<j/\j<2^64)
theorem bQ0.ok {i j:Int}(h:bQ0 i j):IntMulOk i j:=by
 rcases h with⟨h1,h2⟩| ⟨h1,h2⟩
 .exact .of_left (intBits_le_64 h1 h2)
 .exact .of_right (intBits_le_64 h1 h2)
theorem op_add:OpR X (binaryOp .Add) (rI0 λi j=> .int (i+j)):=opI0 λ_ _ _ _ _ _ _ q=>add_int q
theorem op_sub:OpR X (binaryOp .Sub) (rI0 λi j=> .int (i-j)):=opI0 λ_ _ _ _ _ _ _ q=>sub_int q
theorem dQ1:OpR X (binaryOp .Mod) (rI (λ_ j=>j≠0) λi j=> .int (i.fmod j)):=opI λ_ _ _ _ _ _ _ hc q=>mod_int' hc q
theorem op_pow:OpR X (binaryOp .Pow) (rI dQ0 λi j=> .int (i^j.toNat)):=opI λ_ _ _ _ _ _ _ hc q=>pow_int_small hc.1 hc.2.1 hc.2.2 q
theorem unI {f:Value->Sem Value}{g:Int->Int}
  (rule: ∀(i:Int) (t:Tok) (s:Shared) (Q:Value->Shared->Prop) (E:Value->Shared->Prop),Q (.int (g i) s.toks) {s with toks:=s.toks+1}->X∩(f<|.int i t) Q E s) :
  UnR X f (rU λi=> .int (g i)):=by
 intro pins s σ H x v Q I rx h;obtain⟨i,rfl,q⟩:=h;obtain⟨t,rfl⟩:=rx;exact rule i t s _ _ ⟨.int<|g i,H,I.tok _,⟨_,rfl⟩,q⟩
theorem un_neg:UnR X (unaryOp .USub) (rU λi=> .int (-i)):=unI λ_ _ _ _ _ q=>neg_int q
end
nonrec def scal:V->V->Bool
 | .non,.non=>true| .non,.int _=>true| .int _,.non=>true| .non,.bl _=>true| .bl _,.non=>true| .non,.str _=>true| .str _,.non=>true
 | .int _,.int _=>true| .bl _,.bl _=>true| .str _,.str _=>true| .byt _,.byt _=>true
 | .int _,.str _=>true| .str _,.int _=>true| .bl _,.str _=>true| .str _,.bl _=>true
 | _,_=>false
nonrec def rEq:R2:=λx y H Q=>scal x y=true/\Q (.bl<|decide (x=y)) H
nonrec def rNe:R2:=λx y H Q=>scal x y=true/\Q (.bl<|!decide (x=y)) H
theorem bC6 {i j:Int}:decide (V.int i=V.int j)=(i==j):=by
 rw[uB];simp
theorem c08 {i j:Bool}:decide (V.bl i=V.bl j)=(i==j):=by
 rw[uB];simp
theorem bC7 {i j:Str}:decide (V.str i=V.str j)=(i==j):=by
 rw[uB];simp
theorem cV1 {i j:Array UInt8}:decide (V.byt i=V.byt j)=(i.toList==j.toList):=by
 rw[uB];cases i;cases j;simp
section
variable {X:Cx}{a b c:Expr}{ta tb tc:TE}{pos:Pos}
theorem fT {σ:St}{H:Hp}{Q:VK}{k k':Bool}(I:Inv X pins σ H s)(q:Q (.bl k) H)(e:k=k'):EP X pins σ Q (.bool k') s:=by
 subst e;exact⟨.bl k,H,I,rfl,q⟩
theorem d83:OpR X (compareOp .Eq) rEq:=by
 intro pins s σ H x y v u Q I rx ry h;obtain⟨hs,q⟩:=h;cases x with
 | non=>
  cases rx;cases y with
  | non=>cases ry;exact PySem.EqNone.eq_none_none (fT I q ae)
  | bl j=>cases ry;exact PySem.EqNone.eq_none_bool (fT I q ae)
  | int j=>obtain⟨t',rfl⟩:=ry;exact PySem.EqNone.eq_none_int (fT I q ae)
  | str j=>obtain⟨t',rfl⟩:=ry;exact PySem.EqNone.eq_none_str (fT I q ae)
  | _=>exact absurd (show false=true from hs) cK
 | bl i=>
  cases rx;cases y with
  | non=>cases ry;exact PySem.EqNone.eq_bool_none (fT I q ae)
  | bl j=>cases ry;exact eq_bool (fT I q c08)
  | str j=>obtain⟨t',rfl⟩:=ry;exact PySem.EqMixed.eq_bool_str (fT I q ae)
  | _=>exact absurd (show false=true from hs) cK
 | int i=>
  obtain⟨t,rfl⟩:=rx;cases y with
  | non=>cases ry;exact PySem.EqNone.eq_int_none (fT I q ae)
  | int j=>obtain⟨t',rfl⟩:=ry;exact eq_int (fT I q bC6)
  | str j=>obtain⟨t',rfl⟩:=ry;exact PySem.EqMixed.eq_int_str (fT I q ae)
  | _=>exact absurd (show false=true from hs) cK
 | str i=>
  obtain⟨t,rfl⟩:=rx;cases y with
  | non=>cases ry;exact PySem.EqNone.eq_str_none (fT I q ae)
  | bl j=>cases ry;exact PySem.EqMixed.eq_str_bool (fT I q ae)
  | int j=>obtain⟨t',rfl⟩:=ry;exact PySem.EqMixed.eq_str_int (fT I q ae)
  | str j=>obtain⟨t',rfl⟩:=ry;exact eq_str (fT I q bC7)
  | _=>exact absurd (show false=true from hs) cK
 | byt i=>
  obtain⟨t,rfl⟩:=rx;cases y with
  | byt j=>obtain⟨t',rfl⟩:=ry;exact PySem.W.eq_bytes (fT I q cV1)
  | _=>exact absurd (show false=true from hs) cK
 | _=>cases y<;>exact absurd (show false=true from hs) cK
theorem d84:OpR X (compareOp .NotEq) rNe:=by
 intro pins s σ H x y v u Q I rx ry h;obtain⟨hs,q⟩:=h;cases x with
 | non=>
  cases rx;cases y with
  | non=>cases ry;exact PySem.EqNone.ne_none_none (fT I q ae)
  | bl j=>cases ry;exact PySem.EqNone.ne_none_bool (fT I q ae)
  | int j=>obtain⟨t',rfl⟩:=ry;exact PySem.EqNone.ne_none_int (fT I q ae)
  | str j=>obtain⟨t',rfl⟩:=ry;exact PySem.EqNone.ne_none_str (fT I q ae)
  | _=>exact absurd (show false=true from hs) cK
 | bl i=>
  cases rx;cases y with
  | non=>cases ry;exact PySem.EqNone.ne_bool_none (fT I q ae)
  | bl j=>cases ry;exact ne_bool (fT I q<|fK not c08)
  | str j=>obtain⟨t',rfl⟩:=ry;exact PySem.EqMixed.ne_bool_str (fT I q ae)
  | _=>exact absurd (show false=true from hs) cK
 | int i=>
  obtain⟨t,rfl⟩:=rx;cases y with
  | non=>cases ry;exact PySem.EqNone.ne_int_none (fT I q ae)
  | int j=>obtain⟨t',rfl⟩:=ry;exact ne_int (fT I q<|fK not bC6)
  | str j=>obtain⟨t',rfl⟩:=ry;exact PySem.EqMixed.ne_int_str (fT I q ae)
  | _=>exact absurd (show false=true from hs) cK
 | str i=>
  obtain⟨t,rfl⟩:=rx;cases y with
  | non=>cases ry;exact PySem.EqNone.ne_str_none (fT I q ae)
  | bl j=>cases ry;exact PySem.EqMixed.ne_str_bool (fT I q ae)
  | int j=>obtain⟨t',rfl⟩:=ry;exact PySem.EqMixed.ne_str_int (fT I q ae)
  | str j=>obtain⟨t',rfl⟩:=ry;exact ne_str (fT I q<|fK not bC7)
  | _=>exact absurd (show false=true from hs) cK
 | byt i=>
  obtain⟨t,rfl⟩:=rx;cases y with
  | byt j=>obtain⟨t',rfl⟩:=ry;exact PySem.W.ne_bytes (fT I q<|fK not cV1)
  | _=>exact absurd (show false=true from hs) cK
 | _=>cases y<;>exact absurd (show false=true from hs) cK
theorem op_lt:OpR X (compareOp .Lt) (rI0 λi j=> .bl (decide (i<j))):=dP9 λ_ _ _ _ _ _ _ q=>lt_int q
theorem op_le:OpR X (compareOp .LtE) (rI0 λi j=> .bl (decide (i<=j))):=dP9 λ_ _ _ _ _ _ _ q=>le_int q
theorem op_gt:OpR X (compareOp .Gt) (rI0 λi j=> .bl (decide (j<i))):=dP9 λ_ _ _ _ _ _ _ q=>gt_int q
theorem op_ge:OpR X (compareOp .GtE) (rI0 λi j=> .bl (decide (j<=i))):=dP9 λ_ _ _ _ _ _ _ q=>ge_int q
theorem bF2 (b:Expr)(h:⇑(op≠ .In))(h2:⇑(op≠ .NotIn)):behindInMarks op b=false:=by
 have e1:(op==CmpOp.In)=false:=by cases op<;>first|rfl|exact absurd rfl h
 have e2:(op==CmpOp.NotIn)=false:=by cases op<;>first|rfl|exact absurd rfl h2
 cases b<;>simp[behindInMarks,e1,e2]
theorem dQ2 {r:R2}(ho:OpR X (compareOp op) r)(ha:PE X a ta)(hb:PE X b tb)(hm:behindInMarks op b=false):PE X (.Compare a [op] [b] pos) (tOp r ta tb):=by
 intro pins s σ H Q I h;exact wpAny_Compare1 (binT ha hb I h λv u s2 x y H2 I2 rx ry q=>ho pins s2 σ H2 x y v u Q I2 rx ry q) hm
def tTest (t:TE):TT:=λσ H Q=>t σ H λx H'=> ∃k,x= .bl k/\Q k H'
theorem dQ3 {r:R2}(ho:OpR X (compareOp op) r)(ha:PE X a ta)(hb:PE X b tb)(hm:behindInMarks op b=false):PT X (.Compare a [op] [b] pos) (tTest<|tOp r ta tb):=by
 intro pins s σ H Q I h;refine wpAny_isTrue_Compare1 (thn (ha pins s σ H _ I h) λv s1 ⟨x,H1,I1,r1,q1⟩=>thn (hb pins s1 σ H1 _ I1 q1) λu s2 ⟨y,H2,I2,r2,q2⟩=>
  thn (ho pins s2 σ H2 x y v u _ I2 r1 r2 q2) λc s3 ⟨z,H3,I3,r3,k,e,q3⟩=> ?_) hm
 subst e;cases r3;exact kU ⟨H3,I3,q3⟩
def tChain (r r':R2)(ta tb tc:TE):TE:=λσ H Q=>ta σ H λx H1=>tb σ H1 λy H2=>r x y H2 λz H3=> ∃k,z= .bl k/\
 (if k=true then tc σ H3 λw' H4=>r' y w' H4 Q else Q (.bl false) H3)
theorem d85 {op op':CmpOp}{r r':R2}(ho:OpR X (compareOp op) r)(ho':OpR X (compareOp op') r')(ha:PE X a ta)(hb:PE X b tb)(hc:PE X c tc)
  (hm:lastMarks [op,op'] [b,c]=false:=by with_unfolding_all rfl):PE X (.Compare a [op,op'] [b,c] pos) (tChain r r' ta tb tc):=by
 intro pins s σ H Q I h;refine Compare_chain (thn (ha pins s σ H _ I h) λv s1 ⟨x,H1,I1,r1,q1⟩=>chain_link (thn (hb pins s1 σ H1 _ I1 q1) λu s2 ⟨y,H2,I2,r2,q2⟩=>
  thn (ho pins s2 σ H2 x y v u _ I2 r1 r2 q2) λd s3 ⟨z,H3,I3,r3,k,e,q3⟩=> ?_)) hm
 subst e;cases r3;refine kU ?_;cases k with
 | false=>exact ite_ff ⟨.bl false,H3,I3,rfl,q3⟩
 | true=>exact ite_tt (chain_last<|thn (hc pins s3 σ H3 _ I3 q3) λw' s4 ⟨z',H4,I4,r4,q4⟩=>ho' pins s4 σ H4 y z' u w' Q I4 r2 r4 q4)
theorem b20:(sizeLine:Nat)<2^63:=by rw[sizeLine_eq];decide
theorem vals1 {x:V}(r:Vals [x] us): ∃u,us=[u]/\RelV x u:=by
 cases r with
 | cons r1 r2=>cases r2;exact⟨_,rfl,r1⟩
theorem vals2 {x y:V}(r:Vals [x,y] us): ∃u w',us=[u,w']/\RelV x u/\RelV y w':=by
 cases r with
 | cons r1 r2=>
  cases r2 with
  | cons r3 r4=>cases r4;exact⟨_,_,rfl,r1,r3⟩
theorem d86:oE X (.builtin "abs") (λxs H Q=> ∃i,xs=[.int i]/\Q (.int<|if i<0 then -i else i) H):=by
 intro pins s σ H xs us Q I r h;obtain⟨i,rfl,q⟩:=h;obtain⟨u,rfl,t,rfl⟩:=vals1 r;exact call_abs_int λu tk=>⟨.int<|if i<0 then -i else i,H,I.tok _,⟨_,rfl⟩,q⟩
theorem d10 (hc:X.calm=true):oE X (.builtin "max") (λxs H Q=> ∃i j,xs=[.int i,.int j]/\Q (.int<|if j>i then j else i) H):=by
 intro pins s σ H xs us Q I r h;obtain⟨i,j,rfl,q⟩:=h;obtain⟨u,w',rfl,⟨t,rfl⟩,⟨t',rfl⟩⟩:=vals2 r;refine max_two_ints (I.ok.hd hc) λh' tk k=>⟨_,H,I.kept k,?_,q⟩
 by_cases hj:j>i
 .rw[aA hj,aA hj];exact⟨_,rfl⟩
 .rw[a7 hj,a7 hj];exact⟨_,rfl⟩
theorem d11 (hc:X.calm=true):oE X (.builtin "min") (λxs H Q=> ∃i j,xs=[.int i,.int j]/\Q (.int<|if j<i then j else i) H):=by
 intro pins s σ H xs us Q I r h;obtain⟨i,j,rfl,q⟩:=h;obtain⟨u,w',rfl,⟨t,rfl⟩,⟨t',rfl⟩⟩:=vals2 r;refine min_two_ints (I.ok.hd hc) λh' tk k=>⟨_,H,I.kept k,?_,q⟩
 by_cases hj:j<i
 .rw[aA hj,aA hj];exact⟨_,rfl⟩
 .rw[a7 hj,a7 hj];exact⟨_,rfl⟩
theorem bU2:oE X (.type "int") (λxs H Q=>(∃i,xs=[.int i]/\Q (.int i) H)\/ ∃k,xs=[.bl k]/\Q (.int<|if k then 1 else 0) H):=by
 intro pins s σ H xs us Q I r h;rcases h with⟨i,rfl,q⟩| ⟨k,rfl,q⟩
 .obtain⟨u,rfl,t,rfl⟩:=vals1 r;exact call_int_int ⟨.int i,H,I,⟨_,rfl⟩,q⟩
 .obtain⟨u,rfl,r1⟩:=vals1 r;cases r1;exact call_int_bool ⟨.int<|if k then 1 else 0,H,I.tok _,⟨_,rfl⟩,q⟩
end
structure d12 (h:Heap)(x dx C:Addr)(mA:Str->Option Value):Prop where
 obj:h.get? x=some (instObj C dx)
 ns:h.Ns1 dx mA
 ne:dx≠x
theorem d13 {mA:Str->Option Value}(n:h.Ns1 dx mA): ∃od,h.get? dx=some od/\ ∀name,lookIn name od=some (mA name):=by
 obtain⟨o,es,ep,ho,hd,hk,_,hm⟩:=n;refine⟨o,ho,λname=> ?_⟩
 have e:=hm name;unfold nsFind findBy at e;rw[<-Array.find?_toList]at e;unfold lookIn;rw[hd];right;split
 .rename_i y q
  rw[q]at e;exact fK some e
 .rename_i q
  rw[q]at e;have a:es.toList.any (·.refKey)=false:=by
   rw[aP9];intro y hy;obtain⟨z,t,hkey⟩:=hk y (Array.mem_toList_iff.mp hy);simp[DictEntry.refKey,hkey]
  have a': ¬es.toList.any (·.refKey)=true:=by rw[a];exact cK
  rw[a7 a'];exact fK some e
theorem d12.look {x:Addr}{mA:Str->Option Value}(I:d12 h x dx C mA): ∃od,InstAt h x (instObj C dx) C (some od)/\ ∀name,lookIn name od=some (mA name):=
 let ⟨od,ho,hl⟩:=d13 I.ns
 ⟨od,⟨I.obj,rfl,rfl,ho⟩,hl⟩
section
variable {prog:Program}{w:World}{A:Around}{E:Value->Shared->Prop}{s:Shared}{K:Frag}{x dx C f:Addr}{mA:Str->Option Value}{name:Str}{v:Value}
theorem dQ4 {expr:Bool}(X:K.In s.heap)(I:d12 s.heap x dx C mA)(hg:plainGet K C name=true)(hh:hasDictIn K C=true)
  (ha:findIn K (.ref C) name=some none) (hv:mA name=some v) (hv':PySem.W.handedIn v=true) (h:Q v {s with toks:=s.toks+1}) :
  wpAny (model prog w) A (getAttr (.ref x) name expr) Q E s:=by
 obtain⟨od,J,hl⟩:=I.look;exact PySem.W.get_value X J (PySem.W.plainGet_of hg).1 (PySem.W.findObj_own hh ha rfl (by rw[hl,hv])) hv' h
theorem dQ5 {ns:List Str}{Q:Unit->Shared->Prop}(X:K.In s.heap)(I:d12 s.heap x dx C mA)
  (hs:findIn K (.ref C) "__setattr__"=some (some<|.builtin "object.__setattr__")) (hp:plainOver K C=true) (ht:takerIn K C name=some none) (hh:hasDictIn K C=true)
  (hw:PySem.Within mA ns) (hsz:ns.length<=sizeLine)
  (h: ∀h',d12 h' x dx C (λy=>if y=name then some v else mA y)->SameBut dx s.heap h'->Q () {s with heap:=h',toks:=s.toks+2}) :
  wpAny (model prog w) A (setAttr (.ref x) name v) Q E s:=by
 obtain⟨od,J,hl⟩:=I.look;refine PySem.W.set_plain X J hs (PySem.W.osa_open X J hp ht λb=> ?_)
 obtain⟨cd,hc,hd'⟩:=PySem.W.any_some hh;have hx:s.heap.get? x=some ⟨.ref C,some dx,.plain,#[]⟩:=I.obj;refine a9 (aP<|a9<|a9<|wpAny_loadPart hx<|a9<|PySem.W.Looks.here (aP2 X hc) ?_);rw[hd'];refine aP (a9<|aP<|a9 ?_);refine wpAny_nsSet1 I.ns λh' hn2 hs2=> ?_
 obtain⟨oD,esD,epD,hoD,hdD,hcD⟩:=hn2.count (PySem.Within.cons name v hw);refine a9 (wpAny_lookBehind hoD (by rw[hdD];exact pastItsLine_dict (aH hcD (by rw[dP];lia))) ?_)
 exact aP (h _ ⟨(hs2.2 _<|Ne.symm I.ne).trans I.obj,hn2,I.ne⟩ hs2)
theorem cA9 {R:Result->Shared->Prop}{vs:List Value}(X:K.In s.heap)(hm:makesIn K C=true)
  (hi:findIn K (.ref C) "__init__"=some (some<|.ref f)) (hf:PySem.W.typeIn K (.ref f)=some (.type "function"))
  (h:codeAny (model prog w) (A.under<|.builtin "type.__call__" ⟨.ref C::vs,kw⟩) (.call (.ref f) ⟨.ref (s.heap.objs.size+1)::vs,kw⟩) (PySem.W.InitBack (s.heap.objs.size+1) R)
   {s with heap:=(s.heap.push emptyDict).push (instObj C s.heap.objs.size)}) :
  codeAny (model prog w) A (.call (.ref C) ⟨vs,kw⟩) R s:=by
 obtain⟨hh,g,d,t,os⟩:=s;exact PySem.W.make_core (PySem.W.makes_of X hm) (PySem.W.looks_findIn X hi) (λself=>PySem.W.bind_fn X self hf) (.inl rfl) h
end
nonrec def vP (f:Str)(v:V):List (Str×V)->List (Str×V)
 | []=>[(f,v)]
 | (g,x)::r=>if g=f then(g,v)::r else(g,x)::vP f v r
theorem b75 (f g:Str)(v:V): ∀fs:List (Str×V),(vP f v fs).lookup g=if g=f then some v else fs.lookup g
 | []=>by
  show List.lookup g [(f,v)]=_
  by_cases h:g=f
  .have hb:(g==f)=true:=gI.mpr h;simp only[List.lookup,hb,aA h]
  .have hb:(g==f)=false:=pN.mpr h;simp only[List.lookup,hb,a7 h]
 | (k,x)::r=>by
  have ih:=b75 f g v r;rw[show vP f v ((k,x)::r)=(if k=f then(k,v)::r else(k,x)::vP f v r)from rfl]
  by_cases hk:k=f
  .rw[aA hk]
   by_cases h:g=k
   .have hb:(g==k)=true:=gI.mpr h;simp only[List.lookup,hb,aA<|h.trans hk]
   .have hb:(g==k)=false:=pN.mpr h;simp only[List.lookup,hb,a7 (λe:g=f=>h (e.trans hk.symm))]
  .rw[a7 hk]
   by_cases h:g=k
   .have hb:(g==k)=true:=gI.mpr h;simp only[List.lookup,hb,a7 (λe:g=f=>hk (h.symm.trans e))]
   .have hb:(g==k)=false:=pN.mpr h;simp only[List.lookup,hb];exact ih
theorem b21 (f:Str)(v:V): ∀fs:List (Str×V),f∈(vP f v fs).map (·.1)/\ ∀g,g∈fs.map (·.1)->g∈(vP f v fs).map (·.1)
 | []=>⟨by simp[vP],λg h=>by simp at h⟩
 | (k,x)::r=>by
  obtain⟨i1,i2⟩:=b21 f v r;rw[show vP f v ((k,x)::r)=(if k=f then(k,v)::r else(k,x)::vP f v r)from rfl]
  by_cases hk:k=f
  .rw[aA hk];subst hk;exact⟨ae,λg h=>by exists h⟩
  .rw[a7 hk];refine⟨?_,λg h=> ?_⟩
   .rw[dY];exact fB _ i1
   .rw[dY]at h⊢;rcases bB.mp h with e|e
    .exact bB.mpr (.inl e)
    .exact fB _ (i2 g e)
theorem b76 (f:Str)(v:V): ∀fs:List (Str×V),(vP f v fs).length<=fs.length+1
 | []=>by simp[vP]
 | (k,x)::r=>by
  have ih:=b76 f v r;rw[show vP f v ((k,x)::r)=(if k=f then(k,v)::r else(k,x)::vP f v r)from rfl]
  by_cases hk:k=f
  .rw[aA hk,dP,dP];lia
  .rw[a7 hk,dP,dP];lia
theorem cL4.some_of {v:V}{o:Option Value}(r:cL4 (some v) o): ∃u,o=some u/\RelV v u:=by
 cases o with
 | none=>exact(show False from r).elim
 | some u=>exact⟨u,rfl,r⟩
theorem d14 {v:V}(r:RelV v u):PySem.W.handedIn u=true:=by
 cases v with
 | non=>cases (show u=Value.none from r);rfl
 | bl b=>cases (show u=Value.bool b from r);rfl
 | int i=>obtain⟨t,e⟩:=(show ∃t,u=Value.int i t from r);cases e;rfl
 | str x=>obtain⟨t,e⟩:=(show ∃t,u=Value.str x t from r);cases e;rfl
 | byt b=>obtain⟨t,e⟩:=(show ∃t,u=Value.bytes b t from r);cases e;rfl
 | flt b=>obtain⟨t,e⟩:=(show ∃t,u=Value.float b t from r);cases e;rfl
 | ref a=>cases (show u=Value.ref a from r);rfl
 | ty n=>cases (show u=Value.type n from r);rfl
section
variable {P:Program}{w:World}{H H':Hp}{h h':Heap}{a C dx:Addr}{fs fs':List (Str×V)}
theorem cV2 (hok:HOk P w H h)(e:H a=some (.ins C dx fs)): ∃mA,d12 h a dx C mA/\(∀f,cL4 (fs.lookup f)<|mA f)/\PySem.Within mA (fs.map (·.1))/\fs.length<=1000/\H dx=some (.own a):=by
 obtain⟨d,z,ne,ob,mA,n,r,q⟩:=(show rK P w H h a (.ins C dx fs)from hok a _ e)
 exact⟨mA,⟨ob,n,ne⟩,r,q,z,d⟩
end
structure Cls (K:Frag)(C:Addr):Prop where
 pg:plainGet K C Str.empty=true
 hd:hasDictIn K C=true
 po:plainOver K C=true
 sa:findIn K (.ref C) "__setattr__"=some (some<|.builtin "object.__setattr__")
theorem Cls.get (c:Cls K C)(f:Str):plainGet K C f=true:=c.pg
def a97 (K:Frag)(C:Addr)(f:Str):Prop:=findIn K (.ref C) f=some none
theorem a97.taker {f:Str}(n:a97 K C f):takerIn K C f=some none:=by
 unfold takerIn;rw[show findIn K (.ref C) f=some none from n]
 rfl
section
variable {X:Cx}{pins:List (Addr×Obj)}{σ:St}{H:Hp}{s:Shared}{a C dx:Addr}{fs:List (Str×V)}{f:Str}{v:V}{A:Around}{E:Value->Shared->Prop}
theorem cL9 {b:Bool}(I:Inv X pins σ H s)(e:H a=some (.ins C dx fs))(c:Cls X.K C)(n:a97 X.K C f)(l:fs.lookup f=some v)
  (h: ∀u s',Inv X pins σ H s'->RelV v u->Q u s'):wpAny (model X.prog X.w) A (getAttr (.ref a) f b) Q E s:=by
 obtain⟨mA,O,r,_,_,_⟩:=cV2 I.hok e;obtain⟨u,hu,ru⟩:=cL4.some_of (by rw[<-l];exact r f)
 exact dQ4 I.kIn O (c.get f) c.hd n hu (d14 ru) (h u _ (I.tok _) ru)
theorem cM0 {y:V}{Q:Unit->Shared->Prop}(I:Inv X pins σ H s)(e:H a=some (.ins C dx fs))(c:Cls X.K C)(n:a97 X.K C f)(hl:fs.length<1000)(ry:RelV y u)
  (h: ∀s',Inv X pins σ (upd H a<|.ins C dx<|vP f y fs) s'->Q () s'):wpAny (model X.prog X.w) A (setAttr (.ref a) f u) Q E s:=by
 obtain⟨mA,O,r,wi,_,ho⟩:=cV2 I.hok e;have hz:(fs.map (·.1)).length<=sizeLine:=by rw[aG,sizeLine_eq];lia
 refine dQ5 I.kIn O c.sa c.po n.taker c.hd wi hz λh' O' sb=>h _ ?_
 have hd: ∃o,h'.get? dx=some o:=let ⟨o,_,_,e',_⟩:=O'.ns;⟨o,e'⟩;refine I.write (by rw[e];exact True.intro) (.inr ho) (λb q hb z=>(sb.2 b hb).trans z) hd ?_
 refine⟨by rw[cM O.ne];exact ho,?_,O.ne,O'.obj,_,O'.ns,λg=> ?_,λg hg=> ?_⟩
 .have:=b76 f y fs;lia
 .show cL4 ((vP f y fs).lookup g) (if g=f then some u else mA g)
  rw[b75]
  by_cases q:g=f
  .rw[aA q,aA q];exact ry
  .rw[a7 q,a7 q];exact r g
 .by_cases q:g=f
  .rw[q];exact(b21 f y fs).1
  .refine(b21 f y fs).2 g (wi g λz=>hg ?_)
   show(if g=f then some u else mA g)=none
   rw[a7 q];exact z
theorem Inv.made (I:Inv X pins σ H s):Inv X pins σ (upd (upd H s.heap.objs.size<|.own<|s.heap.objs.size+1) (s.heap.objs.size+1)<|.ins C s.heap.objs.size [])
  {s with heap:=(s.heap.push emptyDict).push (instObj C s.heap.objs.size)}:=by
 have e1:(s.heap.push emptyDict).get? s.heap.objs.size=some emptyDict:=cD s.heap rfl;have e2:((s.heap.push emptyDict).push<|instObj C s.heap.objs.size).get? (s.heap.objs.size+1)=some (instObj C s.heap.objs.size):=by
  have:=cD (s.heap.push emptyDict) (o:=instObj C s.heap.objs.size) rfl
  rwa [iY]at this
 have e3:(s.heap.push emptyDict).Ns s.heap.objs.size (λ_=>none):=⟨emptyDict,#[],_,e1,rfl,(λe he=>absurd he ae),λ_=>rfl⟩
 have I1:=I.laid (a:=s.heap.objs.size) (o:= .own (s.heap.objs.size+1)) (h':=s.heap.push emptyDict) (t':=s.toks) (λb u q=>aV _ q) (aK _) ⟨_,e1⟩
 refine I1.laid (a:=s.heap.objs.size+1) (o:= .ins C s.heap.objs.size []) (t':=s.toks) (λb u q=>aV _ q) (le_of_eq<|iY _ _) ?_
 have ne:s.heap.objs.size≠s.heap.objs.size+1:=bM (pU _);refine⟨by rw[cM ne,iF],eH _,ne,e2,λ_=>none,(Heap.Ns1.of_empty e3).at λo q=>aV _ q,λ_=>True.intro,λy hy=>absurd rfl hy⟩
theorem dQ6 {env:Env}{f:Str}{s:Shared}(hb:attributeBase e f env (eval e env)=eval e env)
  (h:wpAny (model prog w) A (eval e env) (λo s₁=>wpAny (model prog w) A (getAttr o f true) Q E s₁) E s):wpAny (model prog w) A (eval (.Attribute e f pos) env) Q E s:=
 Attribute_any_ h (by rw[arm_eval_Attribute,hb])
end
def tFld (K:Frag)(ta:TE)(f:Str):TE:=λσ H Q=>ta σ H λx H1=> ∃a C dx fs v,x= .ref a/\H1 a=some (.ins C dx fs)/\Cls K C/\a97 K C f/\fs.lookup f=some v/\Q v H1
def d87 (K:Frag)(ta tv:TE)(f:Str):TS:=λD σ H=>tv σ H λy H1=>ta σ H1 λx H2=> ∃a C dx fs,x= .ref a/\H2 a=some (.ins C dx fs)/\Cls K C/\a97 K C f/\fs.length<1000/\
 D.nx σ (upd H2 a<|.ins C dx<|vP f y fs)
section
variable {X:Cx}{o e value:Expr}{f:Str}{pos pos' tpos:Pos}{ta tv:TE}
theorem pe_fld (he:PE X e ta)(hb:attributeBase e f X.env (eval e X.env)=eval e X.env):PE X (.Attribute e f pos) (tFld X.K ta f):=by
 intro pins s σ H Q I h;refine dQ6 hb (thn (he pins s σ H _ I h) λu s1 zz=> ?_)
 obtain⟨x,H1,I1,rx,a,C,dx,fs,v,ex,ea,c,n,l,q⟩:=zz;subst ex;obtain rfl:u=Value.ref a:=rx;exact cL9 I1 ea c n l λu' s2 I2 ru=>⟨v,H1,I2,ru,q⟩
theorem cM1 (ha:PE X o ta)(hv:PE X value tv)(hs:swapsWith value (some<|.Attribute o f pos') pos.line X.env=pure false):PS X (.Assign [.Attribute o f pos'] value pos) (d87 X.K ta tv f):=by
 intro pins s σ H D I h;refine aN0 (thn (hv pins s σ H _ I h) λu s1 ⟨y,H1,I1,ry,q⟩=>thn (ha pins s1 σ H1 _ I1 q) λov s2 zz=> ?_) hs
 obtain⟨x,H2,I2,rx,a,C,dx,fs,ex,ea,c,n,l,q2⟩:=zz;subst ex;obtain rfl:ov=Value.ref a:=rx;exact cM0 I2 ea c n l ry λs3 I3=>⟨σ,_,I3,q2⟩
end
structure i8 (k:Nat)(A:Around):Prop where
 hd:A.handled=none
 dp:A.depth+3*k+5<recursionLimit
 un:A.units+16*k+200<cLine
theorem i8.mono (r:i8 k A)(h:j<=k):i8 j A:=⟨r.hd,by have:=r.dp;lia,by have:=r.un;lia⟩
theorem i8.deeper (r:i8 (k+1) A)(env:Env):i8 k (A.deeper env):=
 ⟨r.hd,by have:=r.dp;show A.depth+1+3*k+5<_;lia,by have:=r.un;show A.units+3+16*k+200<_;lia⟩
theorem cM2 :(A.under<|.builtin "type.__call__" ⟨.ref C::us,kw⟩).depth=A.depth+1:=by
 first|rfl|simp[Code.weight,Code.isCreation,Code.isGuard,Code.isCaller,Code.frames,Code.isFrame,guardIds]
theorem cM3 :(A.under<|.builtin "type.__call__" ⟨.ref C::us,kw⟩).units=A.units+1:=by
 first|rfl|simp[Code.cUnits,Code.frames,Code.isFrame]
theorem i8.make (r:i8 (k+1) A)(C:Addr)(us:List Value)(kw:List (Str×Value)):i8 k (A.under<|.builtin "type.__call__" ⟨.ref C::us,kw⟩):=
 ⟨r.hd,by have:=r.dp;rw[cM2];omega,by have:=r.un;rw[cM3];omega⟩
theorem i8.depth (r:i8 k A):A.depth<recursionLimit:=by have:=r.dp;lia
theorem i8.units (r:i8 k A):A.units+64<cLine:=by have:=r.un;lia
def tNil:TA:=λ_ H Q=>Q [] H
def tCons (ta:TE)(tr:TA):TA:=λσ H Q=>ta σ H λx H1=>tr σ H1 λxs H2=>Q (x::xs) H2
section
variable {X:Cx}{e:Expr}{es:List Expr}{te:TE}{t:TA}{pos:Pos}
theorem cM4:PA X [] tNil:=λ_ _ _ _ H Q I h=>Calls.spliced_nil ⟨[],H,I,.nil,h⟩
theorem c09 (ha:PE X e te)(hr:PA X es t)(hs:↥(starEach (e::es) X.env=(false,eval e X.env)::starEach es X.env)):PA X (e::es) (tCons te t):=by
 intro pos pins s σ H Q I h;rw[hs];show wpAny _ _ (spliced ((false,eval e X.env)::backTo pos (starEach es X.env))) _ _ s;refine Calls.spliced_cons (thn (ha pins s σ H _ I h) λu s1 ⟨x,H1,I1,r1,q1⟩=> ?_)
 exact thn (hr pos pins s1 σ H1 _ I1 q1) λus s2 ⟨xs,H2,I2,r2,q2⟩=>⟨x::xs,H2,I2,.cons r1 r2,q2⟩
def tTup (t:TA):TE:=λσ H Q=>t σ H λxs H1=>xs.length<=sizeLine/\ ∀p,H1 p=none->Q (.ref p) (upd H1 p<|.tup xs)
def tLst (t:TA):TE:=λσ H Q=>t σ H λxs H1=>xs.length<=sizeLine/\ ∀p,H1 p=none->Q (.ref p) (upd H1 p<|.lst xs)
theorem pe_tup {x1}(h:PA X es t):PE X (.Tuple es x1 pos) (tTup t):=by
 intro pins s σ H Q I hq;refine wpAny_Tuple_spliced (thn (h pos pins s σ H _ I hq) λus s1 ⟨xs,H1,I1,r,z,q⟩=>⟨by rw[<-r.length];exact z,?_⟩)
 have hf:H1 s1.heap.objs.size=none:=I1.hok.fresh (aK _);refine⟨.ref s1.heap.objs.size,upd H1 s1.heap.objs.size<|.tup xs,I1.laid (λb u e=>aV _ e) (aK _) ?_,rfl,q _ hf⟩
 exact⟨z,us,r,⟨_,cD _ rfl,rfl,_,rfl⟩⟩
theorem pe_lst (h:PA X es t):PE X (.List es pos) (tLst t):=by
 intro pins s σ H Q I hq;refine wpAny_List_spliced (thn (h pos pins s σ H _ I hq) λus s1 ⟨xs,H1,I1,r,z,q⟩=>⟨by rw[<-r.length];exact z,?_⟩)
 have hf:H1 s1.heap.objs.size=none:=I1.hok.fresh (aK _);refine⟨.ref s1.heap.objs.size,upd H1 s1.heap.objs.size<|.lst xs,I1.laid (λb u e=>aV _ e) (aK _) ?_,rfl,q _ hf⟩
 exact⟨z,us,0,r,cD _ rfl⟩
end
abbrev Sp:=List V->Hp->VK->XK->Prop
abbrev CXT:=List Env->Hp->Shared->XK->Value->Shared->Prop
structure cM5 (P:Program)(w:World)(K:Frag)(mg:Str->Option Value)(base:Heap)(A:Around)(outer:List Env)(s:Shared)(H:Hp):Prop where
 frames:A.frames=some outer
 mod:Mod K mg base
 bs: ∀b o,base.get? b=some o->s.heap.get? b=some o/\H b=none
 bsz:base.objs.size<=s.heap.objs.size
 funs:s.heap.FunFrames base outer
 frf: ∀b∈frs outer,H b=none
 hok:HOk P w H s.heap
 bare:AllBare s.gens
def CE (outer:List Env)(P:Program)(w:World)(H:Hp)(s:Shared)(Q:VK)(u:Value)(s':Shared):Prop:=
 ∃v H',s'.os=s.os/\AllBare s'.gens/\Un (frs outer) [] H H' s.heap s'.heap/\HOk P w H' s'.heap/\RelV v u/\Q v H'
def CR (CX:CXT)(outer:List Env)(P:Program)(w:World)(H:Hp)(s:Shared)(Q:VK)(E:XK)(r:Result)(s':Shared):Prop:=
 match r with
 | .ok (.ret u)=>CE outer P w H s Q u s'
 | .ok _=>False
 | .error e=>CX outer H s E e s'
structure sZ (P:Program)(w:World)(K:Frag)(mg:Str->Option Value)(base:Heap)(CX:CXT)(k:Nat)(f:Addr)(fd:FuncData)(ps:List Str)(sp:Sp):Prop where
 len: ∀vs H Q E,sp vs H Q E->vs.length=ps.length
 run: ∀(A:Around) (outer:List Env) (s:Shared) (H:Hp) (args:Args) (us:List Value) (vs:List V) (Q:VK) (E:XK),i8 k A->cM5 P w K mg base A outer s H->BindsTo s fd args (ps.zip us)->Vals vs us->sp vs H Q E->
  codeAny (model P w) A (.call (.ref f) args) (CR CX outer P w H s Q E) s
theorem sZ.mono {CX:CXT}{ps:List Str}{sp:Sp}(F:sZ<$>CX j f fd ps sp)(h:j<=k) :
  sZ P w K mg base CX k f fd ps sp:=⟨F.len,λA outer s H args us vs Q E hr=>F.run A outer s H args us vs Q E (hr.mono h)⟩
theorem cM5.make {H:Hp}(e:cM5<$>A outer s H)(C:Addr)(us:List Value)(kw:List (Str×Value)) :
  cM5 P w K mg base (A.under<|.builtin "type.__call__" ⟨.ref C::us,kw⟩) outer s H:=⟨by first|exact e.frames| (simpa[Around.under,Code.envs,Code.isFrame,pushEnvs]using e.frames),e.mod,e.bs,e.bsz,e.funs,e.frf,e.hok,e.bare⟩
section
variable {X:Cx}{pins:List (Addr×Obj)}{σ:St}{H:Hp}{s s':Shared}
theorem Inv.env0 (I:Inv X pins σ H s):cM5 X.prog X.w X.K X.mg X.base X.A X.stack s H:=
 ⟨I.ok.frames,I.ok.mod,I.bs,aH I.ok.bsz I.sz,I.stack,I.stkFree,I.hok,I.bare⟩
theorem Inv.after {Q:VK}(I:Inv X pins σ H s)(h:CE X.stack X.prog X.w H s Q u s'):EP X pins σ Q u s':=by
 obtain⟨v,H',os,bare,un,hok,r,q⟩:=h;obtain⟨hh,g,d,t,os'⟩:=s';obtain rfl:os'=s.os:=os;exact⟨v,H',I.call (h':=hh) (g':=g) (d':=d) (t':=t) (ch:=[]) un hok bare λb z=>absurd z ae,r,q⟩
end
def d88 (sp:Sp)(dvs:List V)(E:XK)(t:TA):TE:=λσ H Q=>t σ H λvs H1=>sp (vs++dvs) H1 Q E
def cV3 (C:Addr)(sp:Sp)(dvs:List V)(E:XK)(t:TA):TE:=λσ H Q=>t σ H λvs H1=> ∀x dx,H1 x=none->H1 dx=none->dx≠x->
 sp (.ref x::(vs++dvs)) (upd (upd H1 dx<|.own x) x<|.ins C dx []) (λv H2=>v= .non/\Q (.ref x) H2) E
def Binds (K:Frag)(fd:FuncData)(ps:List Str)(ds:List Value):Prop:=
 ∀(s:Shared) (us:List Value),K.In s.heap->(us++ds).length=ps.length->BindsTo s fd ⟨us,[]⟩ (ps.zip<|us++ds)
theorem Binds.all {ps:List Str}(h: ∀us:List Value,us.length=ps.length->bindArgs fd ⟨us,[]⟩=pure (ps.zip us)):Binds K fd ps []:=λs us _ hl=>by
 rw[kY]at hl⊢;exact .of_eq (h us hl)
def wK (CX:CXT)(X:Cx)(E:XK):Prop:= ∀(pins:List (Addr×Obj)) (σ:St) (H:Hp) (s:Shared) (e:Value) (s':Shared),Inv X pins σ H s->CX X.stack H s E e s'->X.xe e s'
section
variable {X:Cx}{CX:CXT}{k:Nat}{f C:Addr}{fd:FuncData}{ps:List Str}{sp:Sp}{dvs:List V}{ds:List Value}{E:XK}{x m:Str}{p pos apos:Pos}{e o:Expr}{es:List Expr}{ta:TE}{t:TA}
theorem d89 {pins:List (Addr×Obj)}{σ:St}{H:Hp}{s:Shared}{Q:VK}{us:List Value}{vs:List V}(F:sZ X.prog X.w X.K X.mg X.base CX k f fd ps sp)(hr:i8 k X.A)(hb:Binds X.K fd ps ds)(hd:Vals dvs ds)(hx:wK CX X E)
  (I:Inv X pins σ H s) (r:Vals vs us) (h:sp (vs++dvs) H Q E):X∩(call (.ref f) us) (EP X pins σ Q) X.xe s:=by
 have r2:Vals (vs++dvs) (us++ds):=r.append hd;have hl:(us++ds).length=ps.length:=by rw[<-r2.length];exact F.len _ _ _ _ h
 refine uL (uG (F.run X.A X.stack s H ⟨us,[]⟩ (us++ds) (vs++dvs) Q E hr I.env0 (hb s us I.kIn hl) r2 h) λr s' hq=> ?_)
 cases r with
 | error e=>exact hx pins σ H s e s' I hq
 | ok fl=>
  cases fl with
  | ret u=>exact I.after hq
  | next=>exact False.elim hq
  | brk=>exact False.elim hq
  | cont=>exact False.elim hq
theorem cV4 (F:sZ X.prog X.w X.K X.mg X.base CX k f fd ps sp)(hr:i8 k X.A)(hg:Gl X x)(hm:X.mg x=some (.ref f))(hk:keepIn X.K (.ref f)=true)(hb:Binds X.K fd ps ds)(hd:Vals dvs ds)(hx:wK CX X E)
  (ha:PA X (e::es) t) (hdb:⇑(x∪0)) (he:↥(starEach (e::es) X.env=(false,eval e X.env)::starEach es X.env)) (hpl:↥((backTo pos<|starEach es X.env).any (·.1)=false)) :
  PE X (.Call (.Name x p) (e::es) [] pos) (d88 sp dvs E t):=by
 intro pins s σ H Q I h;refine pP (vT I hg hm ?_ hdb);refine aP5 (h₀:=X.base) I.ok.mod.kin hk (thn (ha pos pins s σ H _ I h) λus s1 ⟨vs,H1,I1,r,q⟩=>⟨I1.kIn,?_⟩) he hpl
 exact d89 F hr hb hd hx I1 r q
theorem d90 (F:sZ X.prog X.w X.K X.mg X.base CX k f fd ps sp)(hr:i8 k X.A)(hg:Gl X x)(hm:X.mg x=some (.ref f))(hk:keepIn X.K (.ref f)=true)(hb:Binds X.K fd ps ds)(hd:Vals dvs ds)(hx:wK CX X E)
  (hdb:⇑(x∪0)):PE X (.Call (.Name x p) [] [] pos) (d88 sp dvs E tNil):=by
 intro pins s σ H Q I h;refine pP (vT I hg hm ?_ hdb);exact PySem.W.callWith_K0 I.kIn hk (d89 F hr hb hd hx I .nil h)
structure Mk (K:Frag)(C f:Addr):Prop where
 makes:makesIn K C=true
 init:findIn K (.ref C) "__init__"=some (some<|.ref f)
 fn:PySem.W.isFn K (.ref f)=true
 kp:keepIn K (.ref C)=true
theorem d91 {pins:List (Addr×Obj)}{σ:St}{H:Hp}{s:Shared}{Q:VK}{us:List Value}{vs:List V}(M:Mk X.K C f)(F:sZ X.prog X.w X.K X.mg X.base CX k f fd ps sp)(hr:i8 (k+1) X.A)(hb:Binds X.K fd ps ds)(hd:Vals dvs ds)
  (hx:wK CX X E) (I:Inv X pins σ H s) (r:Vals vs us)
  (h: ∀x dx,H x=none->H dx=none->dx≠x->sp (.ref x::(vs++dvs)) (upd (upd H dx<|.own x) x<|.ins C dx []) (λv H2=>v= .non/\Q (.ref x) H2) E) :
  X∩(call (.ref C) us) (EP X pins σ Q) X.xe s:=by
 have hq:=h (s.heap.objs.size+1) s.heap.objs.size (I.hok.fresh<|qA _) (I.hok.fresh<|aK _) (bM<|pU _);have I2:=Inv.made (C:=C) I;have r2:Vals (V.ref (s.heap.objs.size+1)::(vs++dvs)) (Value.ref (s.heap.objs.size+1)::(us++ds)):= .cons rfl (r.append hd);have hl:(Value.ref (s.heap.objs.size+1)::us++ds).length=ps.length:=by
  have e:=r2.length;rw[F.len _ _ _ _ hq]at e;exact e.symm
 refine uL (cA9 I.kIn M.makes M.init (gI.mp M.fn) (uG (F.run _ X.stack _ _ ⟨Value.ref (s.heap.objs.size+1)::us,[]⟩ (Value.ref (s.heap.objs.size+1)::(us++ds)) _ _ E (hr.make C us [])
  (I2.env0.make C us []) (hb _ (Value.ref (s.heap.objs.size+1)::us) I2.kIn hl) r2 hq) λr s' hq'=> ?_))
 cases r with
 | error e=>exact hx pins σ _ _ e s' I2 hq'
 | ok fl=>
  cases fl with
  | ret u=>
   obtain⟨v,H',I3,rv,ev,q3⟩:=I2.after hq';subst ev;exact⟨rv,⟨V.ref<|s.heap.objs.size+1,H',I3,rfl,q3⟩⟩
  | next=>exact False.elim hq'
  | brk=>exact False.elim hq'
  | cont=>exact False.elim hq'
theorem dQ7 (M:Mk X.K C f)(F:sZ X.prog X.w X.K X.mg X.base CX k f fd ps sp)(hr:i8 (k+1) X.A)(hg:Gl X x)(hm:X.mg x=some (.ref C))(hb:Binds X.K fd ps ds)(hd:Vals dvs ds)(hx:wK CX X E)
  (ha:PA X (e::es) t) (hdb:⇑(x∪0)) (he:↥(starEach (e::es) X.env=(false,eval e X.env)::starEach es X.env)) (hpl:↥((backTo pos<|starEach es X.env).any (·.1)=false)) :
  PE X (.Call (.Name x p) (e::es) [] pos) (cV3 C sp dvs E t):=by
 intro pins s σ H Q I h;refine pP (vT I hg hm ?_ hdb);refine aP5 (h₀:=X.base) I.ok.mod.kin M.kp (thn (ha pos pins s σ H _ I h) λus s1 ⟨vs,H1,I1,r,q⟩=>⟨I1.kIn,?_⟩) he hpl
 exact d91 M F hr hb hd hx I1 r q
end
section
variable {X:Cx}{CX:CXT}{k:Nat}{f C:Addr}{fd:FuncData}{ps ks:List Str}{sp:Sp}{E:XK}{x m:Str}{p pos apos kpos:Pos}{e o:Expr}{es:List Expr}{kws:List Keyword}{te ta:TE}{t tk:TA}{nm:Option Str}
variable {g:List Value->List Value->List Value}{gV:List V->List V->List V}
end
structure aY (N P:List Str)(sc:Scope):Prop where
 kind:sc.kind= .function
 co:sc.isCoroutine=false
 gen:sc.isGenerator=false
 nd:N.Nodup
 pre:N.take P.length=P
 par: ∀x∈P,sc.names.lookup x=some .local\/sc.names.lookup x=some .cell
 nofree: ∀y∈sc.names,y.2≠ .free
theorem bU3 {kindOf:Str->Option NameKind}{x:Str}: ∀{binds:List (Str×Value)} {m:Str->Option Value},(∀v,(x,v) ∉ binds)->bindL kindOf binds m x=m x
 | [],_,_=>rfl
 | (n,v)::r,m,h=>by
  unfold bindL;rw[bU3 λw hw=>h w (fB _ hw)]
  split
  .have:x≠n:=by rintro rfl;exact h v kT
   simp[this]
  .rfl
theorem bU4 {kindOf:Str->Option NameKind}{x:Str}: ∀{binds:List (Str×Value)} {m:Str->Option Value},(∀v,(x,v) ∉ binds)->bindC kindOf binds m x=m x
 | [],_,_=>rfl
 | (n,v)::r,m,h=>by
  unfold bindC;rw[bU4 λw hw=>h w (fB _ hw)]
  split
  .rfl
  .have:x≠n:=by rintro rfl;exact h v kT
   simp[this]
theorem bU5 {kindOf:Str->Option NameKind}{x:Str}{v:Value}: ∀{P:List Str} {vs:List Value} {i:Nat} {m:Str->Option Value},P.Nodup->P[i]? =some x->vs[i]? =some v->kindOf x=some .local->
  bindL kindOf (P.zip vs) m x=some v
 | [],_,_,_,_,h,_,_=>by simp at h
 | _::_,[],_,_,_,_,h,_=>by simp at h
 | p::P,w::vs,0,m,nd,h1,h2,hk=>by
  simp at h1 h2;subst h1;subst h2
  show bindL kindOf ((p,w)::P.zip vs) m p=_
  unfold bindL;rw[bU3 λv hv=>(uD.mp nd).1 (zX hv).1,aA hk]
  simp
 | p::P,w::vs,i+1,m,nd,h1,h2,hk=>by
  show bindL kindOf ((p,w)::P.zip vs) m x=_
  exact bU5 (i:=i) (uD.mp nd).2 (by exists h1) (by exists h2) hk
theorem bU6 {kindOf:Str->Option NameKind}{x:Str}{v:Value}: ∀{P:List Str} {vs:List Value} {i:Nat} {m:Str->Option Value},P.Nodup->P[i]? =some x->vs[i]? =some v->kindOf x≠some .local->
  bindC kindOf (P.zip vs) m x=some v
 | [],_,_,_,_,h,_,_=>by simp at h
 | _::_,[],_,_,_,_,h,_=>by simp at h
 | p::P,w::vs,0,m,nd,h1,h2,hk=>by
  simp at h1 h2;subst h1;subst h2
  show bindC kindOf ((p,w)::P.zip vs) m p=_
  unfold bindC;rw[bU4 λv hv=>(uD.mp nd).1 (zX hv).1,a7 hk]
  simp
 | p::P,w::vs,i+1,m,nd,h1,h2,hk=>by
  show bindC kindOf ((p,w)::P.zip vs) m x=_
  exact bU6 (i:=i) (uD.mp nd).2 (by exists h1) (by exists h2) hk
nonrec def start (N:List Str)(vs:List V):St:=vs.map some++replicate (N.length-vs.length) none
nonrec def vQ (CX:CXT)(P:Program)(w:World)(K:Frag)(mg:Str->Option Value)(base:Heap)(N:List Str)(qual:Str)(scope:Scope)(f:Addr)(cd:Value)(A:Around)(outer:List Env)(s:Shared)(H:Hp)(E:XK):Cx where
 prog:=P
 w:=w
 K:=K
 mg:=mg
 base:=base
 A:=A.deeper (envOfC qual scope s.heap.objs.size f cd)
 N:=N
 s₀:=s
 H₀:=H
 env:=envOfC qual scope s.heap.objs.size f cd
 outer:=outer
 stack:=envOfC qual scope s.heap.objs.size f cd::outer
 ex:=[]
 calm:=true
 fn:=λ_=>true
 pn:=[]
 xe:=λe s'=>wpAny (model P w) (A.deeper<|envOfC qual scope s.heap.objs.size f cd) (leaving (envOfC qual scope s.heap.objs.size f cd) e) (λ_ s''=>CX outer H s E e s'') (λe' s''=>CX outer H s E e' s'') s'
theorem cB0 {sc:Scope}(h:sc.names.lookup x=some .cell): ∃c,(cellsFrom n sc.names []).lookup x=some c:=by
 have q:=aN9 sc.names n [] (.inl h);exact Option.isSome_iff_exists.mp q
theorem bU7 {CX:CXT}{ps:List Str}{cd:Value}{s1:Shared}{H:Hp}{E:XK}{vs:List V}
  (S:aY N ps scope) (hd:A.handled=none) (e0:cM5<$>A outer s H) (hl:vs.length=ps.length) (r:Vals vs us)
  (x:InCallC s s.heap.objs.size (bindL (envOfC qual scope s.heap.objs.size f cd).kindOf (ps.zip us) λ_=>none) (cellsFrom (s.heap.objs.size+1) scope.names []) (bindC (envOfC qual scope s.heap.objs.size f cd).kindOf (ps.zip us) λ_=>none) s1) :
  Inv (vQ CX P w K mg base N qual scope f cd A outer s H E) [] (start N vs) H s1:=by
 have hpl:ps.length<=N.length:=by have:=fK length S.pre;rw[nJ]at this;lia
 obtain⟨h1,tk,rfl,hk⟩:=x.done;have noA: ∀b:Addr,b ∉ (vQ CX P w K mg base N qual scope f cd A outer s H E).ex:=λb z=>absurd (show b∈([]:List Addr)from z) ae
 refine⟨⟨e0.mod,S.kind,rfl,rfl,aK _,λy z c h1 h2=> ?_,λy hy=> ?_,λy c _ h=> ?_,λ_=>hd,Around.frames_deeper e0.frames,.inr ⟨rfl,rfl⟩,λb z=>absurd z (noA b),e0.bs,e0.bsz,λb _ _=>noA b,λb z=>absurd z (noA b),e0.funs,e0.frf⟩,
  rfl,e0.bare,Un.kept hk,⟨_,x.toInCall.ns,λi y v h1 h2 h3=> ?_⟩,λy c h=>⟨_,x.cell y c h⟩,e0.hok.fresh<|aK _,λy c h=> ?_,λp hp=>absurd (show p∈([]:List (Addr×Obj))from hp) ae,e0.hok.kept hk,?_⟩
 .exact name_of_addr x.apart (pO h1) (pO h2)
 .have hy:scope.names.lookup y=some .cell\/scope.names.lookup y=some .free:=hy;rcases hy with hy|hy
  .exact cB0 hy
  .exact absurd rfl (S.nofree _<|pO hy)
 .exact nQ (x.above y c<|pO h)
 .have hi:i<vs.length:=by
   unfold start at h2
   by_cases hi:i<vs.length
   .exact hi
   .rw[jW<|by simpa using hi]at h2
    rw[pJ]at h2;split at h2<;>cases h2
  have ha:vs[i]? =some v:=by
   unfold start at h2;rw[iW<|by simpa using hi,aZ]at h2
   cases e:vs[i]? with
   | none=>rw[e]at h2;cases h2
   | some a=>rw[e]at h2;cases h2;rfl
  obtain⟨u,hu,rv⟩:=r.get ha;have hp:ps[i]? =some y:=by
   rw[<-S.pre,List.getElem?_take_of_lt ad];exact h1
  have ndP:ps.Nodup:=by rw[<-S.pre];exact S.nd.sublist (List.take_sublist _ _)
  refine⟨u,rv,?_⟩
  rcases S.par y (fX hp)with k|k
  .exact .inl ⟨k,bU5 ndP hp hu k⟩
  .obtain⟨c,e⟩:=cB0 k;refine .inr ⟨.inl k,c,e,?_⟩;have q:=x.cell y c e;rw[bU6 ndP hp hu (by show scope.names.lookup y≠_;rw[k];decide)]at q
   exact q
 .exact e0.hok.fresh (nQ<|x.above y c<|pO h)
 .unfold start;show _=N.length;rw[cB,aG,iD]
  lia
theorem d92 {CX:CXT}{P:Program}{w:World}{K:Frag}{mg:Str->Option Value}{base:Heap}{k:Nat}{f:Addr}{name qual:Str}{params:Arguments}{body:List Stmt}{scope:Scope}{dV kV doc pm cdv ct oc:Value}{an od:Option Addr}
  {osl:Array (Option Value)} {N ps:List Str} {sp:Sp} (lk:K.lookup f=some ⟨oc,od,.func<|fnOf name qual params body scope dV kV doc pm an cdv ct,osl⟩) (hcd:codeIn K cdv qual=true) (S:aY N ps scope)
  (len: ∀vs H Q E,sp vs H Q E->vs.length=ps.length)
  (hbody: ∀(A:Around) (outer:List Env) (s:Shared) (H:Hp) (vs:List V) (Q:VK) (E:XK),i8 k (A.deeper<|envOfC qual scope s.heap.objs.size f cdv)->sp vs H Q E->
   ∃t,PSs (vQ CX P w K mg base N qual scope f cdv A outer s H E) body t/\t {nx:=λ_ H'=>Q .non H',rt:=Q} (start N vs) H) :
  sZ P w K mg base CX (k+1) f (fnOf name qual params body scope dV kV doc pm an cdv ct) ps sp:=by
 refine⟨len,λA outer s H args us vs Q E hr e0 hb r hsp=> ?_⟩
 have hl:=len _ _ _ _ hsp;have KX:K.In s.heap:=e0.mod.kin.keeps λb o e=>(e0.bs b o e).1
 have lim:s.heap.NoLimit:=e0.mod.nolimit.keeps λb o e=>(e0.bs b o e).1
 have hkind: ∀y∈ps.zip us,scope.names.lookup y.1=some .local\/(scope.names.lookup y.1=some .cell/\((cellsFrom (s.heap.objs.size+1) scope.names []).lookup y.1).isSome=true):=λ⟨n,v⟩ hy=>by
  rcases S.par n (zX hy).1 with q|q
  .exact .inl q
  .exact .inr ⟨q,aN9 _ _ _<|.inl q⟩
 refine codeAny_call_function hr.depth (KX _ _ lk) rfl S.co S.gen rfl (PySem.W.codeRec_of KX hcd) (hb _ _ _ _ ?_)
 refine wpAny_newFunctionEnv_cells S.kind hkind λenv he s1 x=> ?_
 subst he;refine⟨lim.keeps x.toInCall.keep,codeAny_func ?_⟩;obtain⟨t,ht,hq⟩:=hbody A outer s H vs Q E (hr.deeper _) hsp;have I:Inv (vQ CX P w K mg base N qual scope f cdv A outer s H E) [] (start N vs) H s1:=bU7 S hr.hd e0 hl r x;refine bW (ht [] s1 (start N vs) H _ I hq) (λfl s' hs=> ?_) λe s' hs=>hs
 have fin: ∀{σ':St} {H':Hp} {v:V} {u:Value},Inv (vQ CX P w K mg base N qual scope f cdv A outer s H E) [] σ' H' s'->RelV v u->Q v H'->CE outer P w H s Q u s':=
  λ{σ' H' v u} J rv q=>⟨v,H',J.os,J.bare,J.base,J.hok,rv,q⟩
 cases fl with
 | ret u=>
  obtain⟨v,σ',H',J,rv,q⟩:=hs;exact fin J rv q
 | next=>
  obtain⟨σ',H',J,q⟩:=hs;exact fin (v:=V.non) (u:=Value.none) J rfl q
 | brk=>
  obtain⟨_,_,_,q⟩:=hs;exact False.elim q
 | cont=>
  obtain⟨_,_,_,q⟩:=hs;exact False.elim q
section
variable {X:Cx}{x:Str}{p pos:Pos}{e:Expr}{es:List Expr}{t:TA}{id T:String}{r:List V->Hp->VK->Prop}
def tCB (r:List V->Hp->VK->Prop)(t:TA):TE:=λσ H Q=>t σ H λvs H1=>r vs H1 Q
theorem cB1 (hc:oE X (.builtin id) r)(hg:Gl X x)(hm:X.mg x=none)(hv:bootBuiltins x=some (.builtin id))(ha:PA X (e::es) t)(hn:⇑(x≠"__name__"))(hdb:⇑(x∪0))
  (he:↥(starEach (e::es) X.env=(false,eval e X.env)::starEach es X.env)) (hpl:↥((backTo pos<|starEach es X.env).any (·.1)=false)):PE X (.Call (.Name x p) (e::es) [] pos) (tCB r t):=by
 intro pins s σ H Q I h;refine pP (uM I hg hm hv ?_ hn hdb);exact PyProof.Rows.callWith_builtin1 (thn (ha pos pins s σ H _ I h) λus s1 ⟨vs,H1,I1,r1,q1⟩=>hc pins s1 σ H1 vs us Q I1 r1 q1) he hpl
theorem d15 (hc:oE X (.type T) r)(hg:Gl X x)(hm:X.mg x=none)(hv:bootBuiltins x=some (.type T))(ha:PA X (e::es) t)(hn:⇑(x≠"__name__"))(hdb:⇑(x∪0))
  (he:↥(starEach (e::es) X.env=(false,eval e X.env)::starEach es X.env)) (hpl:↥((backTo pos<|starEach es X.env).any (·.1)=false)):PE X (.Call (.Name x p) (e::es) [] pos) (tCB r t):=by
 intro pins s σ H Q I h;refine pP (uM I hg hm hv ?_ hn hdb);exact jV (thn (ha pos pins s σ H _ I h) λus s1 ⟨vs,H1,I1,r1,q1⟩=>hc pins s1 σ H1 vs us Q I1 r1 q1) he hpl
end
end L2
namespace HT
open PySem PyProof.Rows
section
open PySem.SeqAt
open PySem.AutoSeq1 (wpAny_loadPart')
open PySem.MeetsSeq PySem.MeetsSeq2 PySem.MeetsSeq3
end
section
variable {prog:Program}{w:World}{A:Around}{E:Value->Shared->Prop}{s:Shared}
theorem cat_tup {vs ws:List Value}(ht:IsTup s.heap t vs.toArray)(hb:IsTup s.heap b ws.toArray)(hv:vs≠[])
  (h1:ws=[]->Q (.ref t) s) (h2:ws≠[]->Q (.ref s.heap.objs.size) {s with heap:=s.heap.push {cls:= .type "tuple",data:= .seq (vs++ws).toArray}})
  (hsz:vs.length+ws.length<=sizeLine):wpAny (model prog w) A (binaryOp .Add (.ref t)<|.ref b) Q E s:=by
 obtain⟨⟨cls,dd,data,sl⟩,ho,hc,n,hd⟩:=id ht;obtain⟨⟨cls2,dd2,data2,sl2⟩,ho2,hc2,n2,hd2⟩:=id hb;simp only at hc hd hc2 hd2;subst hc hd hc2 hd2;have e:vs.toArray++ws.toArray=(vs++ws).toArray:=ae
 by_cases hw:ws=[]
 .exact concat_meets ⟨_,ho,rfl⟩ ⟨_,ho2,rfl⟩ aQ4 seq_tuple_add aO0 aN5 (aN2 _ _)
   (tuple_addW1 t b vs.toArray ws.toArray n n2 dd dd2 sl sl2 (by exists hv)<|by simp[hw]) ⟨ho,ho2,h1 hw⟩
 .refine concat_meets ⟨_,ho,rfl⟩ ⟨_,ho2,rfl⟩ aQ4 seq_tuple_add aO0 aN5 (aN2 _ _)
   (tuple_addW2 t b vs.toArray ws.toArray n n2 dd dd2 sl sl2 (by exists hv) (by exists hw) (by rw[bD,bD];exact hsz)) ⟨ho,ho2,?_⟩
  rw[e];exact h2 hw
nonrec def sIx (n d:Nat):Option Int->Nat
 | none=>d
 | some v=>if v<0 then(v+(n:Int)).toNat else min v.toNat n
theorem sIx_none (n d:Nat):sIx n d none=d:=rfl
theorem sIx_nat (n d k:Nat):sIx n d (some (k:Int))=min k n:=by
 show(if(k:Int)<0 then((k:Int)+(n:Int)).toNat else min (k:Int).toNat n)=min k n
 rw[a7 ad,bE]
theorem cV5 (v:Int)(n d:Nat):(if v<0 then max (v+(n:Int)) 0 else min v (n:Int))=((sIx n d (some v):Nat):Int):=by
 show(if v<0 then max (v+(n:Int)) 0 else min v (n:Int))=(((if v<0 then(v+(n:Int)).toNat else min v.toNat n):Nat):Int)
 by_cases hv:v<0
 .simp only[aA hv];lia
 .simp only[a7 hv];lia
theorem cM6 (lo hi:Option Int)(n:Nat):Builtin.Slice.sliceAdjust lo hi 1 (n:Int)=(((sIx n 0 lo:Nat):Int),((sIx n n hi:Nat):Int)):=by
 refine Prod.ext ?_ ?_
 .cases lo with
  | none=>rfl
  | some v=>exact cV5 v n 0
 .cases hi with
  | none=>rfl
  | some v=>exact cV5 v n n
theorem cM7 (i j:Nat):Builtin.Slice.slicePlaces (i:Int) (j:Int) 1=j-i:=by
 unfold Builtin.Slice.slicePlaces;split<;>lia
theorem bF3 {o:Option Int}{Q:Option Int->Shared->Prop}(p:IsPart v o)(h:Q o s):wpAny (model prog w) A (Builtin.Slice.slicePartIndex v) Q E s:=by
 cases p with
 | none=>exact slicePart_none h
 | int i t=>exact slicePart_int h
theorem yL {lo:Option Int}{Q:Int×Int×Nat->Shared->Prop}(hs:s.heap.IsSliceOf sl vl vu .none)(pl:IsPart vl lo)(pu:IsPart vu hi)
  (h:Q (((sIx n 0 lo:Nat):Int),1,sIx n n hi-sIx n 0 lo) s):wpAny (model prog w) A (Builtin.Slice.sliceApplied (.ref sl)<|pure (n:Int)) Q E s:=by
 obtain⟨os,hos,hcs,hds⟩:=id hs;unfold Builtin.Slice.sliceApplied Builtin.Slice.sliceFields;refine a9 (a9<|dI hos hds (x:=vl) rfl (a9<|dI hos hds (x:=vu) rfl (a9<|dI hos hds (x:= .none) rfl (aP ?_))));refine a9 (slicePart_none ?_);show wpAny _ _ (if((1:Int)==0)=true then _ else _) _ _ s;rw[a7 ac]
 refine a9 (bF3 pl<|a9<|bF3 pu<|a9<|aP ?_)
 show wpAny _ _ (match Builtin.Slice.sliceAdjust lo hi 1 (n:Int)with| (lo,hi)=>pure (lo,(1:Int),Builtin.Slice.slicePlaces lo hi 1)) _ _ s
 rw[cM6 lo hi n];show wpAny _ _ (pure (((sIx n 0 lo:Nat):Int),(1:Int),Builtin.Slice.slicePlaces ((sIx n 0 lo:Nat):Int) ((sIx n n hi:Nat):Int) 1)) _ _ s;rw[cM7];exact aP h
theorem d93 (xs:Array Value)(i k:Nat):((List.range k).filterMap fun(m:Nat)=>xs[((i:Int)+(m:Int)*1).toNat]?).toArray=((xs.toList.drop i).take k).toArray:=by
 have e:(fun(m:Nat)=>xs[((i:Int)+(m:Int)*1).toNat]?)=λm=>xs[i+m]? :=by
  funext m
  have:((i:Int)+(m:Int)*1).toNat=i+m:=ad
  rw[this]
 rw[e];have:=pick_run xs i k;rw[List.filterMap_map]at this;have e2:((λx=>xs[x]?)∘λx=>i+x)=λm=>xs[i+m]? :=rfl
 rw[e2]at this;rw[this]
theorem getItem_tuple_cut {lo:Option Int}(ht:IsTup s.heap t items)(hs:s.heap.IsSliceOf sl vl vu .none)(pl:IsPart vl lo)(pu:IsPart vu hi)
  (hw: ¬(sIx items.size 0 lo=0/\sIx items.size items.size hi=items.size))
  (h:Q (.ref s.heap.objs.size) {s with heap:=s.heap.push {cls:= .type "tuple",data:= .seq ((items.toList.drop<|sIx items.size 0 lo).take<|sIx items.size items.size hi-sIx items.size 0 lo).toArray}})
  (hsz:items.size<=sizeLine):wpAny (model prog w) A (getItem (.ref t)<|.ref sl) Q E s:=by
 have htake:sizeOk (.seq ((items.toList.drop<|sIx items.size 0 lo).take<|sIx items.size items.size hi-sIx items.size 0 lo).toArray):=by
  show((items.toList.drop<|sIx items.size 0 lo).take<|sIx items.size items.size hi-sIx items.size 0 lo).toArray.size<=sizeLine
  rw[bD,nJ,nK,aP1];omega
 obtain⟨os,hos,hcs,hds⟩:=id hs;have hTs:s.TypeIs (.ref sl) "slice":=⟨os,hos,hcs⟩;unfold getItem;try with_reducible refine iZ ?_
 refine a9 (wpAny_sequenceKey ht.typeIs ac ?_)
 refine a9 (kR ht.typeIs zI
  (iX zI ht.typeIs entry_tuple_getitem ?_<|args_tuple_getitem _ _))
 show wpAny _ _ (Builtin.Tuple.tupleItemsOf (.ref t) >>= _) _ _ s
 refine a9 (tupleItemsOf_ ht ?_)
 refine a9 (a09 hTs ?_)
 refine a9 (yL hs pl pu ?_)
 have hno: ¬((((sIx items.size 0 lo:Nat):Int)==0&&(1:Int)==1&&(sIx items.size items.size hi-sIx items.size 0 lo)==items.size)=true):=by
  intro q;rw[cQ,cQ]at q;have q1:((sIx items.size 0 lo:Nat):Int)=0:=eq_of_beq q.1.1;have q2:sIx items.size items.size hi-sIx items.size 0 lo=items.size:=eq_of_beq q.2;exact hw ⟨aa,aa⟩
 show wpAny _ _ (if(((sIx items.size 0 lo:Nat):Int)==0&&(1:Int)==1&&(sIx items.size items.size hi-sIx items.size 0 lo)==items.size)=true then _ else _) _ _ s
 rw[a7 hno,d93]
 first
  | exact a9 (jX (aP ⟨_,rfl,aP h⟩) htake)
  | exact a9 (jX (a9<|aP<|aP ⟨_,rfl,aP h⟩) htake)
  | exact a9 (a9<|jX (aP<|aP ⟨_,rfl,aP h⟩) htake)
  | exact a9 (a9<|jX (aP ⟨_,rfl,aP h⟩) htake)
end
end HT
namespace L2
abbrev TO:=St->Hp->(Option Int->Hp->Prop)->Prop
def PO (X:Cx)(e:Option Expr)(t:TO):Prop:=
 ∀(pins:List (Addr×Obj)) (s:Shared) (σ:St) (H:Hp) (Q:Option Int->Hp->Prop),Inv X pins σ H s->t σ H Q->
  X∩(evalPart e X.env) (λu s'=> ∃o H',Inv X pins σ H' s'/\IsPart u o/\Q o H') X.xe s
def dQ8:TO:=λ_ H Q=>Q none H
def tPart (t:TE):TO:=λσ H Q=>t σ H λx H1=> ∃i,x= .int i/\Q (some i) H1
theorem intsAre_of {ns:List Int}: ∀{us:List Value},Vals (ns.map V.int) us->IntsAre us ns:=by
 induction ns with
 | nil=>intro us r;rw[nR]at r;cases r;exact .nil
 | cons n ns ih=>
  intro us r;cases r with
  | cons r1 r2=>
   obtain⟨t,e⟩:=r1;subst e;exact .cons n t (ih r2)
section
variable {X:Cx}{e:Expr}{te:TE}{lo hi:Option Expr}{tl th:TO}{pos p2:Pos}
theorem dQ9:PO X none dQ8:=by
 intro pins s σ H Q I h;exact aP ⟨none,H,I,.none,h⟩
theorem dR0 (h:PE X e te):PO X (some e) (tPart te):=by
 intro pins s σ H Q I hw;refine thn (h pins s σ H _ I hw) λu s1 ⟨x,H1,I1,r1,q1⟩=> ?_
 obtain⟨i,rfl,q⟩:=q1;obtain⟨t,rfl⟩:=r1;exact⟨some i,H1,I1,.int i t,q⟩
def SlR (X:Cx)(r:V->Option Int->Option Int->Hp->VK->Prop):Prop:=
 ∀(pins:List (Addr×Obj)) (s:Shared) (σ:St) (H:Hp) (x:V) (v vl vu:Value) (lo hi:Option Int) (sl:Addr) (Q:VK),Inv X pins σ H s->RelV x v->s.heap.IsSliceOf sl vl vu .none->IsPart vl lo->IsPart vu hi->r x lo hi H Q->
  ∃T id,typeLookup (.type T) "__getitem__"=pure (some<|.builtin id)/\s.TypeIs v T/\X∩(getItem v<|.ref sl) (EP X pins σ Q) X.xe s
theorem SlR.or {r r':V->Option Int->Option Int->Hp->VK->Prop}(h:SlR X r)(h':SlR X r'):SlR X (λx lo hi H Q=>r x lo hi H Q\/r' x lo hi H Q):=by
 intro pins s σ H x v vl vu lo hi sl Q I rx hs pl pu q;rcases q with q|q
 .exact h pins s σ H x v vl vu lo hi sl Q I rx hs pl pu q
 .exact h' pins s σ H x v vl vu lo hi sl Q I rx hs pl pu q
def tSl (r:V->Option Int->Option Int->Hp->VK->Prop)(te:TE)(tl th:TO):TE:=λσ H Q=>te σ H λx H1=>tl σ H1 λl H2=>th σ H2 λu H3=>r x l u H3 Q
theorem cB2 {r:V->Option Int->Option Int->Hp->VK->Prop}(hr:SlR X r)(he:PE X e te)(hl:PO X lo tl)(hu:PO X hi th):PE X (.Subscript e (.Slice lo hi none p2) pos) (tSl r te tl th):=by
 intro pins s σ H Q I h;refine Subscript_ (thn (he pins s σ H _ I h) λv s1 ⟨x,H1,I1,r1,q1⟩=> ?_)
 refine wpAny_Slice (thn (hl pins s1 σ H1 _ I1 q1) λvl s2 ⟨l,H2,I2,pl,q2⟩=>thn (hu pins s2 σ H2 _ I2 q2) λvu s3 ⟨u,H3,I3,pu,q3⟩=> ?_)
 rw[evalPart_none];refine aP ?_;have I4:Inv X pins σ H3 {s3 with heap:=s3.heap.push {cls:= .type "slice",data:= .fields #[vl,vu,.none]}}:=I3.kept (t':=s3.toks) λb ob q=>aV _ q
 obtain⟨T,id,hT,ht,hg⟩:=hr pins {s3 with heap:=s3.heap.push {cls:= .type "slice",data:= .fields #[vl,vu,.none]}} σ H3 x v vl vu l u s3.heap.objs.size Q I4 r1 (Heap.IsSliceOf.new ..) pl pu q3;show X∩(subscriptTail e (.Slice lo hi none p2) v<|.ref s3.heap.objs.size) (EP X pins σ Q) X.xe {s3 with heap:=s3.heap.push {cls:= .type "slice",data:= .fields #[vl,vu,.none]}}
 exact tail_any (ops:=[.ref s3.heap.objs.size,v]) ht hT hg (by with_unfolding_all rfl)
nonrec def d16 (xs:List V)(lo hi:Option Int):List V:=(xs.drop<|HT.sIx xs.length 0 lo).take (HT.sIx xs.length xs.length hi-HT.sIx xs.length 0 lo)
theorem b77 (xs:List V)(lo hi:Option Int):(d16 xs lo hi).length<=xs.length:=by
 unfold d16;rw[nJ,nK]
 lia
nonrec def rSlT (K:Frag):V->Option Int->Option Int->Hp->VK->Prop:=λx lo hi H Q=> ∃a xs,x= .ref a/\SqT K H a xs/\
 ¬(HT.sIx xs.length 0 lo=0/\HT.sIx xs.length xs.length hi=xs.length)/\ ∀p,H p=none->Q (.ref p) (upd H p<|.tup<|d16 xs lo hi)
theorem d94:SlR X (rSlT X.K):=by
 intro pins s σ H x v vl vu lo hi sl Q I rx hs pl pu h;obtain⟨a,xs,rfl,hx,hw,q⟩:=h;cases rx;obtain⟨its,r,ht,hz⟩:=I.tuple hx;have hlen:its.toArray.size=xs.length:=by rw[bD];exact r.length.symm
 refine⟨"tuple",_,PyProof.Rows.slot_tuple_getitem.lookup,ht.typeIs,?_⟩
 refine HT.getItem_tuple_cut ht hs pl pu (by rw[hlen];exact hw) ?_ (by rw[hlen];exact hz)
 rw[hlen];refine⟨.ref s.heap.objs.size,_,I.laid (λb ob q=>aV _ q) (aK _) ?_,rfl,q _<|I.hok.fresh<|aK _⟩
 exact⟨aH (b77 xs lo hi) hz,_,(r.drop<|HT.sIx xs.length 0 lo).take<|HT.sIx xs.length xs.length hi-HT.sIx xs.length 0 lo,qD _ _⟩
nonrec def rCatT (K:Frag):R2:=λx y H Q=> ∃a b xs ys,x= .ref a/\y= .ref b/\SqT K H a xs/\SqT K H b ys/\xs≠[]/\xs.length+ys.length<=sizeLine/\
 (ys=[]->Q (.ref a) H)/\(ys≠[]-> ∀p,H p=none->Q (.ref p) (upd H p<|.tup<|xs++ys))
theorem Vals.nil_iff {xs:List V}(r:Vals xs us):us=[]↔xs=[]:=by
 cases r with
 | nil=>simp
 | cons _ _=>simp
theorem dR1:OpR X (binaryOp .Add) (rCatT X.K):=by
 intro pins s σ H x y v u Q I rx ry h;obtain⟨a,b,xs,ys,rfl,rfl,ha,hb,hx,hz,q1,q2⟩:=h;cases rx;cases ry;obtain⟨its,r1,p1,_⟩:=I.tuple ha;obtain⟨its2,r2,p2,_⟩:=I.tuple hb;refine HT.cat_tup p1 p2 (λz=>hx (r1.nil_iff.mp z)) (λz=>⟨.ref a,H,I,rfl,q1<|r2.nil_iff.mp z⟩) (λz=> ?_) (by rw[<-r1.length,<-r2.length];exact hz)
 refine⟨.ref s.heap.objs.size,_,I.laid (λb ob q=>aV _ q) (aK _) ?_,rfl,q2 (λw=>z (r2.nil_iff.mpr w)) _<|I.hok.fresh<|aK _⟩
 exact⟨by rw[cB];exact hz,_,r1.append r2,qD _ _⟩
end
nonrec def ixN (n:Nat)(i:Int):Option Nat:=if 0<=i then(if i<n then some i.toNat else none)else if -(n:Int)<=i then some (i+n).toNat else none
nonrec def atI {α:Type}(xs:List α)(i:Int):Option α:=(ixN xs.length i).bind λj=>xs[j]?
theorem bC8 {i:Int}(h:ixN n i=some j):seqIndex? i n=some j/\j<n/\ -(n:Int)<=i/\i<n:=by
 unfold ixN at h
 by_cases h0:0<=i
 .rw[aA h0]at h
  by_cases h1:i<n
  .rw[aA h1]at h;have e:i.toNat=j:=eG h;exact⟨by rw[a13 h0 h1,e],ad,ad,h1⟩
  .rw[a7 h1]at h;cases h
 .rw[a7 h0]at h
  by_cases h1: -(n:Int)<=i
  .rw[aA h1]at h;have e:(i+n).toNat=j:=eG h;exact⟨by rw[a10 ad h1,e],ad,h1,ad⟩
  .rw[a7 h1]at h;cases h
theorem bC9 {α:Type}{xs:List α}{i:Int}{v:α}(h:atI xs i=some v): ∃j,seqIndex? i xs.length=some j/\xs[j]? =some v/\j<xs.length/\ -(xs.length:Int)<=i/\i<xs.length:=by
 unfold atI at h;cases e:ixN xs.length i with
 | none=>rw[e]at h;cases h
 | some j=>
  rw[e]at h;obtain⟨h1,h2,h3,h4⟩:=bC8 e;exact⟨j,h1,h,h2,h3,h4⟩
theorem cG {α:Type}{xs:List α}{v:α}(h:xs[j]? =some v):atI xs (j:Int)=some v:=by
 have hj:j<xs.length:=(gG.mp h).1;have e:ixN xs.length (j:Int)=some j:=by
  unfold ixN;rw[aA ad,aA ad];simp
 unfold atI;rw[e];exact h
theorem d95 {α:Type}(xs:List α)(v:α):atI (xs++[v]) (-1)=some v:=by
 have hl:(xs++[v]).length=xs.length+1:=ae
 have e:ixN (xs++[v]).length (-1)=some xs.length:=by
  unfold ixN;rw[a7 ac,aA ad]
  congr 1
  lia
 unfold atI;rw[e];simp
def a15 (b:Expr):Prop:= ∀o i,subscripted b false o i=operate [o,i] (getItem o i)
def IxR (X:Cx)(r:R2):Prop:=
 ∀(value slice:Expr) (pins:List (Addr×Obj)) (s:Shared) (σ:St) (H:Hp) (x y:V) (v u:Value) (Q:VK),Inv X pins σ H s->RelV x v->RelV y u->r x y H Q->
  subscripted slice false v u=operate [v,u] (getItem v u)->X∩(subscriptTail value slice v u) (EP X pins σ Q) X.xe s
def MtR (X:Cx)(id:String)(r:V->List V->Hp->VK->Prop):Prop:=
 ∀(pins:List (Addr×Obj)) (s:Shared) (σ:St) (H:Hp) (x:V) (xs:List V) (v:Value) (us:List Value) (Q:VK),Inv X pins σ H s->RelV x v->Vals xs us->r x xs H Q->
  X∩(call (.builtin id) (v::us)) (EP X pins σ Q) X.xe s
section
variable {X:Cx}{a b:Expr}{ta tb:TE}{pos:Pos}
theorem IxR.or {r r':R2}(h:IxR X r)(h':IxR X r'):IxR X (λx y H Q=>r x y H Q\/r' x y H Q):=by
 intro value slice pins s σ H x y v u Q I rx ry q hs;rcases q with q|q
 .exact h value slice pins s σ H x y v u Q I rx ry q hs
 .exact h' value slice pins s σ H x y v u Q I rx ry q hs
theorem cV6 {r:R2}(hr:IxR X r)(ha:PE X a ta)(hb:PE X b tb)(hs:a15 b):PE X (.Subscript a b pos) (tOp r ta tb):=by
 intro pins s σ H Q I h;exact Subscript_ (binT ha hb I h λv u s2 x y H2 I2 rx ry q=>hr a b pins s2 σ H2 x y v u Q I2 rx ry q (hs _ _))
nonrec def rIxL (K:Frag):R2:=λx y H Q=> ∃p xs i v,x= .ref p/\y= .int i/\SqL K H p xs/\atI xs i=some v/\Q v H
nonrec def rIxT (K:Frag):R2:=λx y H Q=> ∃p xs i v,x= .ref p/\y= .int i/\SqT K H p xs/\atI xs i=some v/\Q v H
nonrec def rIxS:R2:=λx y H Q=> ∃z i c,x= .str z/\y= .int i/\z.length<=sizeLine/\atI z.cps.toList i=some c/\Q (.str ⟨#[c]⟩) H
theorem bD0:IxR X (rIxL X.K):=by
 intro value slice pins s σ H x y v u Q I rx ry h hs;obtain⟨p,xs,i,z,rfl,rfl,hq,he,q⟩:=h;cases rx;obtain⟨t,rfl⟩:=ry;obtain⟨its,r,pl,hz⟩:=I.list hq;obtain⟨j,h1,h2,h3,h4,h5⟩:=bC9 he;obtain⟨w,ew,rw'⟩:=r.get h2;have hl:=r.length;have hn:=b20;have fin:EP X pins σ Q w s:=⟨z,H,I,rw',q⟩
 by_cases h0:0<=i
 .have hj:i.toNat=j:=by
   rw[a13 h0 h5]at h1;exact eG h1
  exact item_listR pl.isList h0 ad (by rw[hj];exists ew) fin hs
 .have hj:(i+(its.toArray.size:Int)).toNat=j:=by
   rw[a10 ad h4]at h1
   rw[bD,<-hl];exact eG h1
  exact subscriptTail_builtinR pl.isList.typeIs slot_list_getitem.lookup
   (wpAny_getItem_list_neg pl.isList ad (by rw[bD]<;>lia) ad (by rw[hj];exists ew) ⟨rfl,fin⟩) hs
theorem ix_tup:IxR X (rIxT X.K):=by
 intro value slice pins s σ H x y v u Q I rx ry h hs;obtain⟨p,xs,i,z,rfl,rfl,hq,he,q⟩:=h;cases rx;obtain⟨t,rfl⟩:=ry;obtain⟨its,r,pl,hz⟩:=I.tuple hq;obtain⟨j,h1,h2,h3,h4,h5⟩:=bC9 he;obtain⟨w,ew,rw'⟩:=r.get h2;have hl:=r.length;have hn:=b20;have fin:EP X pins σ Q w s:=⟨z,H,I,rw',q⟩;exact subscriptTail_builtinR pl.typeIs slot_tuple_getitem.lookup
  (getItem_tuple pl ad ad (by rw[bD,<-hl];exact h1) (by exists ew) ⟨rfl,fin⟩) hs
theorem ix_str:IxR X rIxS:=by
 intro value slice pins s σ H x y v u Q I rx ry h hs;obtain⟨z,i,c,rfl,rfl,hz,he,q⟩:=h;obtain⟨t,rfl⟩:=rx;obtain⟨t',rfl⟩:=ry;obtain⟨j,h1,h2,h3,h4,h5⟩:=bC9 he;have hl:z.cps.toList.length=z.length:=by simp[Str.length]
 rw[hl]at h1 h4 h5;have hn:=b20;exact tail_any (typeIs_str s z t) slot_str_getitem.lookup (getItem_str (by
  have e1:decide (i< -(2^63:Int))=false:=eF ad
  have e2:decide (i≥2^63)=false:=eF ad
  rw[e1,e2,Bool.or_false]) (by rw[h1];exists h2) ⟨.str ⟨#[c]⟩,H,I.tok _,⟨_,rfl⟩,q⟩) hs
nonrec def rIx (K:Frag):R2:=λx y H Q=>rIxL K x y H Q\/rIxT K x y H Q\/rIxS x y H Q
theorem ix_seq:IxR X (rIx X.K):=bD0.or (ix_tup.or ix_str)
theorem cM8 (its:List Value)(n j:Nat)(u:Value):Obj.mapSeq (·.setIfInBounds j u) {cls:= .type "list",data:= .seq its.toArray n}={cls:= .type "list",data:= .seq (its.set j u).toArray n}:=by
 simp[Obj.mapSeq]
theorem Inv.lst {σ:St}{H:Hp}{p:Addr}{xs:List V}(I:Inv X pins σ H s)(h:H p=some (.lst xs)) :
  ∃(its:List Value) (n:Nat),Vals xs its/\s.heap.get? p=some {cls:= .type "list",data:= .seq its.toArray n}/\xs.length<=sizeLine:=by
 obtain⟨z,its,n,r,e⟩:=I.hok p _ h;exact⟨its,n,r,e,z⟩
theorem Inv.lstUpd {σ:St}{H:Hp}{p:Addr}{xs ys:List V}{its':List Value}{n':Nat}{f:Obj->Obj}(I:Inv X pins σ H s)(h:H p=some (.lst xs))
  (ho:s.heap.get? p=some {cls:= .type "list",data:= .seq its.toArray n}) (hf:f {cls:= .type "list",data:= .seq its.toArray n}={cls:= .type "list",data:= .seq its'.toArray n'}) (r:Vals ys its') (hz:ys.length<=sizeLine) (t:Nat) :
  Inv X pins σ (upd H p<|.lst ys) {s with heap:=s.heap.update p f,toks:=t}:=by
 have e:(s.heap.update p f).get? p=some {cls:= .type "list",data:= .seq its'.toArray n'}:=by
  rw[pK f ho (by rw[hf]<;>rfl),hf]
 refine I.write (x:=p) (e:=p) (by rw[h];trivial) (.inl rfl) (λb u hb q=>(aO1 _ _<|Ne.symm hb).trans q) ⟨_,e⟩ ?_
 exact⟨hz,its',n',r,e⟩
nonrec def rSetL:V->V->V->Hp->(Hp->Prop)->Prop:=λo i v H Q=> ∃p xs k j,o= .ref p/\i= .int k/\H p=some (.lst xs)/\ixN xs.length k=some j/\Q (upd H p<|.lst<|xs.set j v)
theorem aV4:PSet X rSetL:=by
 intro pins s σ H o i v ov iv u Q I ro ri rv h;obtain⟨p,xs,k,j,rfl,rfl,hp,hj,q⟩:=h;cases ro;obtain⟨t,rfl⟩:=ri;obtain⟨its,n,r,ho,hz⟩:=I.lst hp;obtain⟨h1,h2,h3,h4⟩:=bC8 hj;have hl:=r.length;have hn:=b20;have I':Inv X pins σ (upd H p<|.lst<|xs.set j v) {s with heap:=s.heap.update p (Obj.mapSeq (·.setIfInBounds j u))}:=
  I.lstUpd hp ho (cM8 its n j u) (r.set rv j) (by rw[cZ];exact hz) s.toks
 by_cases h0:0<=k
 .have hk:k.toNat=j:=by
   rw[a13 h0 h4]at h1;exact eG h1
  exact PySem.W.ki_setAt ho h0 ad (by rw[bD,<-hl];exact h4) (by rw[hk];exact⟨_,I',q⟩)
 .have hk:(k+(its.toArray.size:Int)).toNat=j:=by
   rw[a10 ad h3]at h1
   rw[bD,<-hl];exact eG h1
  exact PySem.W.ki_setBack ho ad (by rw[bD,<-hl];exact h3) ad (by rw[hk];exact⟨_,I',q⟩)
theorem c12 (lo hi:Option Int)(n:Nat):(sliceBounds lo hi none n).1=((HT.sIx n 0 lo:Nat):Int)/\(sliceBounds lo hi none n).2.1=((HT.sIx n n hi:Nat):Int)/\(sliceBounds lo hi none n).2.2=1:=by
 refine⟨?_,?_,rfl⟩
 .cases lo with
  | none=>simp[sliceBounds,HT.sIx]
  | some i=>
   simp only[sliceBounds,HT.sIx,getD_none,show(1:Int)>0 by decide,j7]
   by_cases h:i<0
   .simp only[h,j7]<;>lia
   .simp only[h,fZ]<;>lia
 .cases hi with
  | none=>simp[sliceBounds,HT.sIx]
  | some i=>
   simp only[sliceBounds,HT.sIx,getD_none,show(1:Int)>0 by decide,j7]
   by_cases h:i<0
   .simp only[h,j7]<;>lia
   .simp only[h,fZ]<;>lia
theorem bQ1 (its:List Value)(lo hi:Option Int):slicePick its.toArray lo hi none=((its.drop<|HT.sIx its.length 0 lo).take<|HT.sIx its.length its.length hi-HT.sIx its.length 0 lo).toArray:=by
 obtain⟨h1,h2,h3⟩:=c12 lo hi its.toArray.size;unfold slicePick;rw[h1,h2,h3];simp only[sliceRange_one,pick_run]<;>rfl
nonrec def rSlL (K:Frag):V->Option Int->Option Int->Hp->VK->Prop:=λx lo hi H Q=> ∃a xs,x= .ref a/\SqL K H a xs/\ ∀p,H p=none->Q (.ref p) (upd H p<|.lst<|d16 xs lo hi)
theorem cV7:SlR X (rSlL X.K):=by
 intro pins s σ H x v vl vu lo hi sl Q I rx hs pl pu h;obtain⟨a,xs,rfl,hx,q⟩:=h;cases rx;obtain⟨its,r,ht,hz⟩:=I.list hx;have hlen:=r.length;refine⟨"list",_,slot_list_getitem.lookup,ht.isList.typeIs,?_⟩;refine wpAny_getItem_list_slice ht.isList hs pl pu .none ae ?_ (by rw[bD]<;>lia)
 rw[bQ1,<-hlen];refine⟨.ref s.heap.objs.size,_,I.laid (λb ob q=>aV _ q) (aK _) ?_,rfl,q _<|I.hok.fresh<|aK _⟩
 exact⟨aH (b77 xs lo hi) hz,_,0,(r.drop<|HT.sIx xs.length 0 lo).take<|HT.sIx xs.length xs.length hi-HT.sIx xs.length 0 lo,cD _ rfl⟩
nonrec def aV5:V->Bool
 | .non=>true
 | .bl _=>true
 | .int _=>true
 | .str _=>true
 | _=>false
nonrec def eqV:V->V->Bool
 | .non,.non=>true
 | .bl a,.bl b=>a==b
 | .bl a,.int b=>(if a then 1 else 0)==b
 | .int a,.bl b=>a==(if b then 1 else 0)
 | .int a,.int b=>a==b
 | .str a,.str b=>a==b
 | _,_=>false
theorem eqAt_V {y x:V}(ry:RelV y u)(rx:RelV x v)(fy:aV5 y=true)(fx:aV5 x=true):SeqAt.EqAt A s u v (eqV y x):=by
 cases y with
 | non=>
  cases ry;cases x with
  | non=>cases rx;exact SeqAt.EqAt.same _
  | bl b=>cases rx;exact SeqAt.EqAt.none_bool b
  | int b=>obtain⟨t,rfl⟩:=rx;exact SeqAt.EqAt.none_int b t
  | str b=>obtain⟨t,rfl⟩:=rx;exact SeqAt.EqAt.none_str b t
  | _=>exact absurd (show false=true from fx) cK
 | bl a=>
  cases ry;cases x with
  | non=>cases rx;exact SeqAt.EqAt.bool_none a
  | bl b=>cases rx;exact SeqAt.EqAt.bool_bool a b
  | int b=>obtain⟨t,rfl⟩:=rx;exact SeqAt.EqAt.bool_int a b t
  | str b=>obtain⟨t,rfl⟩:=rx;exact SeqAt.EqAt.bool_str a b t
  | _=>exact absurd (show false=true from fx) cK
 | int a=>
  obtain⟨t',rfl⟩:=ry;cases x with
  | non=>cases rx;exact SeqAt.EqAt.int_none a t'
  | bl b=>cases rx;exact SeqAt.EqAt.int_bool a t' b
  | int b=>obtain⟨t,rfl⟩:=rx;exact SeqAt.EqAt.int_int a t' b t
  | str b=>obtain⟨t,rfl⟩:=rx;exact SeqAt.EqAt.int_str a t' b t
  | _=>exact absurd (show false=true from fx) cK
 | str a=>
  obtain⟨t',rfl⟩:=ry;cases x with
  | non=>cases rx;exact SeqAt.EqAt.str_none a t'
  | bl b=>cases rx;exact SeqAt.EqAt.str_bool a t' b
  | int b=>obtain⟨t,rfl⟩:=rx;exact SeqAt.EqAt.str_int a t' b t
  | str b=>obtain⟨t,rfl⟩:=rx;exact SeqAt.EqAt.str_str a t' b t
  | _=>exact absurd (show false=true from fx) cK
 | _=>exact absurd (show false=true from fy) cK
nonrec def eqU (x:V)(u:Value):Bool:=match u with
 | .none=>eqV .non x
 | .bool b=>eqV (.bl b) x
 | .int i _=>eqV (.int i) x
 | .str z _=>eqV (.str z) x
 | _=>false
theorem d96 {x y:V}(r:RelV y u)(f:aV5 y=true):eqU x u=eqV y x:=by
 cases y with
 | non=>cases r;rfl
 | bl b=>cases r;rfl
 | int i=>obtain⟨t,rfl⟩:=r;rfl
 | str z=>obtain⟨t,rfl⟩:=r;rfl
 | _=>exact absurd (show false=true from f) cK
theorem c13 {x:V}: ∀{xs:List V} {us:List Value},Vals xs us->xs.all aV5=true->us.any (eqU x)=xs.any λy=>eqV y x
 | _,_,.nil,_=>rfl
 | y::xs,u::us,.cons r t,f=>by
  rw[a03,cQ]at f;rw[a04,a04,d96 r f.1,c13 t f.2]
theorem bF4 {A:Around}{s:Shared}{x:V}{v:Value}(rx:RelV x v)(fx:aV5 x=true): ∀{xs:List V} {us:List Value},Vals xs us->xs.all aV5=true-> ∀u∈us,SeqAt.EqAt A s u v (eqU x u)
 | _,_,.nil,_=>λu hu=>by cases hu
 | y::xs,u::us,.cons r t,f=>λu' hu=>by
  rw[a03,cQ]at f;rcases bB.mp hu with rfl|hu
  .rw[d96 r f.1];exact eqAt_V r rx f.1 fx
  .exact bF4 rx fx t f.2 u' hu
nonrec def inV (x:V)(xs:List V):Bool:=xs.any λy=>eqV y x
nonrec def rIn (K:Frag)(neg:Bool):R2:=λx y H Q=> ∃p xs,y= .ref p/\(SqL K H p xs\/SqT K H p xs)/\aV5 x=true/\xs.all aV5=true/\Q (.bl<|if neg then !inV x xs else inV x xs) H
theorem c14:OpR X (compareOp .NotIn) (rIn X.K true):=by
 intro pins s σ H x y v u Q I rx ry h;obtain⟨p,xs,rfl,hq,fx,fs,q⟩:=h;cases ry;rcases hq with hq|hq
 .obtain⟨its,r,pl,hz⟩:=I.list hq;refine SeqAt.notIn_listAt (eqU x) pl.isList (λw hw=>bF4 rx fx r fs w (by exists hw)) ⟨.bl _,H,I,rfl,?_⟩
  rw[show its.toArray.any (eqU x)=its.any (eqU x)by simp,c13 r fs]
  exact q
 .obtain⟨its,r,pl,hz⟩:=I.tuple hq;refine SeqAt.notIn_tupleAt (eqU x) pl (λw hw=>bF4 rx fx r fs w (by exists hw)) ⟨.bl _,H,I,rfl,?_⟩
  rw[show its.toArray.any (eqU x)=its.any (eqU x)by simp,c13 r fs]
  exact q
theorem c15:oE X (.builtin "len") (λxs H Q=> ∃p ys,xs=[.ref p]/\(SqL X.K H p ys\/SqT X.K H p ys)/\Q (.int ys.length) H):=by
 intro pins s σ H xs us Q I r h;obtain⟨p,ys,rfl,hq,q⟩:=h;obtain⟨u,rfl,rx⟩:=vals1 r;cases rx;have hn:=b20;rcases hq with hq|hq
 .obtain⟨its,r',pl,hz⟩:=I.list hq;have hlen:=r'.length;exact Calls.call_len_list pl.isList (by simp only[bD]<;>lia) ⟨.int ys.length,H,I.tok _,⟨s.toks+1,by rw[bD,hlen]⟩,q⟩
 .obtain⟨its,r',pl,hz⟩:=I.tuple hq;have hlen:=r'.length;exact len_tuple pl (by simp only[bD]<;>lia) ⟨.int ys.length,H,I.tok _,⟨s.toks+1,by rw[bD,hlen]⟩,q⟩
theorem c16:oE X (.type "list") (λxs H Q=> ∃p ys,xs=[.ref p]/\(SqL X.K H p ys\/SqT X.K H p ys)/\ ∀l,H l=none->Q (.ref l) (upd H l<|.lst ys)):=by
 intro pins s σ H xs us Q I r h;obtain⟨p,ys,rfl,hq,q⟩:=h;obtain⟨u,rfl,rx⟩:=vals1 r;cases rx;have fin: ∀(its:List Value),Vals ys its->ys.length<=sizeLine-> ∀(h':Heap) (c':Nat),(∀b o',s.heap.get? b=some o'->h'.get? b=some o')->
   h'.get? s.heap.objs.size=some {cls:= .type "list",dict:=none,data:= .seq its.toArray c',slots:= #[]}->EP X pins σ Q (.ref s.heap.objs.size) {s with heap:=h'}:=λits r' hz h' c' kp e=>
  ⟨.ref s.heap.objs.size,_,I.laid kp (aK _)<|show rK X.prog X.w _ h' _ (.lst ys)from⟨hz,its,c',r',e⟩,rfl,q _<|I.hok.fresh<|aK _⟩
 rcases hq with hq|hq
 .obtain⟨its,r',pl,hz⟩:=I.list hq;have hlen:=r'.length;obtain⟨o,ho,hc,n,hd⟩:=pl.isList;exact call_list_seq p (.inl rfl) ho hc hd (λh' c' kp e=>fin its r' hz h' c' kp e) (by simp only[bD]<;>lia)
 .obtain⟨its,r',pl,hz⟩:=I.tuple hq;have hlen:=r'.length;obtain⟨o,ho,hc,n,hd⟩:=pl;exact call_list_seq p (.inr rfl) ho hc hd (λh' c' kp e=>fin its r' hz h' c' kp e) (by simp only[bD]<;>lia)
theorem wL:oE X (.type "tuple") (λxs H Q=> ∃p ys,xs=[.ref p]/\((SqL X.K H p ys/\ ∀l,H l=none->Q (.ref l) (upd H l<|.tup ys))\/(SqT X.K H p ys/\Q (.ref p) H))):=by
 intro pins s σ H xs us Q I r h;obtain⟨p,ys,rfl,h⟩:=h;obtain⟨u,rfl,rx⟩:=vals1 r;cases rx;rcases h with⟨hq,q⟩| ⟨hq,q⟩
 .obtain⟨its,r',pl,hz⟩:=I.list hq;have hlen:=r'.length;refine call_tuple_list pl.isList (λh' kp=> ?_) (by simp only[bD]<;>lia)
  have I1:Inv X pins σ H {s with heap:=h'}:=I.kept kp;have I2:Inv X pins σ (upd H h'.objs.size<|.tup ys) {s with heap:=h'.push {cls:= .type "tuple",data:= .seq its.toArray}}:=
   I1.laid (λb o e=>aV _ e) (aK _) (show rK X.prog X.w _ _ _ (.tup ys)from⟨hz,its,r',qD _ _⟩)
  exact⟨.ref h'.objs.size,_,I2,rfl,q _<|I1.hok.fresh<|aK _⟩
 .obtain⟨its,r',pl,hz⟩:=I.tuple hq;exact call_tuple_same pl ⟨.ref p,H,I,rfl,q⟩
def tyV (K:Frag)(T:String)(x:V)(H:Hp):Prop:=match x with
 | .str _=>T="str"
 | .int _=>T="int"
 | .ref p=>(T="list"/\ ∃xs,SqL K H p xs)\/(T="tuple"/\ ∃o,K.lookup p=some o/\o.cls= .type "tuple"/\o.dict=none)\/
   (T="dict"/\((∃kvs,H p=some (.dK kvs))\/ ∃kvs,H p=some (.dT kvs)))\/(T="set"/\ ∃S n,H p=some (.set S n))
 | _=>False
theorem tyV_is {pins:List (Addr×Obj)}{σ:St}{H:Hp}{s:Shared}{T:String}{x:V}{v:Value}(I:Inv X pins σ H s)(r:RelV x v)(ty:tyV X.K T x H) :
  s.TypeIs v T/\ ∀a,v= .ref a-> ∃ob,s.heap.get? a=some ob/\ob.dict=none:=by
 cases x with
 | str z=>
  obtain⟨t,rfl⟩:=r;cases (show T="str" from ty)
  exact⟨typeIs_str s z t,λ_ e=>nomatch e⟩
 | int i=>
  obtain⟨t,rfl⟩:=r;cases (show T="int" from ty)
  exact⟨qC s i t,λ_ e=>nomatch e⟩
 | ref p=>
  cases r;rcases ty with⟨rfl,xs,hq⟩| ⟨rfl,o,hk,hc,hd⟩| ⟨rfl,hk⟩| ⟨rfl,S,n,hk⟩
  .obtain⟨its,_,pl,_⟩:=I.list hq;refine⟨pl.isList.typeIs,λa e=> ?_⟩
   cases e;obtain⟨o,n,e,c,hd,_⟩:=pl;exact⟨o,e,hd⟩
  .refine⟨⟨o,I.kIn p o hk,hc⟩,λa e=> ?_⟩
   cases e;exact⟨o,I.kIn _ o hk,hd⟩
  .have z: ∃o,s.heap.get? p=some o/\o.ExactDict:=by
    rcases hk with⟨kvs,hk⟩| ⟨kvs,hk⟩
    .obtain⟨_,_,_,_,o,_,_,e,ex,_⟩:=I.hok p _ hk;exact⟨o,e,ex⟩
    .obtain⟨_,_,_,_,o,_,_,e,ex,_⟩:=I.hok p _ hk;exact⟨o,e,ex⟩
   obtain⟨o,e,ex⟩:=z;refine⟨⟨o,e,ex.1⟩,λa e2=> ?_⟩
   cases e2;exact⟨o,e,ex.2.1⟩
  .obtain⟨o,_,_,_,e,ex,_⟩:=I.hok p _ hk;refine⟨⟨o,e,ex.1⟩,λa e2=> ?_⟩
   cases e2;exact⟨o,e,ex.2.1⟩
 | _=>exact False.elim ty
def tBM (K:Frag)(T:String)(r:V->List V->Hp->VK->Prop)(to:TE)(t:TA):TE:=λσ H Q=>to σ H λx H1=>tyV K T x H1/\t σ H1 λxs H2=>r x xs H2 Q
variable {o e:Expr}{es:List Expr}{to:TE}{t:TA}{name:Str}{apos cpos:Pos}{T id:String}{r:V->List V->Hp->VK->Prop}
theorem cV8 (pa:PlainAttrs T)(slot:Slot T name id)(hty:typeOf (.builtin id)=pure (.type "method_descriptor"))(hm:MtR X id r)(ho:PE X o to)(ha:PA X (e::es) t)
  (hbase:↥(attributeBase o name X.env (eval o X.env)=eval o X.env))
  (hfew:↥(((backTo cpos<|starEach (e::es) X.env).all (λx=> !x.1)&&(backToKw cpos<|keywordEach [] X.env).all (λx=>x.1.isSome)
   &&decide ((e::es).length+([]:List Keyword).length+(if([]:List Keyword).isEmpty then 0 else 1)<30))=true))
  (hline:↥((apos.endLine==cpos.line)=true)) (hs:↥(starEach (e::es) X.env=(false,eval e X.env)::starEach es X.env)) (hplain:↥((backTo cpos<|starEach es X.env).any (·.1)=false)) :
  PE X (.Call (.Attribute o name apos) (e::es) [] cpos) (tBM X.K T r to t):=by
 intro pins s σ H Q I h;refine wpAny_Call_method_late hbase hfew hline rfl (thn (ho pins s σ H _ I h) λv s1 ⟨x,H1,I1,r1,ty,q1⟩=> ?_)
 obtain⟨h1,h2⟩:=tyV_is I1 r1 ty;refine⟨T,id,pa,slot,hty,h1,h2,?_⟩;have hA:=ha cpos pins s1 σ H1 _ I1 q1;rw[hs]at hA⊢;refine Calls.callWith_builtin (by show(false||(backTo cpos<|starEach es X.env).any (·.1))=false;rw[hplain]<;>rfl) (aO5 ?_)
 exact thn hA λus s2 ⟨vs,H2,I2,r2,q2⟩=>hm pins s2 σ H2 x vs v us Q I2 r1 r2 q2
end
def MtM (X:Cx)(id:String)(r:V->List V->Hp->VK->Prop):Prop:=
 ∀(pins:List (Addr×Obj)) (s:Shared) (σ:St) (H:Hp) (x:V) (xs:List V) (v:Value) (us:List Value) (Q:VK),Inv X pins σ H s->RelV x v->Vals xs us->r x xs H Q->
  X∩(call (.builtin id) (v::us)) (EP X pins σ Q) X.xe s
theorem Vals.one {x:V}(h:Vals [x] us): ∃u,us=[u]/\RelV x u:=by
 cases h with
 | cons r q=>cases q;exact⟨_,rfl,r⟩
theorem Vals.two {x y:V}(h:Vals [x,y] us): ∃u v,us=[u,v]/\RelV x u/\RelV y v:=by
 cases h with
 | cons r q=>obtain⟨u,rfl,s⟩:=Vals.one q;exact⟨_,_,rfl,r,s⟩
theorem Vals.eraseIdx: ∀{xs:List V} {us:List Value} (i:Nat),Vals xs us->Vals (xs.eraseIdx i) (us.eraseIdx i)
 | _,_,_,.nil=> .nil
 | _,_,0,.cons _ t=>t
 | _,_,i+1,.cons r t=> .cons r (Vals.eraseIdx i t)
theorem Vals.rep {xs:List V}{us:List Value}(h:Vals xs us): ∀k:Nat,Vals (replicate k xs).flatten (replicate k us).flatten
 | 0=> .nil
 | k+1=>by
  exact Vals.append h (Vals.rep h k)
theorem bU8 {α:Type}: ∀(l:List α) (i:Nat),(l.eraseIdx i).length<=l.length
 | [],_=>aK _
 | _::_,0=>qA _
 | _::r,i+1=>aQ5 (bU8 r i)
theorem foldl_rep (its:List Value): ∀(k:Nat) (acc:List Value),
  foldl (λx1 x2=>x1++x2) acc.toArray (replicate k its.toArray)=(acc++(replicate k its).flatten).toArray
 | 0,acc=>ae
 | k+1,acc=>by
  have e:acc.toArray++its.toArray=(acc++its).toArray:=ae
  have e2:(acc++its)++(replicate k its).flatten=acc++(replicate (k+1) its).flatten:=by
   rw[zQ,aQ0,List.append_assoc]
  rw[<-e2,<-foldl_rep its k (acc++its),<-e,zQ,List.foldl_cons]
section
variable {X:Cx}{pins:List (Addr×Obj)}{σ:St}{H:Hp}{s:Shared}{l b:Addr}{xs ys zs:List V}
theorem Inv.lset {its':List Value}{f:Array Value->Array Value}(I:Inv X pins σ H s)(hH:H l=some (.lst xs))
  (e:s.heap.get? l=some {cls:= .type "list",data:= .seq its.toArray n}) (hf:f its.toArray=its'.toArray) (hv:Vals ys its') (hz:ys.length<=sizeLine) :
  Inv X pins σ (upd H l<|.lst ys) {s with heap:=s.heap.update l (Obj.mapSeq f),toks:=t'}:=by
 have q:=PySem.IsL.update e f;rw[hf]at q;refine I.write (by rw[hH];exact trivial) (.inl rfl) (λb' u hb hu=>(aO1 s.heap (Obj.mapSeq f)<|Ne.symm hb).trans hu) ⟨_,q⟩ ?_
 exact⟨hz,its',_,hv,q⟩
theorem Inv.lnew (I:Inv X pins σ H s)(hv:Vals ys its)(hz:ys.length<=sizeLine) :
  Inv X pins σ (upd H s.heap.objs.size<|.lst ys) {s with heap:=s.heap.push {cls:= .type "list",data:= .seq its.toArray},toks:=t'}:=
 I.laid (λ_ _ q=>aV _ q) (aK _) ⟨hz,its,0,hv,cD _ rfl⟩
theorem Inv.fresh (I:Inv X pins σ H s):H s.heap.objs.size=none:=I.hok.fresh (aK _)
theorem Inv.lstM (I:Inv X pins σ H s)(hH:H l=some (.lst xs)):xs.length<=sizeLine/\ ∃(its:List Value) (n:Nat),Vals xs its/\xs.length=its.length/\s.heap.get? l=some {cls:= .type "list",data:= .seq its.toArray n}:=by
 obtain⟨z,its,n,r,e⟩:=I.hok l _ hH;exact⟨z,its,n,r,r.length,e⟩
theorem d97 (h:n<=sizeLine):Builtin.List.listTooLong n=false:=by
 exact eF ad
end
section
variable {X:Cx}
nonrec def dR2:V->List V->Hp->VK->Prop:=λx vs H Q=> ∃l xs y,x= .ref l/\vs=[y]/\H l=some (.lst xs)/\xs.length<sizeLine/\Q .non (upd H l<|.lst<|xs++[y])
theorem bU9:MtM X "list.append" dR2:=by
 intro pins s σ H x vs v us Q I rx rv h;obtain⟨l,xs,y,rfl,rfl,hH,hz,q⟩:=h;cases rx;obtain⟨u,rfl,ru⟩:=rv.one;obtain⟨z,its,n,r,hl,e⟩:=I.lstM hH;refine j6 F.slot_list_append ⟨_,e,rfl⟩ F.entry_list_append (F.args_list_append_2 _ _) (PySem.list_append l its.toArray n u (by rw[bD];lia)) ⟨e,?_⟩
 refine⟨.non,_,I.lset hH e ae (r.append<|.cons ru .nil) ?_,rfl,q⟩
 rw[cB,aO3]
 lia
nonrec def rPopAt:V->List V->Hp->VK->Prop:=λx vs H Q=> ∃l xs i k y,x= .ref l/\vs=[.int i]/\H l=some (.lst xs)/\ -(2^63)<=i/\i<2^63/\seqIndex? i xs.length=some k/\xs[k]? =some y/\Q y (upd H l<|.lst<|xs.eraseIdx k)
theorem cB3:MtM X "list.pop" rPopAt:=by
 intro pins s σ H x vs v us Q I rx rv h;obtain⟨l,xs,i,k,y,rfl,rfl,hH,h1,h2,hk,hy,q⟩:=h;cases rx;obtain⟨u,rfl,ru⟩:=rv.one;obtain⟨t,rfl⟩:=ru;obtain⟨z,its,n,r,hl,e⟩:=I.lstM hH;obtain⟨w,hw,rw'⟩:=r.get hy;refine j6 F.slot_list_pop ⟨_,e,rfl⟩ F.entry_list_pop (F.args_list_pop_2 _ _)
  (MeetsSeq.list_pop_at l its.toArray n i t k w (fitsIndex_both h1 h2) (by rw[bD,<-hl];exact hk) (by rw[<-Array.getElem?_toList];exact hw) (by rw[bD];lia)) ⟨e,?_⟩
 refine⟨y,_,I.lset hH e ?_ (r.eraseIdx k) ?_,rw',q⟩
 .show its.toArray.eraseIdxIfInBounds k=(its.eraseIdx k).toArray
  rw[List.eraseIdxIfInBounds_toArray]
 .have:=bU8 xs k
  lia
nonrec def rCat:R2:=λx y H Q=> ∃l b xs zs,x= .ref l/\y= .ref b/\H l=some (.lst xs)/\H b=some (.lst zs)/\xs.length+zs.length<=sizeLine/\ ∀p,H p=none->Q (.ref p) (upd H p<|.lst<|xs++zs)
theorem op_cat:OpR X (binaryOp .Add) rCat:=by
 intro pins s σ H x y v u Q I rx ry h;obtain⟨l,b,xs,zs,rfl,rfl,hH,hB,hz,q⟩:=h;cases rx;cases ry;obtain⟨z,its,n,r,hl,e⟩:=I.lstM hH;obtain⟨z2,its2,n2,r2,hl2,e2⟩:=I.lstM hB;refine PySem.P.add_list e e2 ?_ (by rw[bD,bD];omega)
 have ea:its.toArray++its2.toArray=(its++its2).toArray:=ae
 rw[ea];exact⟨.ref _,_,I.lnew (r.append r2) (by rw[cB];omega),rfl,q _ I.fresh⟩
nonrec def rRep:R2:=λx y H Q=> ∃l k xs,x= .ref l/\y= .int k/\H l=some (.lst xs)/\ -(2^63)<=k/\k<2^63/\xs.length*k.toNat<=sizeLine/\
 ∀p,H p=none->Q (.ref p) (upd H p<|.lst (replicate k.toNat xs).flatten)
theorem c17 {α:Type}(xs:List α)(k:Nat):(replicate k xs).flatten.length=k*xs.length:=by
 induction k with
 | zero=>simp
 | succ k ih=>rw[zQ,aQ0,cB,ih,Nat.succ_mul,Nat.add_comm]
theorem op_rep:OpR X (binaryOp .Mult) rRep:=by
 intro pins s σ H x y v u Q I rx ry h;obtain⟨l,k,xs,rfl,rfl,hH,h1,h2,hz,q⟩:=h;cases rx;obtain⟨t,rfl⟩:=ry;obtain⟨z,its,n,r,hl,e⟩:=I.lstM hH;have hlen:its.toArray.size*k.toNat<=sizeLine:=by rw[bD,<-hl];exact hz
 have hcap: ¬its.toArray.size*k.toNat>(2^63-1)/8:=by
  have:(sizeLine:Nat)<=(2^63-1)/8:=ac
  lia
 have hfit: ¬(!Builtin.List.listFitsIndex k)=true:=by
  rw[fitsIndex_both h1 h2];exact cK
 have hlong: ¬Builtin.List.listTooLong (its.toArray.size*k.toNat)=true:=by
  rw[d97 hlen];exact cK
 have hnew:foldl (λx1 x2=>x1++x2) #[] (replicate (if its.toArray.isEmpty=true then 0 else k.toNat) its.toArray)=(replicate k.toNat its).flatten.toArray:=by
  have f0: ∀m:Nat,foldl (λx1 x2=>x1++x2) #[] (replicate m its.toArray)=(replicate m its).flatten.toArray:=λm=>by
   have:=foldl_rep its m [];exact this
  rw[f0];cases its with
  | nil=>simp
  | cons a r'=>rw[a7 ae]
 refine wpAny_binaryOp_repeat_ref ac ⟨_,e,rfl⟩ (λs'=>qC s' k t) noFill_list_mul F.fills_int_mul F.slot_int_rmul repeat_list F.slot_int_index.lookup
  (j6 F.slot_int_rmul (qC s k t) F.entry_int_rmul (F.args_int_rmul_2 _ _) (int___rmul___int_list k t l its.toArray n)
   ⟨e,rfl,⟨_,e,rfl⟩,j6 F.slot_list_mul ⟨_,e,rfl⟩ F.entry_list_mul (F.args_list_mul_2 _ _) (AutoListH.list___mul___list_int_3 l its.toArray n k t hfit hcap hlong) ⟨e,?_⟩⟩)
 rw[hnew];exact⟨.ref _,_,I.lnew (r.rep k.toNat) (by rw[c17,mul_comm];exact hz),rfl,q _ I.fresh⟩
end
section
variable {prog:Program}{w:World}{A:Around}{E:Value->Shared->Prop}{s:Shared}
set_option maxRecDepth 100000 in
end
end L2
namespace Att
open PySem PySem.W PySem.Calls PyProof.Rows
theorem bA5 {P:Params}: ∀(ns:List Int) (vs:List Value),WellAll P h vs (ns.map WData.int)->IntsAre vs ns:=by
 intro ns
 induction ns with
 | nil=>
  intro vs w;cases w;exact .nil
 | cons n ns ih=>
  intro vs w;cases w with
  | cons a b=>
   cases a;exact .cons _ _ (ih _ b)
theorem d17 {l:OpenLaw}{n:Nat}(hn:l.most=some n){P:Params}{h:Heap}{args:List WData}{vals:List Value}
  (hpre:l.row.toRowW.claim.pre args=true) (hwl:WellAll P h vals args) :
  ∃a vs ns,vals=[Value.ref a]/\args=[WData.list<|ns.map WData.int]/\h.get? a=some {cls:= .type "list",data:= .seq vs.toArray}/\IntsAre vs ns/\ns.length<=n:=by
 have hsh:WShape.hasAll [] args [.list .int]=true:=(pre_splitW hpre).1;have hc:l.pre.holds [] {args:=args}=true:=(pre_splitW hpre).2;obtain⟨d,r,rfl,h1,h2⟩:=hasAllW_cons hsh;obtain rfl:=hasAllW_nil h2;obtain⟨xs,rfl,h3⟩:=hasW_list h1;obtain⟨ns,rfl⟩:=items_int h3;have hlen:ns.length<=n:=by
  have h4:(WTm.not<|.lt (.lit<|.int (n:Int))<|.len<|.arg 0).holds [] {args:=[.list<|ns.map .int]}=true:=by
   have h4:=(holds_andW hc).1;rw[hn]at h4;exact h4
  have h5:=condW_of h4 (w_not<|w_lt w_lit<|w_len_list<|w_arg rfl)
  first
   | (rw[gH q']at h5;exact absurd h5 ac)
   | (simp at h5;omega)
 cases hwl with
 | cons w1 w2=>
  cases w2;cases w1 with
  | list ho hall=>exact⟨_,_,ns,rfl,rfl,ho,bA5 ns _ hall,hlen⟩
theorem d18 (l:OpenLaw)(args:List WData):l.row.toRowW.claim.post args (.bool true) args=true:=
 postW_of
  (show WShape.has [] (.bool true) .bool=true by first|rfl|decide|simp[WShape.arms,WShape.armsAll])
  (show(WTm.eq .res<|.lit<|.bool true).value [] {args:=args,res:=some (.bool true),after:=args}=some (.bool<|true==true)from w_eq_bool (w_res rfl) w_lit) rfl
theorem attach_call {l:OpenLaw}{XP:(Str->Option Value)->Heap->Prop}{d:DefRec}
  (hn:l.most=some n) (hdf:d.params.defaults=[])
  (call: ∀(w:World) (s₀ s₁:Shared) (mg mb:Str->Option Value) (fa:Addr) (o:Obj) (pm cd doc:Value) (a:Addr) (vs:List Value) (ns:List Int),
   Ground q loose [] XP w s₀ mg mb s₁.heap->YP w s₁.heap->
   s₁.heap.get? fa=some o->o.data= .func (docDef d.name d.params d.body d.scope pm cd doc)->s₁.heap.CodeRec cd d.name->mg d.name=some (.ref fa)->
   s₁.heap.get? a=some {cls:= .type "list",data:= .seq vs.toArray}->IntsAre vs ns->ns.length<=n->s₁.gens= #[]->
   codeAny (model l.prog w) callerA (.call (.ref fa) ⟨[.ref a],[]⟩) (λr s'=>r= .ok (.ret<|.bool true)/\OldK s₁.heap s'.heap/\s'.os=s₁.os/\AllBare s'.gens) s₁) :
  WalkO q loose XP YP l.row.toRowW d [] (λf vs=>PySem.call f vs):=by
 intro w s₀ s₁ mg mb G Y fa o pm cd doc dV kV ho hd hcd hD hmg hg args vals as hpre hlay hrd hwl hlo;obtain rfl:dV= .none:=Dflts.none hD hdf;obtain rfl:kV= .none:=Dflts.noKw hD;obtain⟨a,vs,ns,rfl,rfl,hobj,hints,hlen⟩:=d17 hn hpre hwl;refine enter_call (uG (call w s₀ s₁ mg mb fa o pm cd doc a vs ns G Y ho (fd_plain hd) hcd hmg hobj hints hlen hg) λr s' hq=> ?_)
 obtain⟨rfl,h2,h3,h4⟩:=hq;exact⟨.inl ⟨.bool true,.bool true,[],rfl,λ_=>rfl,.bool true,d18 l _,λ_=>⟨List.Pairwise.nil,λ_ hm=>(nomatch hm)⟩⟩,h2,h3,h4⟩
end Att
namespace L2
theorem bV0: ∀{vs:List Value} {ns:List Int},IntsAre vs ns->Vals (ns.map V.int) vs
 | _,_,.nil=> .nil
 | _,_,.cons n t h=> .cons ⟨t,rfl⟩ (bV0 h)
def Only (H:Hp):Prop:= ∀b,H b=none\/ ∃o xs,H b=some (.frz o<|.lst xs)
theorem d98 {P:Program}{w:World}{K:Frag}{mg mb:Str->Option Value}{CX:CXT}{k:Nat}{fa a:Addr}{fd:FuncData}{x:Str}{sp:Sp}{s₁:Shared}{vs:List Value}{ns:List Int}
  (KX:K.In s₁.heap) (hns:s₁.heap.Ns mainGlobals mg) (hb:s₁.heap.Ns builtinsNs mb) (hbb: ∀x:Str,x≠"__name__"->mb x=bootBuiltins x) (hlim:s₁.heap.NoLimit) (hg:s₁.gens= #[])
  (ha:s₁.heap.get? a=some {cls:= .type "list",data:= .seq vs.toArray}) (hi:IntsAre vs ns) (hl:ns.length<=sizeLine) (hr:i8 k callerA)
  (F: ∀base:Heap,K.In base->base.Ns mainGlobals mg->sZ P w K mg base CX k fa fd [x] sp) (hbind: ∀(s:Shared) (u:Value),BindsTo s fd ⟨[u],[]⟩ [(x,u)])
  (hsp: ∀H:Hp,Only H->SqL K H a (ns.map V.int)->sp [.ref a] H (λv _=>v= .bl true) λ_ _ _=>False)
  (hCX: ∀H e s',CX [] H s₁ (λ_ _ _=>False) e s'->False) :
  codeAny (model P w) callerA (.call (.ref fa) ⟨[.ref a],[]⟩) (λr s'=>r= .ok (.ret<|.bool true)/\OldK s₁.heap s'.heap/\s'.os=s₁.os/\AllBare s'.gens) s₁:=by
 have rv:=bV0 hi;have lenV:=hi.length;have core: ∀H:Hp,Only H->SqL K H a (ns.map V.int)->HOk P w H s₁.heap->(∀b,H b≠none->b=a)->(H a≠none->K.lookup a=none)->
   codeAny (model P w) callerA (.call (.ref fa) ⟨[.ref a],[]⟩) (λr s'=>r= .ok (.ret<|.bool true)/\OldK s₁.heap s'.heap/\s'.os=s₁.os/\AllBare s'.gens) s₁:=by
  intro H hO hS hok hA hK;have base_of: ∀{b:Addr} {o:Obj},s₁.heap.get? b=some o->H b=none->(c07 s₁.heap H).get? b=some o:=λe n=>d73 e n
  have noA: ∀{b:Addr} {o:Obj} {es:Array DictEntry} {ep:Nat},s₁.heap.get? b=some o->o.data= .dict es ep->H b=none:=λ{b o es ep} e d=>by
   cases q:H b with
   | none=>rfl
   | some u=>
    have e':b=a:=hA b (by rw[q];simp)
    subst e';rw[ha]at e;cases e;have d':Data.seq vs.toArray _=Data.dict es ep:=d;cases d'
  have nsK: ∀{b:Addr} {m:Str->Option Value},s₁.heap.Ns b m->(c07 s₁.heap H).Ns b m:=λ{b m} ⟨o,es,ep,e,d,r⟩=>⟨o,es,ep,base_of e<|noA e d,d,r⟩
  have hKb:K.In (c07 s₁.heap H):=λb o e=>base_of (KX b o e) (by
   cases q:H b with
   | none=>rfl
   | some u=>
    have e':b=a:=hA b (by rw[q];simp)
    subst e';rw[hK (by rw[q];simp)]at e;cases e)
  have hM:Mod K mg (c07 s₁.heap H):=⟨hKb,nsK hns,⟨mb,nsK hb,hbb⟩,let ⟨mc,h1,h2⟩:=hlim;⟨mc,nsK h1,h2⟩⟩;have e0:cM5 P w K mg (c07 s₁.heap H) callerA [] s₁ H:=⟨rfl,hM,λb o e=>dP1 e,le_of_eq<|d04 _ _,trivial,λb hb=>absurd (show b∈([]:List Addr)from hb) ae,hok,.of_eq hg⟩
  refine uG ((F _ hKb<|nsK hns).run callerA [] s₁ H ⟨[.ref a],[]⟩ [.ref a] [.ref a] _ _ hr e0 (hbind s₁<|.ref a) (.cons rfl .nil)<|hsp H hO hS) λr s' h=> ?_
  cases r with
  | error e=>exact(hCX H e s' h).elim
  | ok fl=>
   cases fl with
   | next=>exact False.elim h
   | brk=>exact False.elim h
   | cont=>exact False.elim h
   | ret u=>
    obtain⟨v,H',os,bare,un,hok',r',q⟩:=h;have q':v= .bl true:=q;subst q';obtain rfl:u=Value.bool true:=r';refine⟨rfl,OldK.of_keep λb o e=> ?_,os,bare⟩
    cases q:H b with
    | none=>exact un.keep b o e q (by intro z;exact absurd (show b∈([]:List Addr)from z) ae) ae
    | some u=>
     rcases hO b with z| ⟨ob,xs,z⟩
     .rw[q]at z;cases z
     .have z2:=un.frzs b ob _ z;obtain⟨e1,_⟩:=hok b _ z;obtain⟨e2,_⟩:=hok' b _ z2;rw[e]at e1;cases e1;exact e2
 cases hk:K.lookup a with
 | some o=>
  have e:=KX a o hk;rw[ha]at e;cases e;refine core (λ_=>none) (λ_=> .inl rfl) (.inr ⟨_,vs.toArray,_,hk,rfl,rfl,rfl,by rw[bD,lenV];exact hl,by exists rv⟩) (λb u z=>by have z':(none:Option HO)=some u:=z;cases z') (λb z=>absurd rfl z) λz=>absurd rfl z
 | none=>
  refine core (λb=>if b=a then some (.frz {cls:= .type "list",data:= .seq vs.toArray}<|.lst<|ns.map V.int)else none) (λb=> ?_) (.inl<|.inr ⟨{cls:= .type "list",data:= .seq vs.toArray},aA rfl⟩) (λb u z=> ?_) (λb z=> ?_) λ_=>hk
  .by_cases hb:b=a
   .exact .inr ⟨_,_,aA hb⟩
   .exact .inl (a7 hb)
  .by_cases hb:b=a
   .have z':=(aA hb).symm.trans z;cases z';subst hb;exact⟨ha,by rw[aG];exact hl,vs,_,rv,ha⟩
   .have z':=(a7 hb).symm.trans z;cases z'
  .by_cases hb:b=a
   .exact hb
   .exact absurd (a7 hb) z
theorem walk_of {l:PySem.W.OpenLaw}{XP:(Str->Option Value)->Heap->Prop}{d:DefRec}{K:Params->Frag}{CX:World->CXT}{sp:World->Sp}
  (hn:l.most=some n) (hn2:n<=sizeLine) (hdf:d.params.defaults=[]) (hr:i8 k callerA)
  (hY: ∀(w:World) (h:Heap),YP w h->(K w.params).In h)
  (F: ∀(w:World) (mg:Str->Option Value) (fa:Addr) (h:Heap),(K w.params).In h->h.Ns mainGlobals mg->mg d.name=some (.ref fa)->
   ∃fd:FuncData,(∀(s:Shared) (u:Value),BindsTo s fd ⟨[u],[]⟩ [(x,u)])/\
    ∀base:Heap,(K w.params).In base->base.Ns mainGlobals mg->sZ l.prog w (K w.params) mg base (CX w) k fa fd [x] (sp w))
  (hsp: ∀(w:World) (H:Hp) (a:Addr) (ns:List Int),ns.length<=n->Only H->SqL (K w.params) H a (ns.map V.int)->sp w [.ref a] H (λv _=>v= .bl true) λ_ _ _=>False)
  (hCX: ∀(w:World) (H:Hp) (s:Shared) (e:Value) (s':Shared),CX w [] H s (λ_ _ _=>False) e s'->False) :
  PySem.W.WalkO q loose XP YP l.row.toRowW d [] (λf vs=>PySem.call f vs):=by
 refine Att.attach_call hn hdf λw s₀ s₁ mg mb fa o pm cd doc a vs ns G Y ho hd hcd hmg hobj hints hlen hg=> ?_
 have KX:=hY w _ Y;obtain⟨fd,hb,hF⟩:=F w mg fa _ KX G.T.g hmg;exact d98 KX G.T.g G.T.b G.T.builtins G.T.nolimit hg hobj hints (aH hlen hn2) hr hF hb (λH hO hS=>hsp w H a ns hlen hO hS) λH e s'=>hCX w H s₁ e s'
def jD (s:Stmt):Arguments:=match s with
 | .FunctionDef _ a _ _ _ _ _ _ _ _=>a
 | _=>{posonlyargs:=[],args:=[],vararg:=none,kwonlyargs:=[],kw_defaults:=[],kwarg:=none,defaults:=[]}
def eK (s:Stmt):List Stmt:=match s with
 | .FunctionDef _ _ b _ _ _ _ _ _ _=>b
 | _=>[]
def aF (s:Stmt):Scope:=match s with
 | .FunctionDef _ _ _ _ _ _ sc _ _ _=>sc
 | _=>{kind:= .function,names:=[],isGenerator:=false,isCoroutine:=false}
abbrev CX0:CXT:=λ_ _ _ _ _ _=>False
abbrev E0:XK:=λ_ _ _=>False
structure Fun (K:Frag)(x qual:Str)(st:Stmt)(f:Addr)(fd:FuncData):Prop where
 ex: ∃(oc:Value) (od:Option Addr) (kV doc pm:Value) (an:Option Addr) (cdv ct:Value) (osl:Array (Option Value)),
  fd=fnOf x qual (jD st) (eK st) (aF st) .none kV doc pm an cdv ct/\K.lookup f=some ⟨oc,od,.func fd,osl⟩/\codeIn K cdv qual=true
 kp:keepIn K (.ref f)=true
section
variable {P:Program}{w:World}{K:Frag}{mg:Str->Option Value}{base:Heap}
theorem Fun.ok {ps:List Str}{sp:Sp}(F:Fun K x qual st f fd)(S:aY N ps (aF st))(len: ∀vs H Q E,sp vs H Q E->vs.length=ps.length)
  (hbody: ∀(cdv:Value) (A:Around) (outer:List Env) (s:Shared) (H:Hp) (vs:List V) (Q:VK) (E:XK),i8 k (A.deeper<|envOfC qual (aF st) s.heap.objs.size f cdv)->sp vs H Q E->
   ∃t,PSs (vQ CX0 P w K mg base N qual (aF st) f cdv A outer s H E).nox (eK st) t/\t {nx:=λ_ H'=>Q .non H',rt:=Q} (start N vs) H):sZ<$>CX0 (k+1) f fd ps sp:=by
 obtain⟨oc,od,kV,doc,pm,an,cdv,ct,osl,rfl,lk,hcd⟩:=F.ex;refine d92 lk hcd S len λA outer s H vs Q E hr hsp=> ?_
 obtain⟨t,h,q⟩:=hbody cdv A outer s H vs Q E hr hsp;exact⟨t,h.nox,q⟩
theorem Fun.binds {ps:List Str}(F:Fun K x qual st f fd)
  (h: ∀(kV doc pm:Value) (an:Option Addr) (cdv ct:Value) (us:List Value),us.length=ps.length->bindArgs (fnOf x qual (jD st) (eK st) (aF st) .none kV doc pm an cdv ct) ⟨us,[]⟩=pure (ps.zip us)):Binds K fd ps []:=by
 obtain⟨oc,od,kV,doc,pm,an,cdv,ct,osl,rfl,lk,hcd⟩:=F.ex;exact .all (h kV doc pm an cdv ct)
theorem b22 {oc:Value}{an:Option Addr}{osl:Array (Option Value)}{kV doc pm cdv ct:Value}(l:K.lookup f=some ⟨oc,od,.func<|fnOf x qual (jD st) (eK st) (aF st) .none kV doc pm an cdv ct,osl⟩)
  (c:codeIn K cdv qual=true) (k:keepIn K (.ref f)=true):Fun K x qual st f (fnOf x qual (jD st) (eK st) (aF st) .none kV doc pm an cdv ct):=⟨⟨oc,od,kV,doc,pm,an,cdv,ct,osl,rfl,l,c⟩,k⟩
end
section
variable {X:Cx}
theorem pv (i:Nat)(hN:↥(X.N[i]? =some x))(hv:Vis X.env.scope x:=by first|exact Or.inl rfl|exact Or.inr (Or.inl rfl)|exact Or.inr (Or.inr rfl))(hd:⇑(x∪0))
  (hcd:⇑((x==("__classdict__":Str))=false)):PE X (.Name x pos) (yK i):=pe_var hN hv hd hcd
end
def gN (H H':Hp):Prop:= ∀b o,H b=some o->H' b=some o
theorem gN.refl (H:Hp):gN H H:=λ_ _ h=>h
theorem gN.trans {H H1 H2:Hp}(a:gN H H1)(b:gN H1 H2):gN H H2:=λc o h=>b c o (a c o h)
theorem gN.free {H H':Hp}(e:gN H H')(h:H' l=Option.none):H l=Option.none:=by
 cases q:H l with
 | none=>rfl
 | some o=>
  rw[e l o q]at h;cases h
theorem gN.seq {H H':Hp}{xs:List V}(e:gN H H')(h:SqL K H a xs):SqL K H' a xs:=by
 rcases h with(h| ⟨o,h⟩)|h
 .exact .inl (.inl<|e _ _ h)
 .exact .inl (.inr ⟨o,e _ _ h⟩)
 .exact .inr h
end L2
namespace M
inductive D where
 | non|bl (b:Bool)|int (i:Int)|str (x:Str)|ty (n:String)
 | tup (l:List D)|lst (l:List D)|rol (l:List D)
 | obj (C:Addr) (ks:List Str) (l:List D)
 | adr (a:Addr)
 | xob (a d:Addr) (ks:List Str) (l:List D)
abbrev AS:=Addr->Prop
def KT (K:Frag)(a:Addr)(vs:List V):Prop:=
 ∃(o:Obj) (its:Array Value) (n:Nat),K.lookup a=some o/\o.cls= .type "tuple"/\o.data= .seq its n/\its.size<=sizeLine/\Vals vs its.toList
def KL (K:Frag)(a:Addr)(vs:List V):Prop:=
 ∃(o:Obj) (its:Array Value) (n:Nat),K.lookup a=some o/\o.cls= .type "list"/\o.dict=none/\o.data= .seq its n/\its.size<=sizeLine/\Vals vs its.toList
def OkC (K:Frag)(C:Addr)(ks:List Str):Prop:=Cls K C/\ ∀f∈ks,a97 K C f
mutual
def Rep (K:Frag)(A:AS)(H:Hp):D->V->Prop
 | .non,v=>v= .non
 | .bl b,v=>v= .bl b
 | .int i,v=>v= .int i
 | .str x,v=>v= .str x
 | .ty n,v=>v= .ty n
 | .tup l,v=> ∃a vs,v= .ref a/\((¬A a/\Rd H a (.tup vs))\/KT K a vs)/\bX K A H l vs
 | .lst l,v=> ∃a vs,v= .ref a/\ ¬A a/\H a=some (.lst vs)/\bX K A H l vs
 | .rol l,v=> ∃a vs,v= .ref a/\((¬A a/\Rd H a (.lst vs))\/KL K a vs)/\bX K A H l vs
 | .obj C ks l,v=> ∃a dx vs,v= .ref a/\ ¬A a/\H a=some (.ins C dx<|ks.zip vs)/\ks.length=vs.length/\bX K A H l vs/\OkC K C ks
 | .adr a,v=>v= .ref a
 | .xob a d ks l,v=> ∃vs,v= .ref a/\ ¬A d/\H d=some (.xd<|ks.zip vs)/\ks.length=vs.length/\bX K A H l vs
def bX (K:Frag)(A:AS)(H:Hp):List D->List V->Prop
 | [],vs=>vs=[]
 | d::ds,vs=> ∃v vr,vs=v::vr/\Rep K A H d v/\bX K A H ds vr
end
section
variable {K:Frag}{A A':AS}{H H':Hp}
def kO (A:AS)(H:Hp)(A':AS)(H':Hp):Prop:= ∀b o,¬A b->H b=some o-> ¬A' b/\H' b=some o
theorem Rd.pres (p:kO A H A' H'){u:HO}(n: ¬A a)(r:Rd H a u): ¬A' a/\Rd H' a u:=by
 rcases r with r| ⟨o,r⟩
 .exact⟨(p a _ n r).1,.inl (p a _ n r).2⟩
 .exact⟨(p a _ n r).1,.inr ⟨o,(p a _ n r).2⟩⟩
mutual
theorem Rep.mono (p:kO A H A' H'): ∀{d:D} {v:V},Rep K A H d v->Rep K A' H' d v
 | .non,_,h=>h
 | .bl _,_,h=>h
 | .int _,_,h=>h
 | .str _,_,h=>h
 | .ty _,_,h=>h
 | .tup l,v,h=>by
  simp only[Rep]at h⊢;obtain⟨a,vs,e,c,r⟩:=h;refine⟨a,vs,e,?_,bX.mono p r⟩;rcases c with⟨n,c⟩|c
  .exact .inl (Rd.pres p n c)
  .exact .inr c
 | .lst l,v,h=>by
  simp only[Rep]at h⊢;obtain⟨a,vs,e,n,c,r⟩:=h;exact⟨a,vs,e,(p a _ n c).1,(p a _ n c).2,bX.mono p r⟩
 | .rol l,v,h=>by
  simp only[Rep]at h⊢;obtain⟨a,vs,e,c,r⟩:=h;refine⟨a,vs,e,?_,bX.mono p r⟩;rcases c with⟨n,c⟩|c
  .exact .inl (Rd.pres p n c)
  .exact .inr c
 | .obj C ks l,v,h=>by
  simp only[Rep]at h⊢;obtain⟨a,dx,vs,e,n,c,hl,r,ok⟩:=h;exact⟨a,dx,vs,e,(p a _ n c).1,(p a _ n c).2,hl,bX.mono p r,ok⟩
 | .adr _,_,h=>h
 | .xob a d ks l,v,h=>by
  simp only[Rep]at h⊢;obtain⟨vs,e,n,c,hl,r⟩:=h;exact⟨vs,e,(p d _ n c).1,(p d _ n c).2,hl,bX.mono p r⟩
theorem bX.mono (p:kO A H A' H'): ∀{l:List D} {vs:List V},bX K A H l vs->bX K A' H' l vs
 | [],_,h=>by simp only[bX]at h ⊢; exact h
 | d::ds,vs,h=>by
  simp only[bX]at h⊢;obtain⟨v,vr,e,r,rs⟩:=h;exact⟨v,vr,e,Rep.mono p r,bX.mono p rs⟩
end
theorem bX.length: ∀{l:List D} {vs:List V},bX K A H l vs->l.length=vs.length
 | [],_,h=>by simp only[bX]at h;subst h;rfl
 | d::ds,vs,h=>by
  obtain⟨v,vr,rfl,_,rs⟩:=h;simp only[dP,bX.length rs]
theorem bX.nil:bX K A H [] []:=by simp only[bX]
theorem bX.cons {d:D}{v:V}{l:List D}{vs:List V}(r:Rep K A H d v)(rs:bX K A H l vs):bX K A H (d::l) (v::vs):=by
 simp only[bX];exact⟨v,vs,rfl,r,rs⟩
theorem bX.uncons {d:D}{l:List D}{vs:List V}(h:bX K A H (d::l) vs): ∃v vr,vs=v::vr/\Rep K A H d v/\bX K A H l vr:=by
 simpa only[bX]using h
theorem bX.unnil {vs:List V}(h:bX K A H [] vs):vs=[]:=by simpa only[bX]using h
theorem bX.append: ∀{l m:List D} {vs ws:List V},bX K A H l vs->bX K A H m ws->bX K A H (l++m) (vs++ws)
 | [],_,_,_,h,g=>by rw[h.unnil];exact g
 | d::l,m,vs,ws,h,g=>by
  obtain⟨v,vr,rfl,r,rs⟩:=h.uncons;exact .cons r (bX.append rs g)
theorem bX.get: ∀{l:List D} {vs:List V} {i:Nat} {d:D},bX K A H l vs->l[i]? =some d-> ∃v,vs[i]? =some v/\Rep K A H d v
 | [],_,_,_,_,e=>by simp at e
 | d::l,vs,0,d',h,e=>by
  obtain⟨v,vr,rfl,r,rs⟩:=h.uncons;simp at e;subst e;exact⟨v,ae,r⟩
 | d::l,vs,i+1,d',h,e=>by
  obtain⟨v,vr,rfl,r,rs⟩:=h.uncons;obtain⟨w,h1,h2⟩:=bX.get rs (by exists e)
  exact⟨w,by simpa using h1,h2⟩
theorem bX.set: ∀{l:List D} {vs:List V} {d:D} {v:V} (i:Nat),bX K A H l vs->Rep K A H d v->bX K A H (l.set i d) (vs.set i v)
 | [],_,_,_,_,h,_=>by rw[h.unnil];exact .nil
 | d'::l,vs,d,v,0,h,g=>by
  obtain⟨w,vr,rfl,r,rs⟩:=h.uncons;exact .cons g rs
 | d'::l,vs,d,v,i+1,h,g=>by
  obtain⟨w,vr,rfl,r,rs⟩:=h.uncons;exact .cons r (bX.set i rs g)
theorem bX.drop: ∀{l:List D} {vs:List V} (n:Nat),bX K A H l vs->bX K A H (l.drop n) (vs.drop n)
 | _,_,0,h=>h
 | [],_,n+1,h=>by rw[h.unnil];exact .nil
 | d::l,vs,n+1,h=>by
  obtain⟨v,vr,rfl,r,rs⟩:=h.uncons;exact bX.drop n rs
theorem bX.take: ∀{l:List D} {vs:List V} (n:Nat),bX K A H l vs->bX K A H (l.take n) (vs.take n)
 | _,_,0,h=>by simp only[List.take_zero];exact .nil
 | [],_,n+1,h=>by rw[h.unnil];exact .nil
 | d::l,vs,n+1,h=>by
  obtain⟨v,vr,rfl,r,rs⟩:=h.uncons;exact .cons r (bX.take n rs)
theorem bX.rep {l:List D}{vs:List V}(h:bX K A H l vs): ∀k:Nat,bX K A H (replicate k l).flatten (replicate k vs).flatten
 | 0=> .nil
 | k+1=>by
  exact .append h (h.rep k)
theorem kO.same (s:gN H H'):kO A H A H':=λb o n e=>⟨n,s b o e⟩
theorem kO.sub (s:gN H H')(h: ∀a,A' a->A a):kO A H A' H':=λb o n e=>⟨λq=>n (h b q),s b o e⟩
theorem kO.fresh (s:gN H H')(n:H a=none):kO A H (λb=>A b\/b=a) H':=λb o nb e=>
 ⟨λq=>q.elim nb λz=>(by subst z;rw[n]at e;cases e),s b o e⟩
theorem kO.upd {a:Addr}{o:HO}(h:A a):kO A H A (upd H a o):=λb o' nb e=>⟨nb,by rw[cM λz=>nb (by subst z;exact h)];exact e⟩
end
inductive B where
 | pu (d:D)|ow (l:List D)|bo (l:List D)
nonrec def B.d:B->D
 | .pu d=>d
 | .ow l=> .lst l
 | .bo l=> .lst l
abbrev Ev:=List (Option B)
def Own (ρ:Ev)(σ:L2.St):AS:=λa=> ∃(i:Nat) (l:List D),ρ[i]? =some (some<|.ow l)/\σ[i]? =some (some<|.ref a)
structure C0 where
 H0:Hp
 A0:AS
def Av (C:C0)(ρ:Ev)(σ:L2.St):AS:=λa=>C.A0 a\/Own ρ σ a
structure EOk (K:Frag)(C:C0)(ρ:Ev)(σ:L2.St)(H:Hp):Prop where
 len:ρ.length=σ.length
 pu: ∀(i:Nat) (d:D),ρ[i]? =some (some<|.pu d)-> ∃v,σ[i]? =some (some v)/\Rep K (Av C ρ σ) H d v
 ow: ∀(i:Nat) (l:List D),ρ[i]? =some (some<|.ow l)-> ∃a vs,σ[i]? =some (some<|.ref a)/\H a=some (.lst vs)/\C.H0 a=none/\bX K (Av C ρ σ) H l vs
 inj: ∀(i j:Nat) (l l':List D) (a:Addr),ρ[i]? =some (some<|.ow l)->ρ[j]? =some (some<|.ow l')->σ[i]? =some (some<|.ref a)->σ[j]? =some (some<|.ref a)->i=j
 bo: ∀(i:Nat) (l:List D),ρ[i]? =some (some<|.bo l)-> ∃a vs,σ[i]? =some (some<|.ref a)/\C.A0 a/\C.H0 a=some (.lst vs)/\bX K (Av C ρ σ) H l vs
 ext:gN C.H0 H
 a0: ∀a,C.A0 a->C.H0 a≠none
section
variable {K:Frag}{C:C0}{ρ ρ':Ev}{σ σ':L2.St}{H H':Hp}
theorem EOk.avSome (I:EOk K C ρ σ H)(h:Av C ρ σ a):H a≠none:=by
 rcases h with h| ⟨i,l,h1,h2⟩
 .intro z;cases e:C.H0 a with
  | none=>exact I.a0 a h e
  | some o=>rw[I.ext a o e]at z;cases z
 .obtain⟨b,vs,h3,h4,_⟩:=I.ow i l h1;rw[h2]at h3;cases h3;rw[h4];simp
theorem EOk.same (I:EOk K C ρ σ H)(s:gN H H'):EOk K C ρ σ H' where
 len:=I.len
 pu:=λi d h=>let ⟨v,h1,h2⟩:=I.pu i d h;⟨v,h1,h2.mono<|.same s⟩
 ow:=λi l h=>let ⟨a,vs,h1,h2,h3,h4⟩:=I.ow i l h;⟨a,vs,h1,s _ _ h2,h3,h4.mono<|.same s⟩
 inj:=I.inj
 bo:=λi l h=>let ⟨a,vs,h1,h2,h3,h4⟩:=I.bo i l h;⟨a,vs,h1,h2,h3,h4.mono<|.same s⟩
 ext:=I.ext.trans s
 a0:=I.a0
theorem get_set_ne {α:Type}{l:List α}{x:α}(h:i≠j):(l.set i x)[j]? =l[j]? :=by
 rw[List.getElem?_set];simp[h]
theorem dB {α:Type}{l:List α}{x:α}(h:i<l.length):(l.set i x)[i]? =some x:=by
 rw[List.getElem?_set];simp[h]
theorem aX {α:Type}{l:List α}{x y:α}(h:(l.set i x)[j]? =some y):(i=j/\y=x/\i<l.length)\/(i≠j/\l[j]? =some y):=by
 by_cases e:i=j
 .subst e
  by_cases hl:i<l.length
  .simp[hl]at h;exact .inl ⟨rfl,h.symm,hl⟩
  .simp[hl]at h
 .exact .inr ⟨e,by rw[get_set_ne e]at h;exact h⟩
def sB (K:Frag)(A:AS)(H H':Hp):B->V->Prop
 | .pu d,v=>Rep K A H' d v
 | .ow l,v=> ∃a vs,v= .ref a/\H a=none/\H' a=some (.lst vs)/\bX K (λb=>A b\/b=a) H' l vs
 | .bo _,_=>False
theorem sB.rep {A:AS}(hA: ∀a,A a->H a≠none): ∀{b:B} {v:V},sB K A H H' b v->Rep K A H' b.d v
 | .pu d,v,h=>h
 | .ow l,v,h=>by
  obtain⟨a,vs,e,n,h1,r⟩:=h;exact⟨a,vs,e,λz=>hA a z n,h1,r.mono λb o nb q=>⟨λz=>nb (.inl z),q⟩⟩
 | .bo l,v,h=>h.elim
theorem EOk.store (I:EOk K C ρ σ H){b:B}{v:V}{H1:Hp}(s:gN H H1)(r:sB K (Av C ρ σ) H H1 b v)(hi:i<σ.length):EOk K C (ρ.set i<|some b) (σ.set i<|some v) H1:=by
 have I1:=I.same s;have hir:i<ρ.length:=by rw[I.len];exact hi
 cases b with
 | pu d=>
  have sub: ∀a,Av C (ρ.set i<|some<|.pu d) (σ.set i<|some v) a->Av C ρ σ a:=by
   rintro a (z| ⟨j,l,h1,h2⟩)
   .exact .inl z
   .rcases aX h1 with⟨rfl,h3,_⟩| ⟨ne,h3⟩
    .cases h3
    .rw[get_set_ne ne]at h2;exact .inr ⟨j,l,h3,h2⟩
  refine⟨by rw[cZ,cZ];exact I.len,?_,?_,?_,?_,I1.ext,I.a0⟩
  rotate_right
  .intro j l h;rcases aX h with⟨rfl,h3,_⟩| ⟨ne,h3⟩
   .cases h3
   .obtain⟨a,vs,h4,h5,h6,h7⟩:=I1.bo j l h3;exact⟨a,vs,by rw[get_set_ne ne];exact h4,h5,h6,h7.mono<|.sub (.refl _) sub⟩
  .intro j d' h;rcases aX h with⟨rfl,h3,_⟩| ⟨ne,h3⟩
   .cases h3;exact⟨v,dB hi,Rep.mono (.sub (.refl _) sub) r⟩
   .obtain⟨v',h4,h5⟩:=I1.pu j d' h3;exact⟨v',by rw[get_set_ne ne];exact h4,h5.mono<|.sub (.refl _) sub⟩
  .intro j l h;rcases aX h with⟨rfl,h3,_⟩| ⟨ne,h3⟩
   .cases h3
   .obtain⟨a,vs,h4,h5,h6,h7⟩:=I1.ow j l h3;exact⟨a,vs,by rw[get_set_ne ne];exact h4,h5,h6,h7.mono<|.sub (.refl _) sub⟩
  .intro j k l l' a h1 h2 h3 h4;rcases aX h1 with⟨rfl,z,_⟩| ⟨ne,z⟩
   .cases z
   .rcases aX h2 with⟨rfl,z',_⟩| ⟨ne',z'⟩
    .cases z'
    .rw[get_set_ne ne]at h3;rw[get_set_ne ne']at h4;exact I.inj j k l l' a z z' h3 h4
 | ow l0=>
  obtain⟨a0,vs0,rfl,n0,e0,r0⟩:=r;have sub: ∀a,Av C (ρ.set i<|some<|.ow l0) (σ.set i<|some<|.ref a0) a->Av C ρ σ a\/a=a0:=by
   rintro a (z| ⟨j,l,h1,h2⟩)
   .exact .inl (.inl z)
   .rcases aX h1 with⟨rfl,h3,_⟩| ⟨ne,h3⟩
    .rw[dB hi]at h2;cases h2;exact .inr rfl
    .rw[get_set_ne ne]at h2;exact .inl (.inr ⟨j,l,h3,h2⟩)
  have P:kO (Av C ρ σ) H (Av C (ρ.set i<|some<|.ow l0)<|σ.set i<|some<|.ref a0) H1:=λb o nb e=>
   ⟨λq=>(sub b q).elim nb λz=>(by subst z;rw[n0]at e;cases e),s b o e⟩
  refine⟨by rw[cZ,cZ];exact I.len,?_,?_,?_,?_,I1.ext,I.a0⟩
  rotate_right
  .intro j l h;rcases aX h with⟨rfl,h3,_⟩| ⟨ne,h3⟩
   .cases h3
   .obtain⟨a,vs,h4,h5,h6,h7⟩:=I.bo j l h3;exact⟨a,vs,by rw[get_set_ne ne];exact h4,h5,h6,h7.mono P⟩
  .intro j d' h;rcases aX h with⟨rfl,h3,_⟩| ⟨ne,h3⟩
   .cases h3
   .obtain⟨v',h4,h5⟩:=I.pu j d' h3;exact⟨v',by rw[get_set_ne ne];exact h4,h5.mono P⟩
  .intro j l h;rcases aX h with⟨rfl,h3,_⟩| ⟨ne,h3⟩
   .cases h3;refine⟨a0,vs0,dB hi,e0,?_,r0.mono λb o nb q=>⟨λz=>nb (sub b z),q⟩⟩
    cases e:C.H0 a0 with
    | none=>rfl
    | some o=>rw[I.ext _ _ e]at n0;cases n0
   .obtain⟨a,vs,h4,h5,h6,h7⟩:=I.ow j l h3;exact⟨a,vs,by rw[get_set_ne ne];exact h4,s _ _ h5,h6,h7.mono P⟩
  .intro j k l l' a h1 h2 h3 h4;have old: ∀{j:Nat} {l:List D},ρ[j]? =some (some<|.ow l)->σ[j]? ≠some (some<|.ref a0):=λ{j l} h z=>by
    obtain⟨b,vs,h4,h5,_⟩:=I.ow j l h;rw[z]at h4;cases h4;rw[n0]at h5;cases h5
   rcases aX h1 with⟨rfl,z,_⟩| ⟨ne,z⟩
   .rw[dB hi]at h3;cases h3;rcases aX h2 with⟨rfl,z',_⟩| ⟨ne',z'⟩
    .rfl
    .rw[get_set_ne ne']at h4;exact absurd h4 (old z')
   .rw[get_set_ne ne]at h3;rcases aX h2 with⟨rfl,z',_⟩| ⟨ne',z'⟩
    .rw[dB hi]at h4;cases h4;exact absurd h3 (old z)
    .rw[get_set_ne ne']at h4;exact I.inj j k l l' a z z' h3 h4
 | bo l0=>exact r.elim
theorem EOk.freeze (I:EOk K C ρ σ H){l:List D}(h:ρ[i]? =some (some<|.ow l)) :
  EOk K C (ρ.set i<|some<|.pu<|.lst l) σ H/\(∀a,Own (ρ.set i<|some<|.pu<|.lst l) σ a->Own ρ σ a)/\ ∃v,σ[i]? =some (some v)/\Rep K (Av C (ρ.set i<|some<|.pu<|.lst l) σ) H (.lst l) v:=by
 have sub: ∀a,Own (ρ.set i<|some<|.pu<|.lst l) σ a->Own ρ σ a:=by
  rintro a ⟨j,l',h1,h2⟩;rcases aX h1 with⟨rfl,h3,_⟩| ⟨ne,h3⟩
  .cases h3
  .exact⟨j,l',h3,h2⟩
 have subA: ∀a,Av C (ρ.set i<|some<|.pu<|.lst l) σ a->Av C ρ σ a:=λa z=>z.imp id (sub a)
 obtain⟨a,vs,h1,h2,h3,h4⟩:=I.ow i l h;have na: ¬Av C (ρ.set i<|some<|.pu<|.lst l) σ a:=by
  rintro(z| ⟨j,l',g1,g2⟩)
  .exact I.a0 a z h3
  .rcases aX g1 with⟨rfl,g3,_⟩| ⟨ne,g3⟩
   .cases g3
   .exact ne (I.inj i j l l' a h g3 h1 g2)
 have R:Rep K (Av C (ρ.set i<|some<|.pu<|.lst l) σ) H (.lst l) (.ref a):=by
  simp only[Rep];exact⟨a,vs,rfl,na,h2,h4.mono<|.sub (.refl _) subA⟩
 refine⟨⟨by rw[cZ];exact I.len,?_,?_,?_,?_,I.ext,I.a0⟩,sub,.ref a,h1,R⟩
 rotate_right
 .intro j l' g;rcases aX g with⟨rfl,g3,_⟩| ⟨ne,g3⟩
  .cases g3
  .obtain⟨a',vs',g4,g5,g6,g7⟩:=I.bo j l' g3;exact⟨a',vs',g4,g5,g6,g7.mono<|.sub (.refl _) subA⟩
 .intro j d' g;rcases aX g with⟨rfl,g3,_⟩| ⟨ne,g3⟩
  .cases g3;exact⟨_,h1,R⟩
  .obtain⟨v',g4,g5⟩:=I.pu j d' g3;exact⟨v',g4,g5.mono<|.sub (.refl _) subA⟩
 .intro j l' g;rcases aX g with⟨rfl,g3,_⟩| ⟨ne,g3⟩
  .cases g3
  .obtain⟨a',vs',g4,g5,g6,g7⟩:=I.ow j l' g3;exact⟨a',vs',g4,g5,g6,g7.mono<|.sub (.refl _) subA⟩
 .intro j k l1 l2 a' g1 g2 g3 g4;rcases aX g1 with⟨rfl,z,_⟩| ⟨ne,z⟩
  .cases z
  .rcases aX g2 with⟨rfl,z',_⟩| ⟨ne',z'⟩
   .cases z'
   .exact I.inj j k l1 l2 a' z z' g3 g4
theorem EOk.write (I:EOk K C ρ σ H){l l':List D}{vs':List V}(h:ρ[i]? =some (some<|.ow l))(hs:σ[i]? =some (some<|.ref a))(r:bX K (Av C ρ σ) H l' vs') :
  EOk K C (ρ.set i<|some<|.ow l') σ (upd H a<|.lst vs'):=by
 have hi:i<ρ.length:=(gG.mp h).1;have sub: ∀b,Av C (ρ.set i<|some<|.ow l') σ b->Av C ρ σ b:=by
  rintro b (z| ⟨j,l2,h1,h2⟩)
  .exact .inl z
  .rcases aX h1 with⟨rfl,h3,_⟩| ⟨ne,h3⟩
   .exact .inr ⟨i,l,h,h2⟩
   .exact .inr ⟨j,l2,h3,h2⟩
 have own:Av C ρ σ a:= .inr ⟨i,l,h,hs⟩;have P:kO (Av C ρ σ) H (Av C (ρ.set i<|some<|.ow l') σ) (upd H a<|.lst vs'):=λb o nb e=>⟨λz=>nb (sub b z),(kO.upd own b o nb e).2⟩
 obtain⟨a1,vs,h1,h2,h3,h4⟩:=I.ow i l h;rw[hs]at h1;cases h1;refine⟨by rw[cZ];exact I.len,?_,?_,?_,?_,?_,I.a0⟩
 rotate_left 3
 .intro j l2 g;rcases aX g with⟨rfl,g3,_⟩| ⟨ne,g3⟩
  .cases g3
  .obtain⟨a',vs',g4,g5,g6,g7⟩:=I.bo j l2 g3;exact⟨a',vs',g4,g5,g6,g7.mono P⟩
 rotate_left 1
 .intro j d' g;rcases aX g with⟨rfl,g3,_⟩| ⟨ne,g3⟩
  .cases g3
  .obtain⟨v',g4,g5⟩:=I.pu j d' g3;exact⟨v',g4,g5.mono P⟩
 .intro j l2 g;rcases aX g with⟨rfl,g3,_⟩| ⟨ne,g3⟩
  .cases g3;exact⟨a,vs',hs,iF,h3,r.mono P⟩
  .obtain⟨a',vs2,g4,g5,g6,g7⟩:=I.ow j l2 g3;refine⟨a',vs2,g4,?_,g6,g7.mono P⟩;rw[cM λz=> ?_]
   .exact g5
   .subst z;exact ne (I.inj i j l l2 a' h g3 hs g4)
 .intro j k l1 l2 a' g1 g2 g3 g4;have old: ∀{j:Nat} {l1:List D},(ρ.set i<|some<|.ow l')[j]? =some (some<|.ow l1)-> ∃l3,ρ[j]? =some (some<|.ow l3):=λ{j l1} g=>by
   rcases aX g with⟨rfl,z,_⟩| ⟨ne,z⟩
   .exact⟨l,h⟩
   .exact⟨l1,z⟩
  obtain⟨_,q1⟩:=old g1;obtain⟨_,q2⟩:=old g2;exact I.inj j k _ _ a' q1 q2 g3 g4
 .intro b o e;rw[cM λz=> ?_]
  .exact I.ext b o e
  .subst z;rw[h3]at e;cases e
nonrec def C0.raise (C:C0)(ρ:Ev)(σ:L2.St)(H:Hp)(D:(a:Addr)->Decidable (Own ρ σ a)):C0:=⟨λb=> @ite _ (Own ρ σ b) (D b) none (H b),C.A0⟩
open Classical in
theorem EOk.raise (I:EOk K C ρ σ H):EOk K (C.raise ρ σ H λ_=>inferInstance) ρ σ H/\gN C.H0 (C.raise ρ σ H λ_=>inferInstance).H0:=by
 have e1: ∀b,Own ρ σ b->(C.raise ρ σ H λ_=>inferInstance).H0 b=none:=λb h=>aA h
 have e2: ∀b,¬Own ρ σ b->(C.raise ρ σ H λ_=>inferInstance).H0 b=H b:=λb h=>a7 h
 have no: ∀b o,C.H0 b=some o-> ¬Own ρ σ b:=λb o e ⟨i,l,h1,h2⟩=>by
  obtain⟨a,vs,h3,h4,h5,_⟩:=I.ow i l h1;rw[h2]at h3;cases h3;rw[h5]at e;cases e
 have s1:gN C.H0 (C.raise ρ σ H λ_=>inferInstance).H0:=λb o e=>by rw[e2 b<|no b o e];exact I.ext b o e
 refine⟨⟨I.len,I.pu,λi l h=> ?_,I.inj,λi l h=> ?_,λb o e=> ?_,λa h z=> ?_⟩,s1⟩
 .obtain⟨a,vs,h3,h4,h5,h6⟩:=I.ow i l h;exact⟨a,vs,h3,h4,e1 a ⟨i,l,h,h3⟩,h6⟩
 .obtain⟨a,vs,h3,h4,h5,h6⟩:=I.bo i l h;exact⟨a,vs,h3,h4,s1 _ _ h5,h6⟩
 .by_cases q:Own ρ σ b
  .rw[e1 b q]at e;cases e
  .rw[e2 b q]at e;exact e
 .cases e:C.H0 a with
  | none=>exact I.a0 a h e
  | some o=>rw[s1 a o e]at z;cases z
theorem EOk.lower {C C':C0}(I:EOk K C' ρ σ H)(s:gN C.H0 C'.H0)(e:C'.A0=C.A0)(ha: ∀a,C.A0 a->C.H0 a≠none):EOk K C ρ σ H:=by
 obtain⟨H0',A0'⟩:=C';obtain⟨H0,A0⟩:=C;have e':A0'=A0:=e;subst e';refine⟨I.len,I.pu,λi l h=> ?_,I.inj,λi l h=> ?_,s.trans I.ext,ha⟩
 .obtain⟨a,vs,h3,h4,h5,h6⟩:=I.ow i l h;exact⟨a,vs,h3,h4,s.free h5,h6⟩
 .obtain⟨a,vs,h3,h4,h5,h6⟩:=I.bo i l h;refine⟨a,vs,h3,h4,?_,h6⟩;cases e:H0 a with
  | none=>exact absurd e (ha a h4)
  | some o=>
   have:=s a o e;have h5':H0' a=some (.lst vs):=h5;have this':H0' a=some o:=this;rw[h5']at this';cases this';exact e
end
def Frz (ρ ρ':Ev):Prop:=ρ'.length=ρ.length/\ ∀i:Nat,ρ'[i]? =ρ[i]? \/ ∃l:List D,ρ[i]? =some (some<|.ow l)/\ρ'[i]? =some (some<|.pu<|.lst l)
theorem Frz.refl (ρ:Ev):Frz ρ ρ:=⟨rfl,λ_=> .inl rfl⟩
theorem Frz.trans {a b c:Ev}(h:Frz a b)(g:Frz b c):Frz a c:=by
 refine⟨g.1.trans h.1,λi=> ?_⟩
 rcases g.2 i with e| ⟨l,e1,e2⟩
 .rcases h.2 i with e'| ⟨l,e1,e2⟩
  .exact .inl (e.trans e')
  .exact .inr ⟨l,e1,e.trans e2⟩
 .rcases h.2 i with e'| ⟨l',e3,e4⟩
  .exact .inr ⟨l,e'▸e1,e2⟩
  .rw[e4]at e1;cases e1
theorem Frz.own {ρ ρ':Ev}{σ:L2.St}(f:Frz ρ ρ')(h:Own ρ' σ a):Own ρ σ a:=by
 obtain⟨i,l,h1,h2⟩:=h;rcases f.2 i with e| ⟨l',_,e2⟩
 .exact⟨i,l,e▸h1,h2⟩
 .rw[e2]at h1;cases h1
theorem Frz.set {ρ:Ev}{l:List D}(h:ρ[i]? =some (some<|.ow l)):Frz ρ (ρ.set i<|some<|.pu<|.lst l):=by
 refine⟨cZ,λj=> ?_⟩
 by_cases e:i=j
 .subst e;exact .inr ⟨l,h,dB (gG.mp h).1⟩
 .exact .inl (get_set_ne e)
section
variable {K:Frag}{C:C0}{ρ ρ':Ev}{σ:L2.St}{H H':Hp}
theorem Frz.av (f:Frz ρ ρ')(h:Av C ρ' σ a):Av C ρ σ a:=h.imp id f.own
theorem EOk.frz (I:EOk K C ρ σ H)(f:Frz ρ ρ'):EOk K C ρ' σ H:=by
 have ow': ∀{j:Nat} {l:List D},ρ'[j]? =some (some<|.ow l)->ρ[j]? =some (some<|.ow l):=λ{j l} h=>by
  rcases f.2 j with e| ⟨l',_,e2⟩
  .exact e▸h
  .rw[e2]at h;cases h
 refine⟨by rw[f.1];exact I.len,λi d h=> ?_,λi l h=> ?_,λi j l l' a h1 h2=>I.inj i j l l' a (ow' h1) (ow' h2),λi l h=> ?_,I.ext,I.a0⟩
 .rcases f.2 i with e| ⟨l,e1,e2⟩
  .obtain⟨v,h1,h2⟩:=I.pu i d (e▸h);exact⟨v,h1,h2.mono<|.sub (.refl _) λa=>f.av⟩
  .rw[e2]at h;cases h;obtain⟨a,vs,h1,h2,h3,h4⟩:=I.ow i l e1;refine⟨.ref a,h1,?_⟩;refine⟨a,vs,rfl,?_,h2,h4.mono<|.sub (.refl _) λa=>f.av⟩
   rintro(z| ⟨j,l',g1,g2⟩)
   .exact I.a0 a z h3
   .have:=I.inj i j l l' a e1 (ow' g1) h1 g2;subst this;rw[e2]at g1;cases g1
 .obtain⟨a,vs,h1,h2,h3,h4⟩:=I.ow i l (ow' h);exact⟨a,vs,h1,h2,h3,h4.mono<|.sub (.refl _) λa=>f.av⟩
 .have h':ρ[i]? =some (some<|.bo l):=by
   rcases f.2 i with e| ⟨l',_,e2⟩
   .exact e▸h
   .rw[e2]at h;cases h
  obtain⟨a,vs,h1,h2,h3,h4⟩:=I.bo i l h';exact⟨a,vs,h1,h2,h3,h4.mono<|.sub (.refl _) λa=>f.av⟩
end
abbrev UE:=Ev->(B->Ev->Prop)->Prop
abbrev UV:=Ev->(D->Ev->Prop)->Prop
abbrev UA:=Ev->(List D->Ev->Prop)->Prop
abbrev UT:=Ev->(Bool->Ev->Prop)->Prop
def lE (K:Frag)(t:UE):TE:=λσ H Q=> ∃C ρ Q0,EOk K C ρ σ H/\t ρ Q0/\
 ∀b ρ' v H',Q0 b ρ'->Frz ρ ρ'->gN H H'->sB K (Av C ρ' σ) H H' b v->Q v H'
def lA (K:Frag)(t:UA):TA:=λσ H Q=> ∃C ρ Q0,EOk K C ρ σ H/\t ρ Q0/\
 ∀ds ρ' vs H',Q0 ds ρ'->Frz ρ ρ'->gN H H'->bX K (Av C ρ' σ) H' ds vs->Q vs H'
def lT (K:Frag)(t:UT):TT:=λσ H Q=> ∃C ρ Q0,EOk K C ρ σ H/\t ρ Q0/\
 ∀b ρ' H',Q0 b ρ'->Frz ρ ρ'->gN H H'->Q b H'
def cM9 (K:Frag)(A:AS)(H:Hp):D->V->Prop
 | .tup l,v=> ∃a vs,v= .ref a/\SqT K H a vs/\bX K A H l vs
 | .lst l,v=> ∃a vs,v= .ref a/\H a=some (.lst vs)/\bX K A H l vs
 | .rol l,v=> ∃a vs,v= .ref a/\SqL K H a vs/\bX K A H l vs
 | d,v=>Rep K A H d v
def lV (K:Frag)(t:UV):TE:=λσ H Q=> ∃C ρ Q0,EOk K C ρ σ H/\t ρ Q0/\
 ∀d ρ' v H',Q0 d ρ'->Frz ρ ρ'->gN H H'->cM9 K (Av C ρ' σ) H' d v->Q v H'
def PU (X:Cx)(e:Expr)(t:UE):Prop:=PE X e (lE X.K t)
def PUV (X:Cx)(e:Expr)(t:UV):Prop:=PE X e (lV X.K t)
def PUA (X:Cx)(es:List Expr)(t:UA):Prop:=PA X es (lA X.K t)
def PUT (X:Cx)(e:Expr)(t:UT):Prop:=PT X e (lT X.K t)
def PUW (X:Cx)(e:Expr)(t:UT):Prop:=PW X e (lT X.K t)
section
variable {K:Frag}{A:AS}{H:Hp}
theorem Rep.one: ∀{d:D} {v:V},Rep K A H d v->cM9 K A H d v
 | .non,_,h=>h
 | .bl _,_,h=>h
 | .int _,_,h=>h
 | .str _,_,h=>h
 | .ty _,_,h=>h
 | .tup l,v,h=>by
  obtain⟨a,vs,e,c,r⟩:=h;exact⟨a,vs,e,c.imp cT id,r⟩
 | .lst l,v,h=>by
  obtain⟨a,vs,e,n,c,r⟩:=h;exact⟨a,vs,e,c,r⟩
 | .rol l,v,h=>by
  obtain⟨a,vs,e,c,r⟩:=h;exact⟨a,vs,e,c.imp cT id,r⟩
 | .obj _ _ _,_,h=>h
 | .adr _,_,h=>h
 | .xob _ _ _ _,_,h=>h
end
theorem jA {X:Cx}{t t':TE}(h:PE X e t)(i: ∀σ H Q,t' σ H Q->t σ H Q):PE X e t':=λpins s σ H Q I q=>h pins s σ H Q I (i σ H Q q)
theorem e13 {X:Cx}{t t':TA}(h:PA X es t)(i: ∀σ H Q,t' σ H Q->t σ H Q):PA X es t':=λpos pins s σ H Q I q=>h pos pins s σ H Q I (i σ H Q q)
theorem cB4 {X:Cx}{t t':TT}(h:PT X e t)(i: ∀σ H Q,t' σ H Q->t σ H Q):PT X e t':=λpins s σ H Q I q=>h pins s σ H Q I (i σ H Q q)
theorem e14 {X:Cx}{t t':TT}(h:PW X e t)(i: ∀σ H Q,t' σ H Q->t σ H Q):PW X e t':=λw pins s σ H Q I q=>h w pins s σ H Q I (i σ H Q q)
section
variable {X:Cx}{a b c e o:Expr}{es iN:List Expr}{pos:Pos}{ta tb tc:UE}
def uC (d:D):UE:=λρ Q=>Q (.pu d) ρ
theorem aD {i j pos}:PU X (.Constant (.int i) j pos) (uC<|.int i):=jA pe_int λσ H Q ⟨C,ρ,Q0,I,h,k⟩=>k _ ρ _ H h (.refl _) (.refl _) (show Rep _ _ _ _ _ by simp only[Rep])
theorem a76 {b j pos}:PU X (.Constant (.bool b) j pos) (uC<|.bl b):=jA pe_bl λσ H Q ⟨C,ρ,Q0,I,h,k⟩=>k _ ρ _ H h (.refl _) (.refl _) (show Rep _ _ _ _ _ by simp only[Rep])
theorem bF5 {j pos}:PU X (.Constant .none j pos) (uC .non):=jA pe_non λσ H Q ⟨C,ρ,Q0,I,h,k⟩=>k _ ρ _ H h (.refl _) (.refl _) (show Rep _ _ _ _ _ by simp only[Rep])
theorem pu_str {x j pos}:PU X (.Constant (.str x) j pos) (uC<|.str x):=jA pe_str λσ H Q ⟨C,ρ,Q0,I,h,k⟩=>k _ ρ _ H h (.refl _) (.refl _) (show Rep _ _ _ _ _ by simp only[Rep])
def aK3 (ρ:Ev)(i:Nat)(Q:B->Ev->Prop):Prop:=match ρ[i]? with
 | some (some<|.pu d)=>Q (.pu d) ρ
 | some (some<|.ow l)=>Q (.pu<|.lst l) (ρ.set i<|some<|.pu<|.lst l)
 | _=>False
def aC (i:Nat):UE:=λρ Q=>aK3 ρ i Q
theorem eR (i:Nat){pos:Pos}(h:PE X (.Name x pos) (yK i)):PU X (.Name x pos) (aC i):=jA h λσ H Q ⟨C,ρ,Q0,I,h,k⟩=>by
 unfold aC aK3 at h;split at h
 .rename_i d e
  obtain⟨v,h1,h2⟩:=I.pu i d e;exact⟨v,h1,k _ ρ v H h (.refl _) (.refl _) h2⟩
 .rename_i l e
  obtain⟨_,_,v,h1,h2⟩:=I.freeze e;exact⟨v,h1,k _ _ v H h (.set e) (.refl _) h2⟩
 .exact h.elim
def bV1 (ρ:Ev)(i:Nat)(Q:D->Ev->Prop):Prop:=match ρ[i]? with
 | some (some<|.pu d)=>Q d ρ
 | some (some<|.ow l)=>Q (.lst l) ρ
 | some (some<|.bo l)=>Q (.lst l) ρ
 | _=>False
def aT (i:Nat):UV:=λρ Q=>bV1 ρ i Q
theorem mK (i:Nat){pos:Pos}(h:PE X (.Name x pos) (yK i)):PUV X (.Name x pos) (aT i):=jA h λσ H Q ⟨C,ρ,Q0,I,h,k⟩=>by
 unfold aT bV1 at h;split at h
 .rename_i d e
  obtain⟨v,h1,h2⟩:=I.pu i d e;exact⟨v,h1,k _ ρ v H h (.refl _) (.refl _) h2.one⟩
 .rename_i l e
  obtain⟨a,vs,h1,h2,h3,h4⟩:=I.ow i l e;exact⟨_,h1,k _ ρ _ H h (.refl _) (.refl _) ⟨a,vs,rfl,h2,h4⟩⟩
 .rename_i l e
  obtain⟨a,vs,h1,h2,h3,h4⟩:=I.bo i l e;exact⟨_,h1,k _ ρ _ H h (.refl _) (.refl _) ⟨a,vs,rfl,I.ext _ _ h3,h4⟩⟩
 .exact h.elim
def uV (t:UE):UV:=λρ Q=>t ρ λb ρ1=>Q b.d ρ1
theorem EOk.avF {C:C0}{ρ ρ':Ev}{σ:L2.St}{H:Hp}(I:EOk K C ρ σ H)(f:Frz ρ ρ'){a:Addr}(h:Av C ρ' σ a):H a≠none:=I.avSome (f.av h)
theorem gM (h:PU X e ta):PUV X e (uV ta):=jA h λσ H Q ⟨C,ρ,Q0,I,h,k⟩=>
 ⟨C,ρ,_,I,h,λb ρ' v H' q f s r=>k b.d ρ' v H' q f s (r.rep λa z=>I.avF f z).one⟩
theorem c18 {v:V}{d:D}{pos:Pos}(h:PE X (.Name x pos) (tC v))(r: ∀A H,Rep X.K A H d v):PU X (.Name x pos) (uC d):=jA h λσ H Q ⟨C,ρ,Q0,I,h,k⟩=>k _ ρ _ H h (.refl _) (.refl _) (r _ _)
def OpU (X:Cx)(f:Value->Value->Sem Value)(g:D->D->(B->Prop)->Prop):Prop:=
 ∀(A:AS) (H:Hp) (d e:D) (v w:V) (Q0:B->Prop) (Q:VK),(∀a,A a->H a≠none)->Rep X.K A H d v->Rep X.K A H e w->g d e Q0->
  (∀b v' H',Q0 b->gN H H'->sB X.K A H H' b v'->Q v' H')-> ∃r,OpR X f r/\r v w H Q
def uOp (g:D->D->(B->Prop)->Prop)(ta tb:UE):UE:=λρ Q=>ta ρ λx ρ1=>tb ρ1 λy ρ2=>g x.d y.d λb=>Q b ρ2
theorem cB5 {f:Value->Value->Sem Value}:OpR X f (λx y H Q=> ∃r,OpR X f r/\r x y H Q):=λpins s σ H x y v u Q I rx ry ⟨r,hr,q⟩=>hr pins s σ H x y v u Q I rx ry q
theorem sB.from {K:Frag}{A:AS}{H0 H H':Hp}(s:gN H0 H): ∀{b:B} {v:V},sB K A H H' b v->sB K A H0 H' b v
 | .pu _,_,h=>h
 | .ow _,_,⟨a,vs,e,n,h1,r⟩=>⟨a,vs,e,s.free n,h1,r⟩
 | .bo _,_,h=>h.elim
theorem lOp {f:Value->Value->Sem Value}{g:D->D->(B->Prop)->Prop}(ho:OpU X f g)(σ:L2.St)(H:Hp)(Q:VK)(h:lE X.K (uOp g ta tb) σ H Q) :
  tOp (λx y H Q=> ∃r,OpR X f r/\r x y H Q) (lE X.K ta) (lE X.K tb) σ H Q:=by
 obtain⟨C,ρ,Q0,I,h,k⟩:=h;refine⟨C,ρ,_,I,h,λx ρ1 v H1 q1 f1 s1 r1=> ?_⟩
 have I1:=(I.frz f1).same s1;refine⟨C,ρ1,_,I1,q1,λy ρ2 w H2 q2 f2 s2 r2=> ?_⟩
 have I2:=(I1.frz f2).same s2;have hA: ∀a,Av C ρ2 σ a->H2 a≠none:=λa z=>I2.avSome z
 refine ho (Av C ρ2 σ) H2 x.d y.d v w _ Q hA ((r1.rep λa z=>I.avF f1 z).mono<|.sub s2 λa=>f2.av) (r2.rep λa z=>I1.avF f2 z) q2 λb v' H' q s r=> ?_
 exact k b ρ2 v' H' q (f1.trans f2) (s1.trans<|s2.trans s) (r.from<|s1.trans s2)
theorem aI {op:Operator}{g:D->D->(B->Prop)->Prop}(ho:OpU X (binaryOp op) g)(ha:PU X a ta)(hb:PU X b tb):PU X (.BinOp a op b pos) (uOp g ta tb):=
 jA (pe_op cB5 ha hb) (lOp ho)
theorem pu_cmp {g:D->D->(B->Prop)->Prop}(ho:OpU X (compareOp op) g)(ha:PU X a ta)(hb:PU X b tb)(hm:behindInMarks op b=false):PU X (.Compare a [op] [b] pos) (uOp g ta tb):=
 jA (dQ2 cB5 ha hb hm) (lOp ho)
def isB (Q:Bool->Ev->Prop):B->Ev->Prop:=λb ρ=>match b with
 | .pu (.bl k)=>Q k ρ
 | _=>False
def cU (t:UE):UT:=λρ Q=>t ρ (isB Q)
theorem dR3 {t:UE}(σ:L2.St)(H:Hp)(Q:Bool->Hp->Prop)(h:lT X.K (cU t) σ H Q):lE X.K t σ H λx H'=> ∃k,x= .bl k/\Q k H':=by
 obtain⟨C,ρ,Q0,I,h,k⟩:=h;refine⟨C,ρ,_,I,h,λb ρ' v H' q f s r=> ?_⟩
 unfold isB at q;split at q
 .rename_i k'
  refine⟨k',?_,k k' ρ' H' q f s⟩
  have r':Rep X.K (Av C ρ' σ) H' (.bl k') v:=r
  simpa only[Rep]using r'
 .exact q.elim
theorem a98 (h:PU X e ta)(he: ∀whole,isTrue e X.env whole=(do let v<-whole;standAt e.pos;holding [v] (truthy v)):=by intro _;rfl):PUT X e (cU ta):=
 cB4 (pt_val h he) dR3
theorem aV6 {g:D->D->(B->Prop)->Prop}(ho:OpU X (compareOp op) g)(ha:PU X a ta)(hb:PU X b tb)(hm:behindInMarks op b=false):PUT X (.Compare a [op] [b] pos) (cU<|uOp g ta tb):=
 cB4 (dQ3 cB5 ha hb hm) λσ H Q h=>lOp ho σ H _ (dR3 σ H Q h)
def cN0 (t u:UT):UT:=λρ Q=>t ρ λc ρ1=>if c=true then u ρ1 Q else Q false ρ1
def uOr (t u:UT):UT:=λρ Q=>t ρ λc ρ1=>if c=true then Q true ρ1 else u ρ1 Q
def cB6 (t:UT):UT:=λρ Q=>t ρ λc ρ1=>Q (!c) ρ1
variable {tA tB:UT}
theorem a99 (ha:PUT X a tA):PUW X (.BoolOp .And [a] pos) tA:=dP5 ha
theorem t7 (ha:PUT X a tA):PUW X (.BoolOp .Or [a] pos) tA:=pw_or1 ha
theorem aV7 (ha:PUT X a tA)(hb:PUW X (.BoolOp .And (b::iN) pos) tB):PUW X (.BoolOp .And (a::b::iN) pos) (cN0 tA tB):=
 e14 (pw_and ha hb) λσ H Q ⟨C,ρ,Q0,I,h,k⟩=>⟨C,ρ,_,I,h,λc ρ1 H1 q f s=>by
  cases c with
  | true=>
   exact⟨C,ρ1,Q0,(I.frz f).same s,q,λb ρ2 H2 q2 f2 s2=>k b ρ2 H2 q2 (f.trans f2) (s.trans s2)⟩
  | false=>
   exact k _ _ _ q f s⟩
theorem wM (ha:PUT X a tA)(hb:PUW X (.BoolOp .Or (b::iN) pos) tB):PUW X (.BoolOp .Or (a::b::iN) pos) (uOr tA tB):=
 e14 (pw_or ha hb) λσ H Q ⟨C,ρ,Q0,I,h,k⟩=>⟨C,ρ,_,I,h,λc ρ1 H1 q f s=>by
  cases c with
  | true=>
   exact k _ _ _ q f s
  | false=>
   exact⟨C,ρ1,Q0,(I.frz f).same s,q,λb ρ2 H2 q2 f2 s2=>k b ρ2 H2 q2 (f.trans f2) (s.trans s2)⟩⟩
theorem PUW.pt (h:PUW X e tA):PUT X e tA:=PW.pt h
theorem aH4 (ha:PUT X a tA):PUT X (.UnaryOp .Not a pos) (cB6 tA):=
 cB4 (pt_not ha) λσ H Q ⟨C,ρ,Q0,I,h,k⟩=>⟨C,ρ,_,I,h,λc ρ1 H1 q f s=>k _ ρ1 H1 q f s⟩
def cB7 (t u:UE):UE:=λρ Q=>t ρ λx ρ1=>isB (λc ρ1=>if c=true then u ρ1 Q else Q (.pu<|.bl false) ρ1) x ρ1
def cV9 (t:UE):UE:=λρ Q=>t ρ λx ρ1=>isB (λc ρ1=>Q (.pu<|.bl<|!c) ρ1) x ρ1
theorem c19 {Q:Bool->Ev->Prop}{b:B}{ρ:Ev}{A:AS}{H H':Hp}{v:V}(h:isB Q b ρ)(r:sB K A H H' b v): ∃k,v= .bl k/\Q k ρ:=by
 unfold isB at h;split at h
 .rename_i k'
  have r':Rep K A H' (.bl k') v:=r;exact⟨k',by simpa only[Rep]using r',h⟩
 .exact h.elim
theorem l9 {A:AS}{H H':Hp}{k:Bool}:sB K A H H' (.pu<|.bl k) (.bl k):=by
 show Rep K A H' (.bl k) (.bl k)
 simp only[Rep]
theorem cN1 {op}(h:PU X a ta):PU X (.BoolOp op [a] pos) ta:=pe_one h
theorem cN2 (ha:PU X a ta)(hb:PU X (.BoolOp .And (b::iN) pos) tb):PU X (.BoolOp .And (a::b::iN) pos) (cB7 ta tb):=
 jA (pe_and ha hb) λσ H Q ⟨C,ρ,Q0,I,h,k⟩=>⟨C,ρ,_,I,h,λx ρ1 v H1 q f s r=>by
  obtain⟨c,rfl,q⟩:=c19 q r;refine⟨c,rfl,?_⟩;cases c with
  | true=>
   exact⟨C,ρ1,Q0,(I.frz f).same s,q,λb ρ2 v H2 q2 f2 s2 r2=>k b ρ2 v H2 q2 (f.trans f2) (s.trans s2) (r2.from s)⟩
  | false=>
   exact k _ _ _ _ q f s l9⟩
theorem d99 (ha:PU X a ta):PU X (.UnaryOp .Not a pos) (cV9 ta):=
 jA (pe_not ha) λσ H Q ⟨C,ρ,Q0,I,h,k⟩=>⟨C,ρ,_,I,h,λx ρ1 v H1 q f s r=>by
  obtain⟨c,rfl,q⟩:=c19 q r;exact⟨c,rfl,k _ _ _ _ q f s l9⟩⟩
def uIf (t:UT)(ta tb:UE):UE:=λρ Q=>t ρ λc ρ1=>if c=true then ta ρ1 Q else tb ρ1 Q
theorem dA0 (hc:PUT X c tA)(ha:PU X a ta)(hb:PU X b tb):PU X (.IfExp c a b pos) (uIf tA ta tb):=
 jA (d76 hc ha hb) λσ H Q ⟨C,ρ,Q0,I,h,k⟩=>⟨C,ρ,_,I,h,λc ρ1 H1 q f s=>by
  have I1:=(I.frz f).same s;cases c with
  | true=>
   exact⟨C,ρ1,Q0,I1,q,λb ρ2 v H2 q2 f2 s2 r2=>k b ρ2 v H2 q2 (f.trans f2) (s.trans s2) (r2.from s)⟩
  | false=>
   exact⟨C,ρ1,Q0,I1,q,λb ρ2 v H2 q2 f2 s2 r2=>k b ρ2 v H2 q2 (f.trans f2) (s.trans s2) (r2.from s)⟩⟩
def aL:UA:=λρ Q=>Q [] ρ
def a8 (t:UE)(u:UA):UA:=λρ Q=>t ρ λx ρ1=>u ρ1 λxs ρ2=>Q (x.d::xs) ρ2
theorem aB:PUA X [] aL:=e13 cM4 λσ H Q ⟨C,ρ,Q0,I,h,k⟩=>k [] ρ [] H h (.refl _) (.refl _) .nil
theorem aE {t:UA}(ha:PU X e ta)(hr:PUA X es t)(hs:↥(starEach (e::es) X.env=(false,eval e X.env)::starEach es X.env)):PUA X (e::es) (a8 ta t):=
 e13 (c09 ha hr hs) λσ H Q ⟨C,ρ,Q0,I,h,k⟩=>⟨C,ρ,_,I,h,λx ρ1 v H1 q1 f1 s1 r1=>by
  have I1:=(I.frz f1).same s1;refine⟨C,ρ1,_,I1,q1,λxs ρ2 vs H2 q2 f2 s2 r2=> ?_⟩
  exact k _ ρ2 _ H2 q2 (f1.trans f2) (s1.trans s2) (.cons ((r1.rep λa z=>I.avF f1 z).mono<|.sub s2 λa=>f2.av) r2)⟩
def jG (t:UA):UE:=λρ Q=>t ρ λl ρ1=>l.length<=sizeLine/\Q (.pu<|.tup l) ρ1
def fL (t:UA):UE:=λρ Q=>t ρ λl ρ1=>l.length<=sizeLine/\Q (.ow l) ρ1
theorem eS {H:Hp}{p:Addr}(h:H p=none)(o:HO):gN H (upd H p o):=λb u q=>by rw[cM<|dJ q h];exact q
theorem iR {A:AS}{H:Hp}{p:Addr}{l:List D}{vs:List V}(hA: ∀a,A a->H a≠none)(n:H p=none)(r:bX K A H l vs):Rep K A (upd H p<|.tup vs) (.tup l) (.ref p):=by
 exact⟨p,vs,rfl,.inl ⟨λz=>hA p z n,.inl iF⟩,r.mono<|.same<|eS n _⟩
theorem hX {A:AS}{H H0:Hp}{p:Addr}{l:List D}{vs:List V}(s:gN H0 H)(n:H p=none)(r:bX K A H l vs):sB K A H0 (upd H p<|.lst vs) (.ow l) (.ref p):=
 ⟨p,vs,rfl,s.free n,iF,r.mono<|.fresh (eS n _) n⟩
theorem fM {t:UA}{x1}(h:PUA X es t):PU X (.Tuple es x1 pos) (jG t):=
 jA (pe_tup h) λσ H Q ⟨C,ρ,Q0,I,h,k⟩=>⟨C,ρ,_,I,h,λl ρ1 vs H1 q f s r=>by
  obtain⟨hz,q⟩:=q;refine⟨by rw[<-r.length];exact hz,λp n=> ?_⟩
  have I1:=(I.frz f).same s;exact k _ ρ1 _ _ q f (s.trans<|eS n _) (iR (λa z=>I1.avSome z) n r)⟩
theorem cH {t:UA}(h:PUA X es t):PU X (.List es pos) (fL t):=
 jA (pe_lst h) λσ H Q ⟨C,ρ,Q0,I,h,k⟩=>⟨C,ρ,_,I,h,λl ρ1 vs H1 q f s r=>by
  obtain⟨hz,q⟩:=q;refine⟨by rw[<-r.length];exact hz,λp n=> ?_⟩
  exact k _ ρ1 _ _ q f (s.trans<|eS n _) (hX s n r)⟩
abbrev Φ:=List D->(B->Prop)->Prop
def spP (K:Frag)(φ:Φ):Sp:=λvs H Q _=> ∃A ds Q0,(∀a,A a->H a≠none)/\bX K A H ds vs/\φ ds Q0/\ ∀b v H',Q0 b->gN H H'->sB K A H H' b v->Q v H'
def aR (φ:Φ)(t:UA):UE:=λρ Q=>t ρ λds ρ1=>φ ds λb=>Q b ρ1
theorem lCall {t:UA}{E:XK}(σ:L2.St)(H:Hp)(Q:VK)(h:lE X.K (aR φ t) σ H Q):d88 (spP X.K φ) [] E (lA X.K t) σ H Q:=by
 obtain⟨C,ρ,Q0,I,h,k⟩:=h;refine⟨C,ρ,_,I,h,λds ρ1 vs H1 q f s r=> ?_⟩
 have I1:=(I.frz f).same s;show spP X.K φ (vs++[]) H1 Q E;rw[kY];exact⟨Av C ρ1 σ,ds,_,λa z=>I1.avSome z,r,q,λb v H' q' s' r'=>k b ρ1 v H' q' f (s.trans s') (r'.from s)⟩
theorem dR4 {CX:CXT}{ps:List Str}{E:XK}{t:UA}(F:sZ X.prog X.w X.K X.mg X.base CX k f fd ps (spP X.K φ))(hr:i8 k X.A)(hg:Gl X x)(hm:X.mg x=some (.ref f))
  (hk:keepIn X.K (.ref f)=true) (hb:Binds X.K fd ps []) (hx:wK CX X E) (ha:PUA X (e::es) t) (hdb:⇑(x∪0)) (he:↥(starEach (e::es) X.env=(false,eval e X.env)::starEach es X.env))
  (hpl:↥((backTo pos<|starEach es X.env).any (·.1)=false)):PU X (.Call (.Name x p) (e::es) [] pos) (aR φ t):=
 jA (cV4 F hr hg hm hk hb .nil hx ha hdb he hpl) lCall
theorem dA1 {CX:CXT}{ps:List Str}{E:XK}(F:sZ X.prog X.w X.K X.mg X.base CX k f fd ps (spP X.K φ))(hr:i8 k X.A)(hg:Gl X x)(hm:X.mg x=some (.ref f))
  (hk:keepIn X.K (.ref f)=true) (hb:Binds X.K fd ps []) (hx:wK CX X E) (hdb:⇑(x∪0)):PU X (.Call (.Name x p) [] [] pos) (aR φ aL):=
 jA (d90 F hr hg hm hk hb .nil hx hdb) λσ H Q ⟨C,ρ,Q0,I,h,k⟩=>⟨Av C ρ σ,[],_,λa z=>I.avSome z,.nil,h,λb v H' q' s' r'=>k b ρ v H' q' (.refl _) s' r'⟩
def uN (X:Cx)(f:Value)(g:List D->(B->Prop)->Prop):Prop:=
 ∀(A:AS) (H:Hp) (ds:List D) (vs:List V) (Q0:B->Prop) (Q:VK),(∀a,A a->H a≠none)->bX X.K A H ds vs->g ds Q0->
  (∀b v' H',Q0 b->gN H H'->sB X.K A H H' b v'->Q v' H')-> ∃r,oE X f r/\r vs H Q
theorem callAny {f:Value}:oE X f (λxs H Q=> ∃r,oE X f r/\r xs H Q):=λpins s σ H xs us Q I rx ⟨r,hr,q⟩=>hr pins s σ H xs us Q I rx q
theorem lCB {f:Value}{g:List D->(B->Prop)->Prop}{t:UA}(hc:uN X f g)(σ:L2.St)(H:Hp)(Q:VK)(h:lE X.K (aR g t) σ H Q):tCB (λxs H Q=> ∃r,oE X f r/\r xs H Q) (lA X.K t) σ H Q:=by
 obtain⟨C,ρ,Q0,I,h,k⟩:=h;refine⟨C,ρ,_,I,h,λds ρ1 vs H1 q f s r=> ?_⟩
 have I1:=(I.frz f).same s;exact hc (Av C ρ1 σ) H1 ds vs _ Q (λa z=>I1.avSome z) r q λb v H' q' s' r'=>k b ρ1 v H' q' f (s.trans s') (r'.from s)
theorem cX {id:String}{g:List D->(B->Prop)->Prop}{t:UA}(hc:uN X (.builtin id) g)(hg:Gl X x)(hm:X.mg x=none)(hv:bootBuiltins x=some (.builtin id))(ha:PUA X (e::es) t)(hn:⇑(x≠"__name__"))(hdb:⇑(x∪0))
  (he:↥(starEach (e::es) X.env=(false,eval e X.env)::starEach es X.env)) (hpl:↥((backTo pos<|starEach es X.env).any (·.1)=false)):PU X (.Call (.Name x p) (e::es) [] pos) (aR g t):=
 jA (cB1 callAny hg hm hv ha hn hdb he hpl) (lCB hc)
theorem bN {T:String}{g:List D->(B->Prop)->Prop}{t:UA}(hc:uN X (.type T) g)(hg:Gl X x)(hm:X.mg x=none)(hv:bootBuiltins x=some (.type T))(ha:PUA X (e::es) t)(hn:⇑(x≠"__name__"))(hdb:⇑(x∪0))
  (he:↥(starEach (e::es) X.env=(false,eval e X.env)::starEach es X.env)) (hpl:↥((backTo pos<|starEach es X.env).any (·.1)=false)):PU X (.Call (.Name x p) (e::es) [] pos) (aR g t):=
 jA (d15 callAny hg hm hv ha hn hdb he hpl) (lCB hc)
end
structure UD where
 nx:Ev->Prop
 rt:B->Prop
 bk:Ev->Prop:=λ_=>False
 ct:Ev->Prop:=λ_=>False
abbrev US:=UD->Ev->Prop
structure DOk (K:Frag)(C:C0)(D0:UD)(D:b18):Prop where
 nx: ∀ρ σ H,D0.nx ρ->EOk K C ρ σ H->D.nx σ H
 rt: ∀b v H,D0.rt b->gN C.H0 H->sB K C.A0 C.H0 H b v->D.rt v H
 bk: ∀ρ σ H,D0.bk ρ->EOk K C ρ σ H->D.bk σ H
 ct: ∀ρ σ H,D0.ct ρ->EOk K C ρ σ H->D.ct σ H
def lS (K:Frag)(t:US):TS:=λD σ H=> ∃C ρ D0,EOk K C ρ σ H/\t D0 ρ/\DOk K C D0 D
def PUS (X:Cx)(st:Stmt)(t:US):Prop:=PS X st (lS X.K t)
def qE (X:Cx)(sts:List Stmt)(t:US):Prop:=PSs X sts (lS X.K t)
theorem mI {X:Cx}{t t':TS}(h:PS X st t)(i: ∀D σ H,t' D σ H->t D σ H):PS X st t':=λpins s σ H D I q=>h pins s σ H D I (i D σ H q)
theorem qF {X:Cx}{st:List Stmt}{t t':TS}(h:PSs X st t)(i: ∀D σ H,t' D σ H->t D σ H):PSs X st t':=λpins s σ H D I q=>h pins s σ H D I (i D σ H q)
section
variable {X:Cx}{st:Stmt}{sts:List Stmt}{e:Expr}{pos:Pos}{t u:US}{te:UE}{tc:UT}{K:Frag}
def dN:US:=λD ρ=>D.nx ρ
def aU (t u:US):US:=λD ρ=>t {D with nx:=u D} ρ
theorem c20:qE X [] dN:=qF bC4 λD σ H ⟨C,ρ,D0,I,h,k⟩=>k.nx ρ σ H h I
theorem bH (h1:PUS X st t)(h2:qE X sts u):qE X (st::sts) (aU t u):=
 qF (l8 h1 h2) λD σ H ⟨C,ρ,D0,I,h,k⟩=>⟨C,ρ,{D0 with nx:=u D0},I,h,⟨λρ' σ' H' q I'=>⟨C,ρ',D0,I',q,k⟩,k.rt,k.bk,k.ct⟩⟩
theorem b7 (h1:PUS X st t):qE X [st] t:=bC5 h1
def d6 (t:UE):US:=λD ρ=>t ρ λb _=>D.rt b
theorem sB.back {A A':AS}{H0 H H':Hp}(s:gN H0 H)(h: ∀a,A' a->A a): ∀{b:B} {v:V},sB K A H H' b v->sB K A' H0 H' b v
 | .pu _,_,r=>Rep.mono (.sub (.refl _) h) r
 | .ow _,_,⟨a,vs,e,n,h1,r⟩=>⟨a,vs,e,s.free n,h1,r.mono λb o nb q=>⟨λz=>nb (z.imp (h b) id),q⟩⟩
 | .bo _,_,r=>r.elim
theorem cN3 (he:PU X e te):PUS X (.Return (some e) pos) (d6 te):=
 mI (d77 he) λD σ H ⟨C,ρ,D0,I,h,k⟩=>⟨C,ρ,_,I,h,λb ρ' v H' q f s r=>k.rt b v H' q (I.ext.trans s) (r.back I.ext λa z=> .inl z)⟩
def pB (i:Nat):US:=λD ρ=>match ρ[i]? with
 | some (some<|.pu d)=>D.rt (.pu d)
 | some (some<|.ow l)=>D.rt (.ow l)
 | _=>False
theorem kM (i:Nat)(h:PE X (.Name x p) (yK i)):PUS X (.Return (some<|.Name x p) pos) (pB i):=
 mI (d77 h) λD σ H ⟨C,ρ,D0,I,h,k⟩=>by
  unfold pB at h;split at h
  .rename_i d e
   obtain⟨v,h1,h2⟩:=I.pu i d e;exact⟨v,h1,k.rt _ v H h I.ext<|Rep.mono (.sub (.refl _) λa z=> .inl z) h2⟩
  .rename_i l e
   obtain⟨a,vs,h1,h2,h3,h4⟩:=I.ow i l e;refine⟨_,h1,k.rt _ _ H h I.ext ⟨a,vs,rfl,h3,h2,h4.mono λb o nb q=>⟨λz=>nb (z.elim .inl λz=> .inr ?_),q⟩⟩⟩
   subst z;exact⟨i,l,e,h1⟩
  .exact h.elim
def fU (c:UT)(t u:US):US:=λD ρ=>c ρ λb ρ1=>if b=true then t D ρ1 else u D ρ1
theorem bV2 {a b:List Stmt}(hc:PUT X c tc)(ha:qE X a t)(hb:qE X b u):PUS X (.If c a b pos) (fU tc t u):=
 mI (cA4 hc ha hb) λD σ H ⟨C,ρ,D0,I,h,k⟩=>⟨C,ρ,_,I,h,λc ρ1 H1 q f s=>by
  have I1:=(I.frz f).same s;cases c with
  | true=>
   exact⟨C,ρ1,D0,I1,q,k⟩
  | false=>
   exact⟨C,ρ1,D0,I1,q,k⟩⟩
theorem cB8:PUS X st (λ_ _=>False):=mI d78 λD σ H ⟨C,ρ,D0,I,h,k⟩=>h
abbrev UG:=B->Ev->(Ev->Prop)->Prop
def lG (K:Frag)(T:List Nat)(g:UG):TG:=λv σ H Q=> ∃C ρ b H00 Q0,EOk K C ρ σ H00/\gN H00 H/\sB K (Av C ρ σ) H00 H b v/\g b ρ Q0/\ ∀ρ' σ' H',Q0 ρ'->EOk K C ρ' σ' H'->(∀j:Nat,j ∉ T->σ'[j]? =σ[j]?)->Q σ' H'
def PUG (X:Cx)(e:Expr)(T:List Nat)(g:UG):Prop:=PG X e (lG X.K T g)
theorem e15 {t t':TG}(h:PG X e t)(i: ∀v σ H Q,t' v σ H Q->t v σ H Q):PG X e t':=λpins s σ H v u Q I r q=>h pins s σ H v u Q I r (i v σ H Q q)
def bS (i:Nat):UG:=λb ρ Q=>i<ρ.length/\Q (ρ.set i<|some b)
theorem rD (i:Nat)(h:PG X e (a75 i)):PUG X e [i] (bS i):=e15 h λv σ H Q z=>by
 obtain⟨C,ρ,b,H00,Q0,I,s,r,⟨hi,q⟩,k⟩:=z;exact k _ _ _ q (I.store s r (by rw[<-I.len];exact hi)) λj hj=>get_set_ne λz=>hj (by simp[z])
abbrev UGs:=List D->Ev->(Ev->Prop)->Prop
def lGs (K:Frag)(T:List Nat)(g:UGs):TGs:=λvs σ H Q=> ∃C ρ ds Q0,EOk K C ρ σ H/\bX K (Av C ρ σ) H ds vs/\g ds ρ Q0/\ ∀ρ' σ' H',Q0 ρ'->EOk K C ρ' σ' H'->(∀j:Nat,j ∉ T->σ'[j]? =σ[j]?)->Q σ' H'
def cB9 (X:Cx)(es:List Expr)(T:List Nat)(g:UGs):Prop:=PGs X es (lGs X.K T g)
def rL:UGs:=λds ρ Q=>ds=[]/\Q ρ
theorem Av.store_pu {C:C0}{ρ:Ev}{σ:L2.St}{d:D}{v:V}(h:Av C (ρ.set i<|some<|.pu d) (σ.set i<|some v) a):Av C ρ σ a:=by
 rcases h with z| ⟨j,l,h1,h2⟩
 .exact .inl z
 .rcases aX h1 with⟨rfl,h3,_⟩| ⟨ne,h3⟩
  .cases h3
  .rw[get_set_ne ne]at h2;exact .inr ⟨j,l,h3,h2⟩
theorem c21 {t t':TGs}(h:PGs X es t)(i: ∀v σ H Q,t' v σ H Q->t v σ H Q):PGs X es t':=λpins s σ H v u Q I r q=>h pins s σ H v u Q I r (i v σ H Q q)
theorem oF:cB9 X [] [] rL:=c21 dP6 λvs σ H Q z=>by
 obtain⟨C,ρ,ds,Q0,I,r,⟨e,q⟩,k⟩:=z;subst e;exact⟨r.unnil,k ρ σ H q I λ_ _=>rfl⟩
def fV (i:Nat)(u:UGs):UGs:=λds ρ Q=>match ds with
 | d::r=>i<ρ.length/\u r (ρ.set i<|some<|.pu d) Q
 | []=>False
theorem eU {u:UGs}(i:Nat)(h1:PG X e (a75 i))(h2:cB9 X es T u)
  (hs:↥((assignEach (e::es) X.env).map (·.2)=assign e X.env::(assignEach es X.env).map (·.2))):cB9 X (e::es) (i::T) (fV i u):=
 c21 (cA5 h1 h2 hs) λvs σ H Q z=>by
  obtain⟨C,ρ,ds,Q0,I,r,g,k⟩:=z;cases ds with
  | nil=>exact(show False from g).elim
  | cons d dr=>
   obtain⟨hi,g⟩:i<ρ.length/\u dr (ρ.set i<|some<|.pu d) Q0:=g;obtain⟨v,vr,rfl,rv,rr⟩:=r.uncons;have I1:EOk X.K C (ρ.set i<|some<|.pu d) (σ.set i<|some v) H:=I.store (.refl _) rv (by rw[<-I.len];exact hi)
   exact⟨v,vr,rfl,C,_,dr,Q0,I1,rr.mono<|.sub (.refl _) λa z=>Av.store_pu z,g,λρ' σ' H' q I' hT=>k ρ' σ' H' q I' λj hj=>(hT j λz=>hj (fB _ z)).trans (get_set_ne λz=>hj (by simp[z]))⟩
def rM (u:UGs):UG:=λb ρ Q=>match b.d with
 | .tup ds=>u ds ρ Q
 | _=>False
theorem uO {u:UGs}(hc:X.calm=true)(h:cB9 X es T u)(hu: ∀ds ρ Q,u ds ρ Q->ds.length=n)
  (hn:↥((assignEach es X.env).length=n)) (hst:↥((assignEach es X.env).findIdx? (·.1)=none)):PUG X (.Tuple es k pos) T (rM u):=
 e15 (pg_tup hc h hn hst) λv σ H Q z=>by
  obtain⟨C,ρ,b,H00,Q0,I,s,r,g,k⟩:=z;have R:=r.rep λa z=>I.avSome z
  unfold rM at g;split at g
  .rename_i ds e
   rw[e]at R;obtain⟨a,vs,rfl,c,rs⟩:=R;exact⟨a,vs,rfl,c.imp cT id,by rw[<-rs.length];exact hu _ _ _ g,C,ρ,ds,Q0,I.same s,rs,g,k⟩
  .exact g.elim
def d19 (t:UE)(g:UG):US:=λD ρ=>t ρ λb ρ1=>g b ρ1 D.nx
theorem c22 {g:UG}(he:PU X e te)(hg:PUG X tg T g)(hs:↥(swapsWithSole [tg] e pos.line X.env=pure false))(hw:↥(swappedStores [tg] e X.env=pure none))
  (h1:↥((assignEach [tg] X.env).map (·.2)=[assign tg X.env])):PUS X (.Assign [tg] e pos) (d19 te g):=
 mI (cL6 he hg hs hw h1) λD σ H ⟨C,ρ,D0,I,h,k⟩=>⟨C,ρ,_,I,h,λb ρ1 v H1 q f s r=>⟨C,ρ1,b,H,D0.nx,I.frz f,s,r,q,λρ' σ' H' q I' _=>k.nx ρ' σ' H' q I'⟩⟩
def bJ (i:Nat)(t:UE):US:=λD ρ=>t ρ λb ρ1=>D.nx (ρ1.set i<|some b)
theorem sC (i:Nat)(hN:X.N.Nodup)(hi:X.N[i]? =some x)(hx:Loc X.env.scope x)(he:PU X e te)(hs:↥(swapsWith e (some<|.Name x pos') pos.line X.env=pure false))(hf:X.fn x=true\/X.env.scope.names.lookup x=some .local:=by walk_at "z")
  (hl: ∀pins σ H s,Inv X pins σ H s->i<σ.length:=by intro pins σ H s I;rw[I.len];decide):PUS X (.Assign [.Name x pos'] e pos) (bJ i te):=by
 intro pins s σ H D I q;refine d80 hN hi hx he hs hf pins s σ H D I ?_;obtain⟨C,ρ,D0,J,h,k⟩:=q;exact⟨C,ρ,_,J,h,λb ρ1 v H1 q f s1 r=>k.nx _ _ _ q ((J.frz f).store s1 r<|hl pins σ H s I)⟩
def uPar (i j:Nat)(ta:UA):US:=λD ρ=>ta ρ λds ρ1=>match ds with
 | [d,d']=>D.nx ((ρ1.set i<|some<|.pu d).set j<|some<|.pu d')
 | _=>False
theorem us_par {a b:Expr}{ta:UA}{px pt:Pos}{kt k2 pt2}(i j:Nat)(hc:X.calm=true)(hN:X.N.Nodup)(hi:X.N[i]? =some x)(hj:X.N[j]? =some y)(hij:i≠j)
  (hx:X.env.scope.names.lookup x=some .local) (hy:X.env.scope.names.lookup y=some .local) (ha:PUA X [a,b] ta)
  (hw:swappedStores [.Tuple [.Name x px,.Name y py] kt pt] (.Tuple [a,b] k2 pt2) X.env=pure (some [x,y]))
  (hs:↥(swapsWithSole [.Tuple [.Name x px,.Name y py] kt pt] (.Tuple [a,b] k2 pt2) pos.line X.env=pure false))
  (hl: ∀pins σ H s,Inv X pins σ H s->i<σ.length/\j<σ.length:=by intro pins σ H s I;rw[I.len];decide) :
  PUS X (.Assign [.Tuple [.Name x px,.Name y py] kt pt] (.Tuple [a,b] k2 pt2) pos) (uPar i j ta):=by
 intro pins s σ H D I q;refine ps_par hc hN hi hj hij hx hy ha hw hs pins s σ H D I ?_;obtain⟨C,ρ,D0,J,h,k⟩:=q;obtain⟨l1,l2⟩:=hl pins σ H s I;refine⟨C,ρ,_,J,h,λds ρ1 vs H1 q f s1 r=> ?_⟩
 split at q
 .rename_i d d'
  obtain⟨v,vr,rfl,rv,rr⟩:=r.uncons;obtain⟨w,wr,rfl,rw',rr'⟩:=rr.uncons;have e:=rr'.unnil;subst e;have J1:EOk X.K C (ρ1.set i<|some<|.pu d) (σ.set i<|some v) H1:=((J.frz f).same s1).store (.refl _) rv l1
  have J2:EOk X.K C ((ρ1.set i<|some<|.pu d).set j<|some<|.pu d') ((σ.set i<|some v).set j<|some w) H1:=J1.store (.refl _) (Rep.mono (.sub (.refl _) λa z=>Av.store_pu z) rw') (by rw[cZ];exact l2)
  exact⟨v,w,rfl,k.nx _ _ _ q J2⟩
 .exact q.elim
def IpU (X:Cx)(op:Operator)(g:D->D->(B->Prop)->Prop):Prop:=
 ∀(A:AS) (H:Hp) (d e:D) (v w:V) (Q0:B->Prop) (Q:VK),(∀a,A a->H a≠none)->Rep X.K A H d v->Rep X.K A H e w->g d e Q0->
  (∀b v' H',Q0 b->gN H H'->sB X.K A H H' b v'->Q v' H')-> ∃r,PIp X op r/\r v w H Q
theorem ipAny {op:Operator}:PIp X op (λx y H Q=> ∃r,PIp X op r/\r x y H Q):=λpins s σ H x y v u Q I rx ry ⟨r,hr,q⟩=>hr pins s σ H x y v u Q I rx ry q
def cC0 (i:Nat)(g:D->D->(B->Prop)->Prop)(te:UE):US:=λD ρ=>aK3 ρ i λx ρ0=>te ρ0 λy ρ1=>g x.d y.d λb=>D.nx (ρ1.set i<|some b)
theorem dA2 {op:Operator}{g:D->D->(B->Prop)->Prop}(i:Nat)(hN:X.N.Nodup)(hi:X.N[i]? =some x)(hx:Loc X.env.scope x)(he:PU X e te)(ho:IpU X op g)(hf:X.fn x=true\/X.env.scope.names.lookup x=some .local:=by walk_at "z")
  (hl: ∀pins σ H s,Inv X pins σ H s->i<σ.length:=by intro pins σ H s I;rw[I.len];decide):PUS X (.AugAssign (.Name x pos') op e pos) (cC0 i g te):=by
 intro pins s σ H D I q;refine ps_aug hN hi hx he ipAny hf pins s σ H D I ?_;obtain⟨C,ρ,D0,J,h,k⟩:=q;have go: ∀(d:M.D) (ρ0:Ev) (v:V),Frz ρ ρ0->σ[i]? =some (some v)->Rep X.K (Av C ρ0 σ) H d v->(te ρ0 λy ρ1=>g d y.d λb=>D0.nx (ρ1.set i<|some b))->
   tAug i (lE X.K te) (λx y H Q=> ∃r,PIp X op r/\r x y H Q) D σ H:=λd ρ0 v f0 h1 r0 h=>by
  have J0:=J.frz f0;refine⟨v,h1,C,ρ0,_,J0,h,λy ρ1 w H1 q1 f1 s1 r1=> ?_⟩
  have J1:=(J0.frz f1).same s1;refine ho (Av C ρ1 σ) H1 d y.d v w _ _ (λa z=>J1.avSome z) (r0.mono<|.sub s1 λa=>f1.av) (r1.rep λa z=>J0.avF f1 z) q1 λb v' H' q s r=> ?_
  exact k.nx _ _ _ q (J1.store s r<|hl pins σ _ _ I)
 unfold cC0 aK3 at h;split at h
 .rename_i d e
  obtain⟨v,h1,h2⟩:=J.pu i d e;exact go d ρ v (.refl _) h1 h2 h
 .rename_i l e
  obtain⟨_,_,v,h1,h2⟩:=J.freeze e;exact go (.lst l) _ v (.set e) h1 h2 h
 .exact h.elim
def b23 (c:UT)(tb:US):US:=λD ρ=> ∃W:Nat->Ev->Prop,(∃m,W m ρ)/\ ∀m ρ,W m ρ->
 c ρ λb ρ1=>if b=true then tb {D with nx:=λρ'=> ∃m',m'<m/\W m' ρ',ct:=λρ'=> ∃m',m'<m/\W m' ρ',bk:=D.nx} ρ1 else D.nx ρ1
theorem aA0 {tb:US}(hp:PassesOwn (model X.prog X.w) X.A X.env X.xe)(hc:PUT X c tc)(hb:qE X body tb):PUS X (.While c body [] pos) (b23 tc tb):=
 mI (d82 hp hc hb) λD σ H ⟨C,ρ,D0,I,⟨W,⟨m0,w0⟩,turn⟩,k⟩=>by
  refine⟨λm σ H=> ∃ρ,EOk X.K C ρ σ H/\W m ρ,⟨m0,ρ,I,w0⟩,?_⟩
  rintro m σ H ⟨ρ,I,w⟩;refine⟨C,ρ,_,I,turn m ρ w,λb ρ1 H1 q f s=> ?_⟩
  have I1:=(I.frz f).same s;cases b with
  | true=>
   refine⟨λσ' H'=> ∃m',m'<m/\ ∃ρ',EOk X.K C ρ' σ' H'/\W m' ρ',λσ' H' z=>z,C,ρ1,_,I1,q,⟨?_,k.rt,k.nx,?_⟩⟩
   .rintro ρ' σ' H' ⟨m',hm,w'⟩ I';exact⟨m',hm,ρ',I',w'⟩
   .rintro ρ' σ' H' ⟨m',hm,w'⟩ I';exact⟨m',hm,ρ',I',w'⟩
  | false=>
   exact k.nx _ _ _ q I1
end
abbrev UI:=Ev->(Nat->(Nat->D)->Ev->Prop)->Prop
structure cC1 (K:Frag)(A:AS)(H:Hp)(J:It)(n:Nat)(it:Nat->D):Prop where
 go: ∀A' H' i,kO A H A' H'->i<n->J.go i H'
 yld: ∀A' H' i x H'',kO A H A' H'->(∀a,A' a->H' a≠none)->i<n->J.yld i H' x H''->gN H' H''/\Rep K A' H'' (it i) x
 stop: ∀A' H',kO A H A' H'->J.stop n H'
def lI (K:Frag)(t:UI):TI:=λσ H R=> ∃C ρ Q0,EOk K C ρ σ H/\t ρ Q0/\
 ∀n it ρ' J H',Q0 n it ρ'->Frz ρ ρ'->gN H H'->cC1 K (Av C ρ' σ) H' J n it->R J H'
def PUI (X:Cx)(tg iter:Expr)(t:UI):Prop:=PI X tg iter (lI X.K t)
def gW (ui:UI)(g:UG)(tb:US):US:=λD ρ=>ui ρ λn it ρ1=> ∃Pv:Nat->Ev->Prop,Pv 0 ρ1/\
 (∀i ρ,i<n->Pv i ρ->g (.pu<|it i) ρ λρ2=>tb {D with nx:=Pv (i+1),ct:=Pv (i+1),bk:=D.nx} ρ2)/\ ∀ρ,Pv n ρ->D.nx ρ
nonrec def C0.rz (C:C0) (ρ:Ev) (σ:L2.St) (H:Hp):C0:=C.raise ρ σ H λ_=>Classical.propDecidable _
section
variable {X:Cx}{e:Expr}{pos:Pos}{te:UE}{K:Frag}{C:C0}{ρ ρ':Ev}{σ σ':L2.St}{H H':Hp}
theorem EOk.rz (I:EOk K C ρ σ H):EOk K (C.rz ρ σ H) ρ σ H/\gN C.H0 (C.rz ρ σ H).H0:=I.raise
theorem dR5 (I':EOk K (C.rz ρ σ H) ρ' σ' H'):kO (Av C ρ σ) H (Av (C.rz ρ σ H) ρ' σ') H':=λb o nb e=>by
 have e0:(C.rz ρ σ H).H0 b=some o:=by
  show @ite _ (Own ρ σ b) (Classical.propDecidable _) none (H b)=some o
  rw[a7 λz=>nb (.inr z)]
  exact e
 refine⟨?_,I'.ext b o e0⟩
 rintro(z| ⟨i,l,h1,h2⟩)
 .exact nb (.inl z)
 .obtain⟨a,vs,h3,h4,h5,_⟩:=I'.ow i l h1;rw[h2]at h3;cases h3;rw[e0]at h5;cases h5
theorem b24 {ui:UI}{g:UG}{tb:US}(hp:PassesOwn (model X.prog X.w) X.A X.env X.xe)(hc:X.calm=true)(hi:PUI X tg iter ui)(hg:PUG X tg T g)(hb:qE X body tb)
  (hs: ∀x,foldedSetIterable iter X.env x=pure x:=by intro _;rfl):PUS X (.For tg iter body [] pos) (gW ui g tb):=
 mI (ps_for hp hc hi hg hb hs) λD σ H ⟨C,ρ,D0,I,h,k⟩=>⟨C,ρ,_,I,h,λn it ρ1 J H1 q f s ok=>by
  obtain⟨Pv,p0,turn,fin⟩:=q;have I1:=(I.frz f).same s;obtain⟨Ir,sub⟩:=I1.rz;refine⟨λi m σ' H'=>m=n-i/\i<=n/\ ∃ρ',EOk X.K (C.rz ρ1 σ H1) ρ' σ' H'/\Pv i ρ',⟨n,rfl,eH _,ρ1,Ir,p0⟩,?_⟩
  rintro i m σ' H' ⟨rfl,hi,ρ',I',p'⟩;have P:=dR5 I';have lo: ∀ρ2 σ2 H2,EOk X.K (C.rz ρ1 σ H1) ρ2 σ2 H2->EOk X.K C ρ2 σ2 H2:=λρ2 σ2 H2 J2=>J2.lower sub rfl I.a0
  by_cases hlt:i<n
  .refine .inr ⟨ok.go _ _ i P hlt,λσ2 H2=> ∃ρ2,EOk X.K (C.rz ρ1 σ H1) ρ2 σ2 H2/\Pv (i+1) ρ2,λσ2 H2 z=>⟨n-(i+1),aa,rfl,hlt,z⟩,λx H2 y=> ?_⟩
   obtain⟨s2,r2⟩:=ok.yld _ _ i x H2 P (λa z=>I'.avSome z) hlt y
   refine⟨C.rz ρ1 σ H1,ρ',.pu<|it i,H',_,I',s2,r2,turn i ρ' hlt p',λρ2 σ2 H3 q I3 _=>⟨C.rz ρ1 σ H1,ρ2,_,I3,q,⟨?_,?_,?_,?_⟩⟩⟩
   .exact λρ3 σ3 H4 q I4=>⟨ρ3,I4,q⟩
   .exact λb v H4 q s4 r4=>k.rt b v H4 q (sub.trans s4) (r4.from sub)
   .exact λρ3 σ3 H4 q I4=>k.nx ρ3 σ3 H4 q (lo _ _ _ I4)
   .exact λρ3 σ3 H4 q I4=>⟨ρ3,I4,q⟩
  .have e:i=n:=aa
   subst e;exact .inl ⟨ok.stop _ _ P,k.nx _ _ _ (fin ρ' p')<|lo _ _ _ I'⟩⟩
nonrec def oG:D->Option (List D)
 | .tup l=>some l
 | .lst l=>some l
 | .rol l=>some l
 | _=>none
def dS (t:UE):UI:=λρ Q=>t ρ λb ρ1=>match oG b.d with
 | some l=>Q l.length (λi=>l.getD i .non) ρ1
 | none=>False
theorem pi_any {l:Expr}{tl:TE}(hl:PE X l tl):PI X tg l (λσ H R=>tl σ H λx H1=> ∃a,x= .ref a/\((∃xs,SqL X.K H1 a xs/\R (Itl X.K a) H1)\/ ∃xs,SqT X.K H1 a xs/\R (Itt X.K a) H1)):=by
 intro pins s σ H R I h;refine thn (hl pins s σ H _ I h) λv s1 ⟨x,H1,I1,r1,q1⟩=> ?_
 obtain⟨a,e,q⟩:=q1;subst e;cases r1;rcases q with⟨xs,hq,q⟩| ⟨xs,hq,q⟩
 .obtain⟨its,rv,p,hz⟩:=I1.list hq;refine zU p.isList ?_;refine⟨s1.heap.objs.size,[s1.heap.objs.size],_,_,H1,rfl,I1.kept λb o e=>aV _ e,d06 a _,⟨_,cD _ rfl,rfl,rfl⟩,λb hb=> ?_,q⟩
  have e:b=s1.heap.objs.size:=by exists hb
  subst e;exact I1.fpOk (aK _) (I1.hok.fresh<|aK _)
 .obtain⟨its,rv,p,hz⟩:=I1.tuple hq;refine aP6 (show s1.heap.IsTuple a its.toArray from p) ?_
  refine⟨s1.heap.objs.size,[s1.heap.objs.size],_,_,H1,rfl,I1.kept λb o e=>aV _ e,cL7 a _,⟨_,cD _ rfl,rfl,rfl⟩,λb hb=> ?_,q⟩
  have e:b=s1.heap.objs.size:=by exists hb
  subst e;exact I1.fpOk (aK _) (I1.hok.fresh<|aK _)
theorem b78 {t t':TI}(h:PI X tg iter t)(i: ∀σ H R,t' σ H R->t σ H R):PI X tg iter t':=λpins s σ H R I q=>h pins s σ H R I (i σ H R q)
theorem bV3 {A:AS}{vs:List V}{l:List D}(c:(¬A a/\Rd H a (.lst vs))\/KL K a vs)(r:bX K A H l vs):cC1 K A H (Itl K a) l.length (λi=>l.getD i .non):=by
 have sq: ∀A' H',kO A H A' H'->SqL K H' a vs:=λA' H' P=>by
  rcases c with⟨n,c⟩|c
  .exact .inl (Rd.pres P n c).2
  .exact .inr c
 have get: ∀i,i<l.length-> ∃x,vs[i]? =some x/\Rep K A H (l.getD i .non) x:=λi hi=>r.get (by rw[aO,aS hi];rfl)
 refine⟨λA' H' i P hi=> ?_,λA' H' i x H'' P hA hi y=> ?_,λA' H' P=>⟨vs,sq _ _ P,by rw[r.length];exact aK _⟩⟩
 .obtain⟨x,e,_⟩:=get i hi;exact⟨vs,x,sq _ _ P,e⟩
 .obtain⟨x',e,r'⟩:=get i hi;obtain⟨rfl,y⟩:=y;have:=y vs (sq _ _ P);rw[e]at this;cases this;exact⟨.refl _,r'.mono P⟩
theorem dA3 {A:AS}{vs:List V}{l:List D}(c:(¬A a/\Rd H a (.tup vs))\/KT K a vs)(r:bX K A H l vs):cC1 K A H (Itt K a) l.length (λi=>l.getD i .non):=by
 have sq: ∀A' H',kO A H A' H'->SqT K H' a vs:=λA' H' P=>by
  rcases c with⟨n,c⟩|c
  .exact .inl (Rd.pres P n c).2
  .exact .inr c
 have get: ∀i,i<l.length-> ∃x,vs[i]? =some x/\Rep K A H (l.getD i .non) x:=λi hi=>r.get (by rw[aO,aS hi];rfl)
 refine⟨λA' H' i P hi=> ?_,λA' H' i x H'' P hA hi y=> ?_,λA' H' P=>⟨vs,sq _ _ P,by rw[r.length];exact aK _⟩⟩
 .obtain⟨x,e,_⟩:=get i hi;exact⟨vs,x,sq _ _ P,e⟩
 .obtain⟨x',e,r'⟩:=get i hi;obtain⟨rfl,y⟩:=y;have:=y vs (sq _ _ P);rw[e]at this;cases this;exact⟨.refl _,r'.mono P⟩
theorem eA (h:PU X e te):PUI X tg e (dS te):=b78 (pi_any h) λσ H R ⟨C,ρ,Q0,I,h,k⟩=>⟨C,ρ,_,I,h,λb ρ1 v H1 q f s r=>by
 have rr:=r.rep λa z=>I.avF f z
 generalize b.d=d at q rr;cases d with
 | tup l=>
  obtain⟨a,vs,rfl,c,rs⟩:=rr;exact⟨a,rfl,.inr ⟨vs,c.imp cT id,k _ _ ρ1 _ H1 q f s<|dA3 c rs⟩⟩
 | lst l=>
  obtain⟨a,vs,rfl,n,c,rs⟩:=rr;exact⟨a,rfl,.inl ⟨vs,.inl<|.inl c,k _ _ ρ1 _ H1 q f s<|bV3 (.inl ⟨n,.inl c⟩) rs⟩⟩
 | rol l=>
  obtain⟨a,vs,rfl,c,rs⟩:=rr;exact⟨a,rfl,.inl ⟨vs,c.imp cT id,k _ _ ρ1 _ H1 q f s<|bV3 c rs⟩⟩
 | _=>exact(show False from q).elim⟩
theorem bF6 {A:AS}:cC1 K A H (Itr lo n) n (λi=> .int (lo+i)):=
 ⟨λ_ _ _ _ h=>h,λ_ _ i x H'' _ _ _ ⟨e,y⟩=>by subst e;subst y;exact⟨.refl _,by simp only[Rep]⟩,λ_ _ _=>aK n⟩
def fQ (ta:UA):UI:=λρ Q=>ta ρ λds ρ1=>match ds with
 | [.int j]=>(-(2^62)<=j/\j<2^62)/\Q j.toNat (λi=> .int (0+i)) ρ1
 | _=>False
def bF7 (ta:UA):UI:=λρ Q=>ta ρ λds ρ1=>match ds with
 | [.int i,.int j]=>(-(2^62)<=i/\i<2^62/\ -(2^62)<=j/\j<2^62)/\Q (j-i).toNat (λk=> .int (i+k)) ρ1
 | _=>False
theorem bL {A:AS}{i:Int}{v:V}(h:Rep K A H (.int i) v):v= .int i:=by simpa only[Rep]using h
theorem cI {a:Expr}{ta:UA}(hg:Gl X "range")(hm:X.mg "range"=none)(ha:PUA X [a] ta)(hs:↥(starEach [a] X.env=[(false,eval a X.env)])):PUI X tg (.Call (.Name "range" p) [a] [] pos) (fQ ta):=
 b78 (d07 hg hm ha hs) λσ H R ⟨C,ρ,Q0,I,h,k⟩=>⟨C,ρ,_,I,h,λds ρ1 vs H1 q f s r=>by
  split at q
  .rename_i j
   obtain⟨v,vr,rfl,rv,rr⟩:=r.uncons;have:=rr.unnil;subst this;have:=bL rv;subst this;obtain⟨⟨h1,h2⟩,q⟩:=q;exact⟨j,rfl,h1,h2,k _ _ ρ1 _ H1 q f s bF6⟩
  .exact q.elim⟩
theorem b25 {a b:Expr}{ta:UA}(hg:Gl X "range")(hm:X.mg "range"=none)(ha:PUA X [a,b] ta)(hs:↥(starEach [a,b] X.env=[(false,eval a X.env),(false,eval b X.env)]))(hs2:↥(starEach [b] X.env=[(false,eval b X.env)])) :
  PUI X tg (.Call (.Name "range" p) [a,b] [] pos) (bF7 ta):=
 b78 (d08 hg hm ha hs hs2) λσ H R ⟨C,ρ,Q0,I,h,k⟩=>⟨C,ρ,_,I,h,λds ρ1 vs H1 q f s r=>by
  split at q
  .rename_i i j
   obtain⟨v,vr,rfl,rv,rr⟩:=r.uncons;obtain⟨w,wr,rfl,rw',rr'⟩:=rr.uncons;have:=rr'.unnil;subst this;have:=bL rv;subst this;have:=bL rw';subst this;obtain⟨hb,q⟩:=q;exact⟨i,j,rfl,hb,k _ _ ρ1 _ H1 q f s bF6⟩
  .exact q.elim⟩
end
section
variable {X:Cx}{a b e o:Expr}{es:List Expr}{pos:Pos}{ta tb te ti:UE}{K:Frag}{C:C0}{ρ ρ':Ev}{σ σ':L2.St}{H H':Hp}{A:AS}
theorem Frz.ow {l:List D}(f:Frz ρ ρ')(h:ρ'[i]? =some (some<|.ow l)):ρ[i]? =some (some<|.ow l):=by
 rcases f.2 i with q| ⟨l',_,q⟩
 .exact q▸h
 .rw[q]at h;cases h
def jS (ρ:Ev)(i:Nat)(Q:List D->Prop):Prop:=match ρ[i]? with
 | some (some<|.ow l)=>Q l
 | _=>False
theorem i9 {Q:List D->Prop}(h:jS ρ i Q): ∃l,ρ[i]? =some (some<|.ow l)/\Q l:=by
 unfold jS at h;split at h
 .rename_i l e
  exact⟨l,e,h⟩
 .exact h.elim
def aR4 (i:Nat)(t:UE):US:=λD ρ=>jS ρ i λ_=>t ρ λb ρ1=>jS ρ1 i λl=>l.length<sizeLine/\D.nx (ρ1.set i<|some<|.ow<|l++[b.d])
theorem jH (i:Nat)(hx:PE X (.Name x p) (yK i))(he:PU X e te)
  (hbase:↥(attributeBase (.Name x p) "append" X.env (eval (.Name x p) X.env)=eval (.Name x p) X.env))
  (hfew:↥(((backTo cpos<|starEach [e] X.env).all (λx=> !x.1)&&(backToKw cpos<|keywordEach [] X.env).all (λx=>x.1.isSome)
   &&decide ([e].length+([]:List Keyword).length+(if([]:List Keyword).isEmpty then 0 else 1)<30))=true))
  (hline:↥((apos.endLine==cpos.line)=true)) (hs:↥(starEach [e] X.env=(false,eval e X.env)::starEach [] X.env)) (hplain:↥((backTo cpos<|starEach [] X.env).any (·.1)=false))
  (hw:↥(swapsWith (.Call (.Attribute (.Name x p) "append" apos) [e] [] cpos) none pos.line X.env=pure false)) :
  PUS X (.Expr (.Call (.Attribute (.Name x p) "append" apos) [e] [] cpos) pos) (aR4 i te):=
 mI (aH3 (cV8 zM PySem.F.slot_list_append PySem.F.type_list_append bU9 hx (c09 he cM4 hs) hbase hfew hline hs hplain) hw) λD σ H ⟨C,ρ,D0,I,h,k⟩=>by
  obtain⟨l,hl,h⟩:=i9 h;obtain⟨a,vs,h1,h2,h3,h4⟩:=I.ow i l hl;refine⟨.ref a,h1,.inl ⟨rfl,vs,SqL.of h2⟩,C,ρ,_,I,h,λb ρ1 v H1 q f s r=> ?_⟩
  obtain⟨l',hl',hz,q⟩:=i9 q;have e:=f.ow hl';rw[hl]at e;cases e;have I1:=(I.frz f).same s;obtain⟨a',vs',g1,g2,g3,g4⟩:=I1.ow i l hl';rw[h1]at g1;cases g1;refine⟨a,vs',v,rfl,rfl,g2,by rw[<-g4.length];exact hz,k.nx _ _ _ q ?_⟩
  exact I1.write hl' h1 (g4.append<|.cons (r.rep λa z=>I.avF f z) .nil)
def vU (i:Nat)(t ti:UE):US:=λD ρ=>t ρ λb ρ1=>jS ρ1 i λ_=>ti ρ1 λj ρ2=>jS ρ2 i λl=>match j.d with
 | .int k=>(match ixN l.length k with
  | some n=>D.nx (ρ2.set i<|some<|.ow<|l.set n b.d)
  | none=>False)
 | _=>False
theorem iG (i:Nat)(hx:PE X (.Name x p) (yK i))(he:PU X e te)(hi:PU X ix ti)
  (ha: ∀v,assign (.Subscript (.Name x p) ix tpos) X.env v=(do
   let ov<-holding [v] (eval (.Name x p) X.env)
   let iv<-holding [v,ov] (eval ix X.env)
   standAt tpos
   holding [v,ov,iv] (setItem ov iv v)
   release [v,ov,iv] []):=by intro _;rfl)
  (hs:↥(swapsWithSole [.Subscript (.Name x p) ix tpos] e pos.line X.env=pure false)) (hw:↥(swappedStores [.Subscript (.Name x p) ix tpos] e X.env=pure none))
  (h1:↥((assignEach [.Subscript (.Name x p) ix tpos] X.env).map (·.2)=[assign (.Subscript (.Name x p) ix tpos) X.env])):PUS X (.Assign [.Subscript (.Name x p) ix tpos] e pos) (vU i te ti):=
 mI (cL6 he (cL5 hx hi aV4 ha) hs hw h1) λD σ H ⟨C,ρ,D0,I,h,k⟩=>⟨C,ρ,_,I,h,λb ρ1 v H1 q f s r=>by
  obtain⟨l,hl,q⟩:=i9 q;have I1:=(I.frz f).same s;obtain⟨a,vs,h1,h2,h3,h4⟩:=I1.ow i l hl;refine⟨.ref a,h1,C,ρ1,_,I1,q,λj ρ2 w H2 q2 f2 s2 r2=> ?_⟩
  obtain⟨l',hl',q2⟩:=i9 q2;have e:=f2.ow hl';rw[hl]at e;cases e;have I2:=(I1.frz f2).same s2;obtain⟨a',vs',g1,g2,g3,g4⟩:=I2.ow i l hl';rw[h1]at g1;cases g1;have rj:=r2.rep λa z=>I1.avF f2 z
  generalize j.d=dj at q2 rj;split at q2
  .rename_i kk
   have:=bL rj;subst this;split at q2
   .rename_i n hn
    refine⟨a,vs',kk,n,rfl,rfl,g2,by rw[<-g4.length];exact hn,k.nx _ _ _ q2 ?_⟩
    exact I2.write hl' h1 (g4.set n<|(r.rep λa z=>I.avF f z).mono<|.sub s2 λa=>f2.av)
   .exact q2.elim
  .exact q2.elim⟩
def gIx (d i:D)(Q:D->Prop):Prop:=match oG d,i with
 | some l,.int k=>(match atI l k with
  | some x=>Q x
  | none=>False)
 | _,_=>False
def uIx (t:UV)(ti:UE):UE:=λρ Q=>t ρ λd ρ1=>ti ρ1 λi ρ2=>gIx d i.d λx=>Q (.pu x) ρ2
theorem bX.atI {l:List D}{vs:List V}{k:Int}{x:D}(r:bX K A H l vs)(h:atI l k=some x): ∃v,L2.atI vs k=some v/\Rep K A H x v:=by
 unfold L2.atI at h⊢;cases e:ixN l.length k with
 | none=>rw[e]at h;cases h
 | some j=>
  rw[e]at h;rw[<-r.length,e];exact r.get h
theorem cM9.mono {A':AS}(s:gN H H')(h: ∀a,A' a->A a): ∀{d:D} {v:V},cM9 K A H d v->cM9 K A' H' d v
 | .non,_,r=>Rep.mono (.sub s h) r
 | .bl _,_,r=>Rep.mono (.sub s h) r
 | .int _,_,r=>Rep.mono (.sub s h) r
 | .str _,_,r=>Rep.mono (.sub s h) r
 | .ty _,_,r=>Rep.mono (.sub s h) r
 | .tup _,_,⟨a,vs,e,c,r⟩=>⟨a,vs,e,c.imp (λc=>c.imp (s _ _) λ⟨o,z⟩=>⟨o,s _ _ z⟩) id,r.mono<|.sub s h⟩
 | .lst _,_,⟨a,vs,e,c,r⟩=>⟨a,vs,e,s _ _ c,r.mono<|.sub s h⟩
 | .rol _,_,⟨a,vs,e,c,r⟩=>⟨a,vs,e,s.seq c,r.mono<|.sub s h⟩
 | .obj _ _ _,_,r=>Rep.mono (.sub s h) r
 | .adr _,_,r=>Rep.mono (.sub s h) r
 | .xob _ _ _ _,_,r=>Rep.mono (.sub s h) r
theorem cM9.seq {d:D}{v:V}{l:List D}(r:cM9 K A H d v)(h:oG d=some l): ∃a vs,v= .ref a/\(SqL K H a vs\/SqT K H a vs)/\bX K A H l vs:=by
 cases d with
 | tup l'=>cases h;obtain⟨a,vs,e,c,r⟩:=r;exact⟨a,vs,e,.inr c,r⟩
 | lst l'=>cases h;obtain⟨a,vs,e,c,r⟩:=r;exact⟨a,vs,e,.inl<|SqL.of c,r⟩
 | rol l'=>cases h;obtain⟨a,vs,e,c,r⟩:=r;exact⟨a,vs,e,.inl c,r⟩
 | _=>cases h
theorem dR6 {d i:D}{Q:D->Prop}(h:gIx d i Q): ∃l k x,oG d=some l/\i= .int k/\atI l k=some x/\Q x:=by
 unfold gIx at h;split at h
 .rename_i l k e
  split at h
  .rename_i x ex
   exact⟨l,k,x,e,rfl,ex,h⟩
  .exact h.elim
 .exact h.elim
theorem a77 {t:UV}(ha:PUV X a t)(hb:PU X b ti)(hs:a15 b):PU X (.Subscript a b pos) (uIx t ti):=
 jA (cV6 ix_seq ha hb hs) λσ H Q ⟨C,ρ,Q0,I,h,k⟩=>⟨C,ρ,_,I,h,λd ρ1 v H1 q f s r=>by
  have I1:=(I.frz f).same s;refine⟨C,ρ1,_,I1,q,λi ρ2 w H2 q2 f2 s2 r2=> ?_⟩
  obtain⟨l,kk,x,e1,e2,e3,q2⟩:=dR6 q2;have ri:=r2.rep λa z=>I1.avF f2 z
  rw[e2]at ri;have:=bL ri;subst this;obtain⟨a,vs,rfl,c,rs⟩:=(r.mono s2 λa=>f2.av).seq e1
  obtain⟨u,e4,r4⟩:=rs.atI e3;have fin:=k (.pu x) ρ2 u H2 q2 (f.trans f2) (s.trans s2) r4;rcases c with c|c
  .exact .inl ⟨a,vs,kk,u,rfl,rfl,c,e4,fin⟩
  .exact .inr (.inl ⟨a,vs,kk,u,rfl,rfl,c,e4,fin⟩)⟩
abbrev UO:=Ev->(Option Int->Ev->Prop)->Prop
def lO (K:Frag)(t:UO):TO:=λσ H Q=> ∃C ρ Q0,EOk K C ρ σ H/\t ρ Q0/\ ∀i ρ' H',Q0 i ρ'->Frz ρ ρ'->gN H H'->Q i H'
def PUO (X:Cx)(e:Option Expr)(t:UO):Prop:=PO X e (lO X.K t)
theorem e16 {e:Option Expr}{t t':TO}(h:PO X e t)(i: ∀σ H Q,t' σ H Q->t σ H Q):PO X e t':=λpins s σ H Q I q=>h pins s σ H Q I (i σ H Q q)
def jE:UO:=λρ Q=>Q none ρ
def mJ (t:UE):UO:=λρ Q=>t ρ λb ρ1=>match b.d with
 | .int i=>Q (some i) ρ1
 | _=>False
theorem jI:PUO X none jE:=e16 dQ9 λσ H Q ⟨C,ρ,Q0,I,h,k⟩=>k _ _ _ h (.refl _) (.refl _)
theorem gO (h:PU X e te):PUO X (some e) (mJ te):=e16 (dR0 h) λσ H Q ⟨C,ρ,Q0,I,h,k⟩=>⟨C,ρ,_,I,h,λb ρ1 v H1 q f s r=>by
 have r':=r.rep λa z=>I.avF f z
 generalize b.d=d at q r';split at q
 .exact⟨_,bL r',k _ _ _ q f s⟩
 .exact q.elim⟩
nonrec def cutD (l:List D)(lo hi:Option Int):List D:=(l.drop<|HT.sIx l.length 0 lo).take (HT.sIx l.length l.length hi-HT.sIx l.length 0 lo)
theorem bX.cut {l:List D}{vs:List V}(r:bX K A H l vs)(lo hi:Option Int):bX K A H (cutD l lo hi) (d16 vs lo hi):=by
 unfold cutD d16;rw[r.length];exact(r.drop _).take _
def gSl (d:D)(lo hi:Option Int)(Q:B->Prop):Prop:=match d with
 | .tup l=> ¬(HT.sIx l.length 0 lo=0/\HT.sIx l.length l.length hi=l.length)/\Q (.pu<|.tup<|cutD l lo hi)
 | .lst l=>Q (.ow<|cutD l lo hi)
 | .rol l=>Q (.ow<|cutD l lo hi)
 | _=>False
def uSl (t:UV)(tl th:UO):UE:=λρ Q=>t ρ λd ρ1=>tl ρ1 λlo ρ2=>th ρ2 λhi ρ3=>gSl d lo hi λb=>Q b ρ3
theorem kC {t:UV}{tl th:UO}{lo hi:Option Expr}(he:PUV X e t)(hl:PUO X lo tl)(hu:PUO X hi th):PU X (.Subscript e (.Slice lo hi none p2) pos) (uSl t tl th):=
 jA (cB2 (cV7.or d94) he hl hu) λσ H Q ⟨C,ρ,Q0,I,h,k⟩=>⟨C,ρ,_,I,h,λd ρ1 v H1 q f s r=>by
  have I1:=(I.frz f).same s;refine⟨C,ρ1,_,I1,q,λl2 ρ2 H2 q2 f2 s2=> ?_⟩
  have I2:=(I1.frz f2).same s2;refine⟨C,ρ2,_,I2,q2,λh3 ρ3 H3 q3 f3 s3=> ?_⟩
  have I3:=(I2.frz f3).same s3;have s13:=s2.trans s3;have sAll:=s.trans s13;have fAll:=f.trans (f2.trans f3);have r':=r.mono s13 λa z=>f2.av (f3.av z)
  cases d with
  | tup l=>
   obtain⟨hw,q3⟩:=q3;obtain⟨a,vs,rfl,c,rs⟩:=r';exact .inr ⟨a,vs,rfl,c,by rw[<-rs.length];exact hw,λp n=>k _ ρ3 _ _ q3 fAll (sAll.trans<|eS n _) (iR (λa z=>I3.avSome z) n<|rs.cut l2 h3)⟩
  | lst l=>
   obtain⟨a,vs,rfl,c,rs⟩:=r';exact .inl ⟨a,vs,rfl,SqL.of c,λp n=>k _ ρ3 _ _ q3 fAll (sAll.trans<|eS n _) (hX sAll n<|rs.cut l2 h3)⟩
  | rol l=>
   obtain⟨a,vs,rfl,c,rs⟩:=r';exact .inl ⟨a,vs,rfl,c,λp n=>k _ ρ3 _ _ q3 fAll (sAll.trans<|eS n _) (hX sAll n<|rs.cut l2 h3)⟩
  | _=>exact(show False from q3).elim⟩
def Sm (i:Int):Prop:=i.natAbs<2^9000
theorem Sm.log {i:Int}(h:Sm i):i.natAbs.log2<9000:=by
 by_cases z:i.natAbs=0
 .rw[z];decide
 .exact(Nat.log2_lt z).mpr h
def eB (d e:D)(Q:B->Prop):Prop:=match d,e with
 | .int i,.int j=>Q (.pu<|.int<|i+j)
 | .lst l,.lst m=>l.length+m.length<=sizeLine/\Q (.ow<|l++m)
 | .tup l,.tup m=>l.length+m.length<=sizeLine/\Q (.pu<|.tup<|l++m)
 | _,_=>False
theorem dA4:OpR X (binaryOp .Add) (λx y H Q=> ∃a b ys,x= .ref a/\y= .ref b/\SqT X.K H a []/\SqT X.K H b ys/\Q (.ref b) H):=by
 intro pins s σ H x y v u Q I rx ry h;obtain⟨a,b,ys,rfl,rfl,ha,hb,q⟩:=h;cases rx;cases ry;obtain⟨its,r1,p1,_⟩:=I.tuple ha;obtain⟨its2,r2,p2,_⟩:=I.tuple hb;have e:its=[]:=by
  have:=r1.length;exact tX.mp this.symm
 subst e;obtain⟨⟨cls,dd,data,sl⟩,ho,hc,n,hd⟩:=id p1;obtain⟨⟨cls2,dd2,data2,sl2⟩,ho2,hc2,n2,hd2⟩:=id p2;subst hc hd hc2 hd2;exact concat_meets ⟨_,ho,rfl⟩ ⟨_,ho2,rfl⟩ aQ4 seq_tuple_add aO0 aN5 (aN2 _ _) (tuple_addW0 a b _ its2.toArray n n2 dd dd2 sl sl2 rfl) ⟨ho,ho2,⟨.ref b,H,I,rfl,q⟩⟩
theorem aJ4 {i:Int}:sB K A H H' (.pu<|.int i) (.int i):=by
 show Rep K A H' (.int i) (.int i)
 simp only[Rep]
theorem bV:OpU X (binaryOp .Add) eB:=by
 intro A H d e v w Q0 Q hA r1 r2 g k;unfold eB at g;split at g
 .rename_i i j
  exact⟨_,op_add,i,j,bL r1,bL r2,k _ _ H g (.refl _) aJ4⟩
 .rename_i l m
  obtain⟨a,vs,rfl,n1,c1,rs1⟩:=r1;obtain⟨b,ws,rfl,n2,c2,rs2⟩:=r2;exact⟨_,op_cat,a,b,vs,ws,rfl,rfl,c1,c2,by rw[<-rs1.length,<-rs2.length];exact g.1,λp n=>k _ _ _ g.2 (eS n _) (hX (.refl _) n<|rs1.append rs2)⟩
 .rename_i l m
  obtain⟨a,vs,rfl,c1,rs1⟩:=r1;obtain⟨b,ws,rfl,c2,rs2⟩:=r2;obtain⟨hz,g⟩:=g
  by_cases hn:l=[]
  .subst hn;have e1:vs=[]:=rs1.unnil;subst e1;refine⟨_,dA4,a,b,ws,rfl,rfl,c1.imp cT id,c2.imp cT id,k _ _ H g (.refl _) ?_⟩;exact⟨b,ws,rfl,c2,rs2⟩
  refine⟨_,dR1,a,b,vs,ws,rfl,rfl,c1.imp cT id,c2.imp cT id,λz=>hn ?_,by rw[<-rs1.length,<-rs2.length];exact hz,λz=> ?_,λz p n=> ?_⟩
  .have:=rs1.length;rw[z]at this;exact tX.mp this
  .have e2:=rs2.length;rw[z]at e2;have e3:m=[]:=tX.mp e2;subst e3;rw[kY]at g;refine k _ _ H g (.refl _) ?_;exact⟨a,vs,rfl,c1,rs1⟩
  .exact k _ _ _ g (eS n _) (iR hA n<|rs1.append rs2)
 .exact g.elim
def gI2 (f:Int->Int->(B->Prop)->Prop)(d e:D)(Q:B->Prop):Prop:=match d,e with
 | .int i,.int j=>f i j Q
 | _,_=>False
theorem t9 {f:Int->Int->(B->Prop)->Prop}{d e:D}{Q:B->Prop}(h:gI2 f d e Q): ∃i j,d= .int i/\e= .int j/\f i j Q:=by
 unfold gI2 at h;split at h
 .exact⟨_,_,rfl,rfl,h⟩
 .exact h.elim
def gSub:D->D->(B->Prop)->Prop:=gI2 λi j Q=>Q (.pu<|.int<|i-j)
theorem bK:OpU X (binaryOp .Sub) gSub:=by
 intro A H d e v w Q0 Q hA r1 r2 g k;obtain⟨i,j,rfl,rfl,g⟩:=t9 g;exact⟨_,op_sub,i,j,bL r1,bL r2,k _ _ H g (.refl _) aJ4⟩
theorem cW0 {i:Int}(h:Sm i):Builtin.Int.intBits i<=2^20:=aH (PyProof.Rows.intBits_le h) ac
def dE (d e:D)(Q:B->Prop):Prop:=match d,e with
 | .int i,.int j=>(bQ0 i j\/(Sm i/\Sm j))/\Q (.pu<|.int<|i*j)
 | .lst l,.int k=>(-(2^63)<=k/\k<2^63/\l.length*k.toNat<=sizeLine)/\Q (.ow (replicate k.toNat l).flatten)
 | _,_=>False
theorem dR7:OpR X (binaryOp .Mult) (rI (λi j=>bQ0 i j\/(Sm i/\Sm j)) λi j=> .int (i*j)):=opI λ_ _ _ _ _ _ _ hc q=>mul_int q (hc.elim bQ0.ok λh=> .of_bits (cW0 h.1) (cW0 h.2))
theorem bF:OpU X (binaryOp .Mult) dE:=by
 intro A H d e v w Q0 Q hA r1 r2 g k;unfold dE at g;split at g
 .rename_i i j
  exact⟨_,dR7,i,j,bL r1,bL r2,g.1,k _ _ H g.2 (.refl _) aJ4⟩
 .rename_i l kk
  have:=bL r2;subst this;obtain⟨a,vs,rfl,n1,c1,rs1⟩:=r1;obtain⟨⟨h1,h2,h3⟩,g⟩:=g;exact⟨_,op_rep,a,kk,vs,rfl,rfl,c1,h1,h2,by rw[<-rs1.length];exact h3,λp n=>k _ _ _ g (eS n _) (hX (.refl _) n<|rs1.rep _)⟩
 .exact g.elim
def aJ5:D->D->(B->Prop)->Prop:=gI2 λi j Q=>(j≠0/\Sm j)/\Q (.pu<|.int<|i.fdiv j)
def kP:D->D->(B->Prop)->Prop:=gI2 λi j Q=>j≠0/\Q (.pu<|.int<|i.fmod j)
theorem dR8:OpR X (binaryOp .FloorDiv) (rI (λ_ j=>j≠0/\Sm j) λi j=> .int (i.fdiv j)):=opI λ_ _ _ _ _ _ _ hc q=>floordiv_int hc.1 q (.inl<|PyProof.noPylong_of_log2 hc.2.log)
theorem qG:OpU X (binaryOp .FloorDiv) aJ5:=by
 intro A H d e v w Q0 Q hA r1 r2 g k;obtain⟨i,j,rfl,rfl,g⟩:=t9 g;exact⟨_,dR8,i,j,bL r1,bL r2,g.1,k _ _ H g.2 (.refl _) aJ4⟩
theorem fN:OpU X (binaryOp .Mod) kP:=by
 intro A H d e v w Q0 Q hA r1 r2 g k;obtain⟨i,j,rfl,rfl,g⟩:=t9 g;exact⟨_,dQ1,i,j,bL r1,bL r2,g.1,k _ _ H g.2 (.refl _) aJ4⟩
def bA6:D->D->(B->Prop)->Prop:=gI2 λi j Q=>dQ0 i j/\Q (.pu<|.int<|i^j.toNat)
theorem wN:OpU X (binaryOp .Pow) bA6:=by
 intro A H d e v w Q0 Q hA r1 r2 g k;obtain⟨i,j,rfl,rfl,g⟩:=t9 g;exact⟨_,op_pow,i,j,bL r1,bL r2,g.1,k _ _ H g.2 (.refl _) aJ4⟩
def mT (p:Int->Int->Bool):D->D->(B->Prop)->Prop:=gI2 λi j Q=>Q (.pu<|.bl<|p i j)
theorem c23 {p:Int->Int->Bool}(ho:OpR X (compareOp op) (rI0 λi j=> .bl (p i j))):OpU X (compareOp op) (mT p):=by
 intro A H d e v w Q0 Q hA r1 r2 g k;obtain⟨i,j,rfl,rfl,g⟩:=t9 g;exact⟨_,ho,i,j,bL r1,bL r2,k _ _ H g (.refl _) l9⟩
theorem aA1:OpU X (compareOp .Lt) (mT λi j=>decide (i<j)):=c23 op_lt
theorem dA5:OpU X (compareOp .LtE) (mT λi j=>decide (i<=j)):=c23 op_le
theorem b79:OpU X (compareOp .Gt) (mT λi j=>decide (j<i)):=c23 op_gt
theorem dA6:OpU X (compareOp .GtE) (mT λi j=>decide (j<=i)):=c23 op_ge
def fS (neg:Bool)(d e:D)(Q:B->Prop):Prop:=match d,e with
 | .int i,.int j=>Q (.pu<|.bl<|neg ^^ decide (i=j))
 | .bl i,.bl j=>Q (.pu<|.bl<|neg ^^ decide (i=j))
 | .str i,.str j=>Q (.pu<|.bl<|neg ^^ decide (i=j))
 | _,_=>False
theorem vV {b:Bool}{v:V}(h:Rep K A H (.bl b) v):v= .bl b:=by simpa only[Rep]using h
theorem aV8 {b:Str}{v:V}(h:Rep K A H (.str b) v):v= .str b:=by simpa only[Rep]using h
theorem eY:OpU X (compareOp .Eq) (fS false):=by
 intro A H d e v w Q0 Q hA r1 r2 g k;unfold fS at g;split at g
 .rw[bL r1,bL r2];exact⟨_,d83,rfl,k _ _ H g (.refl _) (by rw[bC6,l4];exact l9)⟩
 .rw[vV r1,vV r2];exact⟨_,d83,rfl,k _ _ H g (.refl _) (by rw[c08,l4];exact l9)⟩
 .rw[aV8 r1,aV8 r2];exact⟨_,d83,rfl,k _ _ H g (.refl _) (by rw[bC7,l4];exact l9)⟩
 .exact g.elim
theorem a78:OpU X (compareOp .NotEq) (fS true):=by
 intro A H d e v w Q0 Q hA r1 r2 g k;unfold fS at g;split at g
 .rw[bL r1,bL r2];exact⟨_,d84,rfl,k _ _ H g (.refl _) (by rw[bC6,pW];exact l9)⟩
 .rw[vV r1,vV r2];exact⟨_,d84,rfl,k _ _ H g (.refl _) (by rw[c08,pW];exact l9)⟩
 .rw[aV8 r1,aV8 r2];exact⟨_,d84,rfl,k _ _ H g (.refl _) (by rw[bC7,pW];exact l9)⟩
 .exact g.elim
end
section
variable {X:Cx}{a b e o:Expr}{es:List Expr}{pos:Pos}{ta tb te ti:UE}{K:Frag}{C:C0}{ρ ρ':Ev}{σ σ':L2.St}{H H':Hp}{A:AS}
def mM (t:UE):UE:=λρ Q=>t ρ λb ρ1=>match b.d with
 | .int i=>Q (.pu<|.int<|-i) ρ1
 | _=>False
theorem gX (h:PU X a ta):PU X (.UnaryOp .USub a pos) (mM ta):=
 jA (pe_un un_neg h) λσ H Q ⟨C,ρ,Q0,I,h,k⟩=>⟨C,ρ,_,I,h,λb ρ1 v H1 q f s r=>by
  have r':=r.rep λa z=>I.avF f z
  generalize b.d=d at q r';split at q
  .exact⟨_,bL r',k _ _ _ _ q f s aJ4⟩
  .exact q.elim⟩
theorem cN4:IpU X .Add (gI2 λi j Q=>Q (.pu<|.int<|i+j)):=by
 intro A H d e v w Q0 Q hA r1 r2 g k;obtain⟨i,j,rfl,rfl,g⟩:=t9 g;exact⟨_,ip_add,i,j,bL r1,bL r2,k _ _ H g (.refl _) aJ4⟩
theorem iu_sub:IpU X .Sub (gI2 λi j Q=>Q (.pu<|.int<|i-j)):=by
 intro A H d e v w Q0 Q hA r1 r2 g k;obtain⟨i,j,rfl,rfl,g⟩:=t9 g;exact⟨_,d81,i,j,bL r1,bL r2,k _ _ H g (.refl _) aJ4⟩
def g1 (f:D->(B->Prop)->Prop)(ds:List D)(Q:B->Prop):Prop:=match ds with
 | [d]=>f d Q
 | _=>False
def g2 (f:D->D->(B->Prop)->Prop)(ds:List D)(Q:B->Prop):Prop:=match ds with
 | [d,e]=>f d e Q
 | _=>False
theorem a16 {f:D->(B->Prop)->Prop}{ds:List D}{Q:B->Prop}{vs:List V}(h:g1 f ds Q)(r:bX K A H ds vs): ∃d v,ds=[d]/\vs=[v]/\Rep K A H d v/\f d Q:=by
 unfold g1 at h;split at h
 .obtain⟨v,vr,rfl,rv,rr⟩:=r.uncons;have:=rr.unnil;subst this;exact⟨_,v,rfl,rfl,rv,h⟩
 .exact h.elim
theorem cN5 {f:D->D->(B->Prop)->Prop}{ds:List D}{Q:B->Prop}{vs:List V}(h:g2 f ds Q)(r:bX K A H ds vs): ∃d e v w,ds=[d,e]/\vs=[v,w]/\Rep K A H d v/\Rep K A H e w/\f d e Q:=by
 unfold g2 at h;split at h
 .obtain⟨v,vr,rfl,rv,rr⟩:=r.uncons;obtain⟨w,wr,rfl,rw',rr'⟩:=rr.uncons;have:=rr'.unnil;subst this;exact⟨_,_,v,w,rfl,rfl,rv,rw',h⟩
 .exact h.elim
def dR9 (f:Int->(B->Prop)->Prop)(d:D)(Q:B->Prop):Prop:=match d with
 | .int i=>f i Q
 | _=>False
theorem dA7 {f:Int->(B->Prop)->Prop}{d:D}{Q:B->Prop}(h:dR9 f d Q): ∃i,d= .int i/\f i Q:=by
 unfold dR9 at h;split at h
 .exact⟨_,rfl,h⟩
 .exact h.elim
def cN6:List D->(B->Prop)->Prop:=g1 (dR9 λi Q=>Q (.pu<|.int<|if i<0 then -i else i))
theorem bF8:uN X (.builtin "abs") cN6:=by
 intro A H ds vs Q0 Q hA r g k;obtain⟨d,v,rfl,rfl,rv,g⟩:=a16 g r;obtain⟨i,rfl,g⟩:=dA7 g;exact⟨_,d86,i,by rw[bL rv],k _ _ H g (.refl _) aJ4⟩
def dA8:List D->(B->Prop)->Prop:=g2 (gI2 λi j Q=>Q (.pu<|.int<|if j>i then j else i))
theorem cN7 (hc:X.calm=true):uN X (.builtin "max") dA8:=by
 intro A H ds vs Q0 Q hA r g k;obtain⟨d,e,v,w,rfl,rfl,rv,rw',g⟩:=cN5 g r;obtain⟨i,j,rfl,rfl,g⟩:=t9 g;exact⟨_,d10 hc,i,j,by rw[bL rv,bL rw'],k _ _ H g (.refl _) aJ4⟩
def gMin:List D->(B->Prop)->Prop:=g2 (gI2 λi j Q=>Q (.pu<|.int<|if j<i then j else i))
theorem cu_min (hc:X.calm=true):uN X (.builtin "min") gMin:=by
 intro A H ds vs Q0 Q hA r g k;obtain⟨d,e,v,w,rfl,rfl,rv,rw',g⟩:=cN5 g r;obtain⟨i,j,rfl,rfl,g⟩:=t9 g;exact⟨_,d11 hc,i,j,by rw[bL rv,bL rw'],k _ _ H g (.refl _) aJ4⟩
def aA2:List D->(B->Prop)->Prop:=g1 λd Q=>match d with
 | .int i=>Q (.pu<|.int i)
 | .bl k=>Q (.pu<|.int<|if k then 1 else 0)
 | _=>False
theorem bF9:uN X (.type "int") aA2:=by
 intro A H ds vs Q0 Q hA r g k;obtain⟨d,v,rfl,rfl,rv,g⟩:=a16 g r;cases d with
 | int i=>exact⟨_,bU2,.inl ⟨i,by rw[bL rv],k _ _ H g (.refl _) aJ4⟩⟩
 | bl c=>exact⟨_,bU2,.inr ⟨c,by rw[vV rv],k _ _ H g (.refl _) aJ4⟩⟩
 | _=>exact(show False from g).elim
nonrec def cC:List D->(B->Prop)->Prop:=g1 λd Q=>match oG d with
 | some l=>Q (.pu<|.tup l)
 | none=>False
theorem cY:uN X (.type "tuple") cC:=by
 intro A H ds vs Q0 Q hA r g k;obtain⟨d,v,rfl,rfl,rv,g⟩:=a16 g r;cases d with
 | tup l=>
  have rv':=rv;obtain⟨a,vs,rfl,c,rs⟩:=rv;exact⟨_,wL,a,vs,rfl,.inr ⟨c.imp cT id,k _ _ H g (.refl _) rv'⟩⟩
 | lst l=>
  obtain⟨a,vs,rfl,n,c,rs⟩:=rv;exact⟨_,wL,a,vs,rfl,.inl ⟨SqL.of c,λp n=>k _ _ _ g (eS n _) (iR hA n rs)⟩⟩
 | rol l=>
  obtain⟨a,vs,rfl,c,rs⟩:=rv;exact⟨_,wL,a,vs,rfl,.inl ⟨c.imp cT id,λp n=>k _ _ _ g (eS n _) (iR hA n rs)⟩⟩
 | _=>exact(show False from g).elim
nonrec def rE:List D->(B->Prop)->Prop:=g1 λd Q=>match oG d with
 | some l=>Q (.ow l)
 | none=>False
theorem aH5:uN X (.type "list") rE:=by
 intro A H ds vs Q0 Q hA r g k;obtain⟨d,v,rfl,rfl,rv,g⟩:=a16 g r;cases e:oG d with
 | none=>simp only[e]at g
 | some l=>
  simp only[e]at g;obtain⟨a,vs,rfl,c,rs⟩:=rv.one.seq e;exact⟨_,c16,a,vs,rfl,c,λp n=>k _ _ _ g (eS n _) (hX (.refl _) n rs)⟩
def iH (t:UV):UE:=λρ Q=>t ρ λd ρ1=>match oG d with
 | some l=>Q (.pu<|.int l.length) ρ1
 | none=>False
theorem dL {t:UV}(ha:PUV X e t)(hg:Gl X "len")(hm:X.mg "len"=none)(hs:↥(starEach [e] X.env=(false,eval e X.env)::starEach [] X.env))
  (hpl:↥((backTo pos<|starEach [] X.env).any (·.1)=false)):PU X (.Call (.Name "len" p) [e] [] pos) (iH t):=
 jA (cB1 c15 hg hm PySem.boot_len (c09 ha cM4 hs) ac ac hs hpl) λσ H Q ⟨C,ρ,Q0,I,h,k⟩=>⟨C,ρ,_,I,h,λd ρ1 v H1 q f s r=>by
  cases e:oG d with
  | none=>simp only[e]at q
  | some l=>
   simp only[e]at q;obtain⟨a,vs,rfl,c,rs⟩:=r.seq e;exact⟨a,vs,rfl,c,k _ _ _ _ q f s (by rw[rs.length];exact aJ4)⟩⟩
def isI:D->String->Option Bool
 | .int _,"int"=>some true
 | .int _,"bool"=>some false
 | .int _,"tuple"=>some false
 | .int _,"list"=>some false
 | .bl _,"bool"=>some true
 | .bl _,"int"=>some true
 | .tup _,"tuple"=>some true
 | .tup _,"int"=>some false
 | .tup _,"list"=>some false
 | .lst _,"list"=>some true
 | .lst _,"tuple"=>some false
 | .lst _,"int"=>some false
 | _,_=>none
theorem aR5 {x:Value}{T:String}{A:Around}
  {P:(Result->Shared->Prop)->Shared->Prop} (hm:Meets (Builtin.«isinstance» ⟨[x,.type T],[]⟩) (λ_ R s=>P R s)) (h:P (λr s'=>match r with| .ok (.ret v)=>Q v s'| .ok _=>False| .error e=>E e s') s) :
  wpAny (model prog w) A (call (.builtin "isinstance") [x,.type T]) Q E s:=
 call_function_any kind_isinstance plain_isinstance entry_isinstance (args_isinstance _ _) (hm _ _ _ _ _ h)
theorem rep_ty {T:String}{v:V}(h:Rep K A H (.ty T) v):v= .ty T:=by simpa only[Rep]using h
def rIsi (K:Frag):List V->Hp->VK->Prop:=λxs H Q=> ∃x T k,xs=[x,.ty T]/\Q (.bl k) H/\
 ((∃i,x= .int i/\((T="int"/\k=true)\/((T="bool"\/T="tuple"\/T="list")/\k=false)))\/(∃c,x= .bl c/\(T="int"\/T="bool")/\k=true)\/
  (∃a ys,x= .ref a/\SqT K H a ys/\((T="tuple"/\k=true)\/((T="int"\/T="list")/\k=false)))\/(∃a ys,x= .ref a/\SqL K H a ys/\((T="list"/\k=true)\/((T="int"\/T="tuple")/\k=false))))
theorem tyT (T:String)(h:T="int"\/T="bool"\/T="tuple"\/T="list"):typeOf (.type T)=pure (.type "type"):=by
 rcases h with rfl|rfl|rfl|rfl<;>first|rfl|decide
theorem uP:oE X (.builtin "isinstance") (rIsi X.K):=by
 intro pins s σ H xs us Q I r h;obtain⟨x,T,k,rfl,q,h⟩:=h;obtain⟨u,w',rfl,rx,ry⟩:=vals2 r;have e:w'=Value.type T:=ry;subst e;rcases h with⟨i,rfl,h⟩| ⟨c,rfl,h,rfl⟩| ⟨a,ys,rfl,hs,h⟩| ⟨a,ys,rfl,hs,h⟩
 .obtain⟨t,rfl⟩:=rx;rcases h with⟨rfl,rfl⟩| ⟨h,rfl⟩
  .exact tZ (qC s i t) (tyT _ ae) PyProof.Rows.sub_int_int ⟨.bl true,H,I,rfl,q⟩
  .rcases h with rfl|rfl|rfl
   .exact aR5 (aO6 ac (tyT _ ae) PyProof.Rows.sub_int_bool) ⟨.bl false,H,I.tok _,rfl,q⟩
   .exact aR5 (aO6 ac (tyT _ ae) PyProof.Rows.sub_int_tuple) ⟨.bl false,H,I.tok _,rfl,q⟩
   .exact aR5 (aO6 ac (tyT _ ae) PyProof.Rows.sub_int_list) ⟨.bl false,H,I.tok _,rfl,q⟩
 .cases rx;rcases h with rfl|rfl
  .exact tZ (PySem.typeIs_bool s c) (tyT _ ae) PyProof.Rows.sub_bool_int ⟨.bl true,H,I,rfl,q⟩
  .exact tZ (PySem.typeIs_bool s c) (tyT _ ae) PyProof.Rows.sub_bool_bool ⟨.bl true,H,I,rfl,q⟩
 .cases rx;obtain⟨its,rv,p,hz⟩:=I.tuple hs;obtain⟨o,ho,hc,_⟩:=id p;rcases h with⟨rfl,rfl⟩| ⟨h,rfl⟩
  .exact tZ p.typeIs (tyT _ ae) PyProof.Rows.sub_tuple_tuple ⟨.bl true,H,I,rfl,q⟩
  .rcases h with rfl|rfl
   .exact aR5 (isinstance_false_tuple ac (tyT _ ae) PyProof.Rows.sub_tuple_int) ⟨⟨o,ho,hc⟩,.bl false,H,I.tok _,rfl,q⟩
   .exact aR5 (isinstance_false_tuple ac (tyT _ ae) PyProof.Rows.sub_tuple_list) ⟨⟨o,ho,hc⟩,.bl false,H,I.tok _,rfl,q⟩
 .cases rx;obtain⟨its,rv,p,hz⟩:=I.list hs;obtain⟨o,n,ho,hc,_⟩:=id p;rcases h with⟨rfl,rfl⟩| ⟨h,rfl⟩
  .exact tZ p.isList.typeIs (tyT _ ae) PyProof.Rows.sub_list_list ⟨.bl true,H,I,rfl,q⟩
  .rcases h with rfl|rfl
   .exact aR5 (isinstance_false_list ac (tyT _ ae) PyProof.Rows.sub_list_int) ⟨⟨o,ho,hc⟩,.bl false,H,I.tok _,rfl,q⟩
   .exact aR5 (isinstance_false_list ac (tyT _ ae) PyProof.Rows.sub_list_tuple) ⟨⟨o,ho,hc⟩,.bl false,H,I.tok _,rfl,q⟩
def cC2:List D->(B->Prop)->Prop:=g2 λd e Q=>match e with
 | .ty T=>(match d with
  | .int _=>if T="int" then Q (.pu<|.bl true)else if T="bool"\/T="tuple"\/T="list" then Q (.pu<|.bl false)else False
  | .bl _=>if T="int"\/T="bool" then Q (.pu<|.bl true)else False
  | .tup _=>if T="tuple" then Q (.pu<|.bl true)else if T="int"\/T="list" then Q (.pu<|.bl false)else False
  | .lst _=>if T="list" then Q (.pu<|.bl true)else if T="int"\/T="tuple" then Q (.pu<|.bl false)else False
  | _=>False)
 | _=>False
theorem b26:uN X (.builtin "isinstance") cC2:=by
 intro A H ds vs Q0 Q hA r g k;obtain⟨d,e,v,w,rfl,rfl,rv,rw',g⟩:=cN5 g r;have no: ∀{c:Bool},Q0 (.pu<|.bl c)->Q (.bl c) H:=λz=>k _ _ H z (.refl _) l9
 cases e with
 | ty T=>
  rw[rep_ty rw'];cases d with
  | int i=>
   rw[bL rv]
   by_cases h1:T="int"
   .simp only[h1]at g;exact⟨_,uP,_,T,true,rfl,no g,.inl ⟨i,rfl,.inl ⟨h1,rfl⟩⟩⟩
   .by_cases h2:T="bool"\/T="tuple"\/T="list"
    .simp only[h1,h2,fZ]at g;exact⟨_,uP,_,T,false,rfl,no g,.inl ⟨i,rfl,.inr ⟨h2,rfl⟩⟩⟩
    .simp only[h1,h2,fZ]at g
  | bl c=>
   rw[vV rv]
   by_cases h1:T="int"\/T="bool"
   .simp only[h1]at g;exact⟨_,uP,_,T,true,rfl,no g,.inr<|.inl ⟨c,rfl,h1,rfl⟩⟩
   .simp only[h1,fZ]at g
  | tup l=>
   obtain⟨a,vs,rfl,c,rs⟩:=rv.one
   by_cases h1:T="tuple"
   .simp only[h1]at g;exact⟨_,uP,_,T,true,rfl,no g,.inr<|.inr<|.inl ⟨a,vs,rfl,c,.inl ⟨h1,rfl⟩⟩⟩
   .by_cases h2:T="int"\/T="list"
    .simp only[h1,h2,fZ]at g;exact⟨_,uP,_,T,false,rfl,no g,.inr<|.inr<|.inl ⟨a,vs,rfl,c,.inr ⟨h2,rfl⟩⟩⟩
    .simp only[h1,h2,fZ]at g
  | lst l=>
   obtain⟨a,vs,rfl,c,rs⟩:=rv.one
   by_cases h1:T="list"
   .simp only[h1]at g;exact⟨_,uP,_,T,true,rfl,no g,.inr<|.inr<|.inr ⟨a,vs,rfl,SqL.of c,.inl ⟨h1,rfl⟩⟩⟩
   .by_cases h2:T="int"\/T="tuple"
    .simp only[h1,h2,fZ]at g;exact⟨_,uP,_,T,false,rfl,no g,.inr<|.inr<|.inr ⟨a,vs,rfl,SqL.of c,.inr ⟨h2,rfl⟩⟩⟩
    .simp only[h1,h2,fZ]at g
  | _=>exact(show False from g).elim
 | _=>exact(show False from g).elim
theorem bV4 {T:String}(hg:Gl X x)(hm:X.mg x=none)(hv:bootBuiltins x=some (.type T))(hn:⇑(x≠"__name__"))(hd:⇑(x∪0)):PU X (.Name x p) (uC<|.ty T):=
 c18 (dP3 (v:= .ty T) hg hm hv rfl hn hd) λA H=>by simp only[Rep]
nonrec def init (N:List Str)(ds:List D):Ev:=ds.map (λd=>some (.pu d))++replicate (N.length-ds.length) none
theorem aA3 {ds:List D}{z:B}(h:(init N ds)[i]? =some (some z)): ∃d,z= .pu d/\ds[i]? =some d:=by
 unfold init at h
 by_cases hi:i<ds.length
 .rw[iW<|by simpa using hi,aZ]at h
  cases e:ds[i]? with
  | none=>rw[e]at h;cases h
  | some d=>rw[e]at h;cases h;exact⟨d,rfl,rfl⟩
 .rw[jW<|by simpa using hi,pJ]at h
  split at h<;>cases h
theorem c24 {ds:List D}{vs:List V}(hA: ∀a,A a->H a≠none)(r:bX K A H ds vs):EOk K ⟨H,A⟩ (init N ds) (L2.start N vs) H:=by
 have own: ∀a,¬Own (init N ds) (L2.start N vs) a:=λa ⟨i,l,h1,_⟩=>by
  obtain⟨d,e,_⟩:=aA3 h1;cases e
 refine⟨?_,λi d h=> ?_,λi l h=> ?_,λi j l l' a h=> ?_,λi l h=> ?_,.refl _,hA⟩
 .unfold init L2.start;simp[r.length]
 .obtain⟨d',e,e2⟩:=aA3 h;cases e;obtain⟨v,h1,h2⟩:=r.get e2;refine⟨v,?_,h2.mono<|.sub (.refl _) λa z=>z.elim id λz=>absurd z (own a)⟩
  unfold L2.start;have hv:i<vs.length:=(gG.mp h1).1;rw[iW<|by simpa using hv,aZ,h1]
  rfl
 .obtain⟨d',e,_⟩:=aA3 h;cases e
 .obtain⟨d',e,_⟩:=aA3 h;cases e
 .obtain⟨d',e,_⟩:=aA3 h;cases e
theorem c25 {K:Frag}{ps:List Str}(F:Fun K x qual st f fd)(S:aY N ps (aF st))
  (len: ∀ds Q,φ ds Q->ds.length=ps.length)
  (body: ∀(cdv:Value) (A:Around) (outer:List Env) (s:Shared) (H:Hp) (E:XK),i8 k (A.deeper<|envOfC qual (aF st) s.heap.objs.size f cdv)->
   ∃t,qE (vQ CX0 P w K mg base N qual (aF st) f cdv A outer s H E).nox (eK st) t/\ ∀ds Q,φ ds Q->t {Q with} (init N ds)) :
  sZ P w K mg base CX0 (k+1) f fd ps (spP K φ):=by
 refine F.ok S (λvs H Q E h=> ?_) (λcdv A outer s H vs Q E hr h=> ?_)
 .obtain⟨A,ds,Q0,_,r,h,_⟩:=h;rw[<-r.length];exact len ds Q0 h
 .obtain⟨A',ds,Q0,hA,r,h,q⟩:=h;obtain⟨t,ht,hq⟩:=body cdv A outer s H E hr;refine⟨_,ht,⟨H,A'⟩,init N ds,_,c24 hA r,hq ds Q0 h,⟨λρ σ H' z I=> ?_,λb v H' z s r=>q b v H' z s r,λ_ _ _ z=>z.elim,λ_ _ _ z=>z.elim⟩⟩
  exact q _ _ H' z I.ext (show Rep _ _ _ _ _ by simp only[Rep])
end
structure Fn (P:Program)(w:World)(K:Frag)(mg:Str->Option Value)(base:Heap)(x:Str)(ps:List Str)(k:Nat)(φ:Φ):Prop where
 ex: ∃f fd,sZ P w K mg base CX0 k f fd ps (spP K φ)/\Binds K fd ps []/\keepIn K (.ref f)=true/\mg x=some (.ref f)
section
variable {X:Cx}{e:Expr}{es:List Expr}{pos:Pos}
theorem aK4 {ps:List Str}{t:UA}(F:Fn X.prog X.w X.K X.mg X.base x ps k φ)(hr:i8 k' X.A)(hk:k<=k')(hg:Gl X x)(ha:PUA X (e::es) t)(hdb:⇑(x∪0))
  (he:↥(starEach (e::es) X.env=(false,eval e X.env)::starEach es X.env)) (hpl:↥((backTo pos<|starEach es X.env).any (·.1)=false)):PU X (.Call (.Name x p) (e::es) [] pos) (aR φ t):=by
 obtain⟨f,fd,G,b,kp,m⟩:=F.ex;exact dR4 (E:=E0) G (hr.mono hk) hg m kp b (λ_ _ _ _ _ _ _ h=>h.elim) ha hdb he hpl
theorem dA9 {ps:List Str}(F:Fn X.prog X.w X.K X.mg X.base x ps k φ)(hr:i8 k' X.A)(hk:k<=k')(hg:Gl X x)(hdb:⇑(x∪0)):PU X (.Call (.Name x p) [] [] pos) (aR φ aL):=by
 obtain⟨f,fd,G,b,kp,m⟩:=F.ex;exact dA1 (E:=E0) G (hr.mono hk) hg m kp b (λ_ _ _ _ _ _ _ h=>h.elim) hdb
theorem il (hn:X.N.length=n)(h:i<n): ∀pins σ H s,Inv X pins σ H s->i<σ.length:=λ_ _ _ _ I=>by rw[I.len,hn];exact h
theorem il2 (hn:X.N.length=n)(h:i<n)(h':j<n): ∀pins σ H s,Inv X pins σ H s->i<σ.length/\j<σ.length:=λ_ _ _ _ I=>by rw[I.len,hn];exact⟨h,h'⟩
end
theorem Fn.mk' {ps:List Str}(F:Fun K x qual st f fd)(m:mg x=some (.ref f))(b:Binds K fd ps [])(S:aY N ps (aF st))
  (len: ∀ds Q,φ ds Q->ds.length=ps.length) {t:US}
  (der: ∀(cdv:Value) (A:Around) (outer:List Env) (s:Shared) (H:Hp) (E:XK),i8 k (A.deeper<|envOfC qual (aF st) s.heap.objs.size f cdv)->qE (vQ CX0 P w K mg base N qual (aF st) f cdv A outer s H E).nox (eK st) t)
  (rd: ∀ds Q,φ ds Q->t {Q with} (init N ds)):Fn<$>x ps (k+1) φ:=
 ⟨f,fd,c25 F S len λcdv A outer s H E hr=>⟨t,der cdv A outer s H E hr,rd⟩,b,F.kp,m⟩
def cC3:Φ:=λds Q=> ∃ns:List Int,ds=[.rol<|ns.map .int]/\ns.length<=63/\Q (.pu<|.bl true)
theorem bV5 {K:Frag}{A:AS}{H:Hp}: ∀ns:List Int,bX K A H (ns.map .int) (ns.map V.int)
 | []=> .nil
 | n::ns=> .cons (by simp only[Rep]) (bV5 ns)
theorem law_sp {H:Hp}{ns:List Int}(hl:ns.length<=63)(hS:SqL K H a (ns.map V.int)):spP K cC3 [.ref a] H (λv _=>v= .bl true) (λ_ _ _=>False):=by
 refine⟨λ_=>False,[.rol<|ns.map .int],λb=>b= .pu (.bl true),λ_ z=>z.elim,.cons ?_ .nil,⟨ns,rfl,hl,rfl⟩,λb v H' q s r=> ?_⟩
 .simp only[Rep];exact⟨a,_,rfl,hS.imp (λz=>⟨λz=>z,z⟩) id,bV5 ns⟩
 .subst q;have r':Rep K (λ_=>False) H' (.bl true) v:=r
  exact vV r'
theorem walkM {l:PySem.W.OpenLaw}{XP:(Str->Option Value)->Heap->Prop}{d:DefRec}{K:Params->Frag}(hn:l.most=some 63)(hdf:d.params.defaults=[])(hr:i8 k callerA)
  (hY: ∀(w:World) (h:Heap),YP w h->(K w.params).In h)
  (F: ∀(w:World) (mg:Str->Option Value) (fa:Addr) (h:Heap),(K w.params).In h->h.Ns mainGlobals mg->mg d.name=some (.ref fa)->
   ∃fd:FuncData,(∀(s:Shared) (u:Value),BindsTo s fd ⟨[u],[]⟩ [(x,u)])/\ ∀base:Heap,(K w.params).In base->base.Ns mainGlobals mg->sZ l.prog w (K w.params) mg base CX0 k fa fd [x] (spP (K w.params) cC3)) :
  PySem.W.WalkO q loose XP YP l.row.toRowW d [] (λf vs=>PySem.call f vs):=
 L2.walk_of hn ac hdf hr hY F (λ_ _ a ns hl _ hS=>law_sp hl hS) λ_ _ _ _ _ z=>z
end M
section
namespace L2
nonrec def cA (X:Cx)(N:List Str)(scope:Scope)(cl:List (Str×Addr))(C:Addr)(s:Shared)(H:Hp)(fp:List Addr)(pins:List (Addr×Obj)):Cx where
 prog:=X.prog
 w:=X.w
 K:=X.K
 mg:=X.mg
 base:=X.base
 A:=X.A
 N:=N
 s₀:=s
 H₀:=H
 env:=compEnvC scope cl C X.env
 outer:=X.stack
 stack:=X.stack
 ex:=fp
 fn:=λx=>scope.names.lookup x==some .cell
 calm:=X.calm
 pn:=X.pn++pins
 xe:=λ_ _=>False
theorem a17 {env:Env}: ∀(names:List (Str×NameKind)),(∀y∈names,y.2= .free-> ∃c,env.cells.lookup y.1=some c)-> ∀cs:List (Str×Addr),(∀x c,cs.lookup x=some c->env.cells.lookup x=some c)->
  ∃cl,(forIn names cs fun(x:Str×NameKind) r=>(do if(x.2==NameKind.free)=true then do let c<-cellOf env x.1;pure (ForInStep.yield ((x.1,c)::r))else pure (ForInStep.yield r)):Sem (List<|Str×Addr))=pure cl/\
   (∀x c,cl.lookup x=some c->env.cells.lookup x=some c)/\(∀x c,cs.lookup x=some c-> ∃c',cl.lookup x=some c')/\ ∀y∈names,y.2= .free-> ∃c,cl.lookup y.1=some c
 | [],_,cs,hcs=>⟨cs,rfl,hcs,λx c h=>⟨c,h⟩,λy hy=>by simp at hy⟩
 | (n,k)::r,h,cs,hcs=>by
  have hr: ∀y∈r,y.2= .free-> ∃c,env.cells.lookup y.1=some c:=λy hy=>h y (fB _ hy)
  by_cases hk:k= .free
  .subst hk;obtain⟨c,hc⟩:=h (n,.free) kT rfl;have e1:cellOf env n=pure c:=by unfold cellOf;rw[hc]
   have hcs': ∀x c',List.lookup x ((n,c)::cs)=some c'->env.cells.lookup x=some c':=λx c' q=>by
    rw[dQ]at q;split at q
    .rename_i e
     have:x=n:=by exists e
     subst this;cases q;exact hc
    .exact hcs x c' q
   obtain⟨cl,h1,h2,h3,h4⟩:=a17 r hr ((n,c)::cs) hcs';have hn: ∃c',cl.lookup n=some c':=h3 n c (by rw[dQ];simp)
   refine⟨cl,?_,h2,λx c' q=> ?_,λy hy hf=> ?_⟩
   .rw[zY];rw[e1];exact h1
   .by_cases z:x=n
    .subst z;exact hn
    .refine h3 x c' ?_
     rw[dQ];have:(x==n)=false:=by exists z
     rw[this];exact q
   .rcases bB.mp hy with rfl|hy
    .exact hn
    .exact h4 y hy hf
  .obtain⟨cl,h1,h2,h3,h4⟩:=a17 r hr cs hcs;refine⟨cl,?_,h2,h3,λy hy hf=> ?_⟩
   .rw[zY];have:(k==NameKind.free)=false:=by exists hk
    rw[this];exact h1
   .rcases bB.mp hy with rfl|hy
    .exact absurd hf hk
    .exact h4 y hy hf
structure eJ (env:Env)(XN N:List Str)(cap:List (Option Nat))(scope:Scope):Prop where
 kind:scope.kind= .function
 owns: ∀y∈scope.names,y.2= .cell->scope.names.lookup y.1=some .cell
 freeK: ∀y∈scope.names,y.2= .free->scope.names.lookup y.1=some .free
 names: ∀y∈scope.names,y.2= .local->scope.names.lookup y.1=some .local
 frees: ∀y∈scope.names,y.2= .free->env.kindOf y.1=some .cell\/env.kindOf y.1=some .free
 caps: ∀(i j:Nat) (x:Str),N[i]? =some x->cap[i]? =some (some j)->XN[j]? =some x/\(x,NameKind.free)∈scope.names/\scope.names.lookup x=some .free
 len:cap.length=N.length
nonrec def vW (σ:L2.St)(cap:List (Option Nat))(last:Nat)(D:Addr):L2.St:=(cap.map λc=>c.bind λj=>(σ[j]?).join).set last (some<|.ref D)
theorem aA4 {env:Env}{x:Str}{k:NameKind}: ∀{names:List (Str×NameKind)},names.lookup x=some k->
  (names.map fun(n,k)=>if(k==NameKind.free&&env.scope.kind== .function&&env.kindOf n==some .cell)then(n,NameKind.cell)else(n,k)).lookup x=
   some (if(k==NameKind.free&&env.scope.kind== .function&&env.kindOf x==some .cell)then NameKind.cell else k)
 | [],h=>by simp at h
 | (n,k')::r,h=>by
  rw[dY];rw[dQ]at h;right
  by_cases e:(x==n)=true
  .have e':x=n:=by exists e
   subst e';rw[e]at h;cases h;split<;>simp
  .have e2:(x==n)=false:=by exists e
   rw[e2]at h;have ih:=aA4 (env:=env) h;split
   .rw[dQ,e2];exact ih
   .rw[dQ,e2];exact ih
theorem oH {env:Env}{x:Str}{k:NameKind}: ∀{names:List (Str×NameKind)},(names.map fun(n,k)=>if(k==NameKind.free&&env.scope.kind== .function&&env.kindOf n==some .cell)then(n,NameKind.cell)else(n,k)).lookup x=some k->
  ∃k',names.lookup x=some k'/\(x,k')∈names/\(k=k'\/k'= .free)
 | [],h=>by simp at h
 | (n,k')::r,h=>by
  rw[dY]at h;dsimp only at h
  by_cases e:(x==n)=true
  .have e':x=n:=by exists e
   subst e';refine⟨k',by rw[dQ,e],kT,?_⟩
   split at h
   .rename_i c
    refine .inr ?_
    simp only[cQ,gI]at c;exact c.1.1
   .rw[dQ,e]at h;cases h;exact .inl rfl
  .have e2:(x==n)=false:=by exists e
   have h':(r.map fun(n,k)=>if(k==NameKind.free&&env.scope.kind== .function&&env.kindOf n==some .cell)then(n,NameKind.cell)else(n,k)).lookup x=some k:=by
    split at h
    .rw[dQ,e2]at h;exact h
    .rw[dQ,e2]at h;exact h
   obtain⟨k2,h1,h2,h3⟩:=oH h';exact⟨k2,by rw[dQ,e2];exact h1,fB _ h2,h3⟩
theorem b27 {x:Str}{c:Addr}: ∀(names:List (Str×NameKind)) (h:Heap) (acc:List (Str×Addr)),(cellsFrom h.objs.size names acc).lookup x=some c->
  acc.lookup x=some c\/(h.objs.size<=c/\(x,NameKind.cell)∈names/\(pushCells h names).IsCell c none)
 | [],_,_,e=> .inl e
 | (y,k)::r,h,acc,e=>by
  unfold cellsFrom at e;unfold pushCells
  by_cases hk:(k==NameKind.cell)=true
  .rw[aA hk]at e⊢;have hk':k= .cell:=by exists hk
   have sz:(h.push {cls:= .type "cell",data:= .cell none}).objs.size=h.objs.size+1:=iY ..;rw[<-sz]at e;rcases b27 r _ _ e with q| ⟨q1,q2,q3⟩
   .rw[dQ]at q;split at q
    .rename_i e1
     have:x=y:=by exists e1
     subst this;cases q;exact .inr ⟨aK _,by rw[hk'];exact kT,⟨_,aQ9 _ _ _ _<|cD _ rfl,rfl⟩⟩
    .exact .inl q
   .exact .inr ⟨ad,fB _ q2,q3⟩
  .rw[a7 hk]at e⊢;rcases b27 r h acc e with q| ⟨q1,q2,q3⟩
   .exact .inl q
   .exact .inr ⟨q1,fB _ q2,q3⟩
theorem b28: ∀(names:List (Str×NameKind)) (n:Nat) (acc:List (Str×Addr)),(∀x c,acc.lookup x=some c->c<n)->(∀x y c,acc.lookup x=some c->acc.lookup y=some c->x=y)->
  ∀x y c,(cellsFrom n names acc).lookup x=some c->(cellsFrom n names acc).lookup y=some c->x=y
 | [],_,_,_,hi=>hi
 | (z,k)::r,n,acc,hl,hi=>by
  unfold cellsFrom
  by_cases hk:(k==NameKind.cell)=true
  .rw[aA hk];refine b28 r (n+1) _ (λx c e=> ?_) (λx y c e1 e2=> ?_)
   .rw[dQ]at e;split at e
    .cases e;exact pU n
    .exact kW (hl x c e)
   .rw[dQ]at e1 e2;split at e1
    .rename_i q1
     cases e1;split at e2
     .rename_i q2
      exact(by simpa using q1:x=z).trans (by simpa using q2:y=z).symm
     .exact absurd (hl y _ e2) (dX _)
    .split at e2
     .cases e2;exact absurd (hl x _ e1) (dX _)
     .exact hi x y c e1 e2
  .rw[a7 hk];exact b28 r n acc hl hi
theorem tM {x:Str}{c:Addr}: ∀(names:List (Str×NameKind)) (n:Nat) (acc:List (Str×Addr)),((x,NameKind.cell)∈names\/ ∀c,acc.lookup x=some c->n<=c)->(cellsFrom n names acc).lookup x=some c->n<=c
 | [],_,_,h,e=>by
  rcases h with h|h
  .simp at h
  .exact h c e
 | (z,k)::r,n,acc,h,e=>by
  unfold cellsFrom at e
  by_cases hk:(k==NameKind.cell)=true
  .rw[aA hk]at e;rcases h with h|h
   .rcases bB.mp h with h|h
    .cases h;have:n<=c:=by
      by_cases q: ∃c',(cellsFrom (n+1) r ((x,n)::acc)).lookup x=some c'/\(x,NameKind.cell)∈r
      .obtain⟨c',e',m⟩:=q;have:=tM r (n+1) _ (.inl m) e
       lia
      .have nm:(x,NameKind.cell) ∉ r:=λm=>q ⟨c,e,m⟩
       have:=cells_keep r (n+1) ((x,n)::acc) nm;rw[this]at e;simp at e;exact le_of_eq e
     exact this
    .have:=tM r (n+1) _ (.inl h) e
     lia
   .by_cases q:(x,NameKind.cell)∈r
    .have:=tM r (n+1) _ (.inl q) e
     lia
    .have:=cells_keep r (n+1) ((z,n)::acc) q;rw[this,dQ]at e;split at e
     .cases e;exact aK _
     .exact h c e
  .rw[a7 hk]at e;refine tM r n acc (h.imp (λm=> ?_) id) e
   rcases bB.mp m with m|m
   .cases m;exact absurd ac hk
   .exact m
where
 cells_keep {x:Str}: ∀(names:List (Str×NameKind)) (n:Nat) (acc:List (Str×Addr)),(x,NameKind.cell) ∉ names->(cellsFrom n names acc).lookup x=acc.lookup x
 | [],_,_,_=>rfl
 | (z,k)::r,n,acc,h=>by
  unfold cellsFrom
  by_cases hk:(k==NameKind.cell)=true
  .rw[aA hk];have hk':k= .cell:=by exists hk
   rw[cells_keep r (n+1) _ λm=>h (fB _ m),dQ]
   split
   .rename_i e
    have:x=z:=by exists e
    subst this;exact absurd (by rw[hk'];exact kT) h
   .rfl
  .rw[a7 hk];exact cells_keep r n acc λm=>h (fB _ m)
theorem cells_keep (names:List (Str×NameKind))(n:Nat)(acc:List (Str×Addr))(h:(x,NameKind.cell) ∉ names):(cellsFrom n names acc).lookup x=acc.lookup x:=tM.cells_keep names n acc h
theorem c26 {M:Model}{globals:Addr}{env0:Env}{Q:Env->Shared->Prop}
  (hQ:Q {scope:=scope,locals:=s.heap.objs.size,globals:=globals,cells:=cellsFrom (s.heap.objs.size+1) scope.names cl,qual:=qual,func:=none,code:=env0.code,frame:=env0.frame,builtins:=env0.builtins} {s with heap:=pushCells (s.heap.push {cls:= .type "dict",data:= .dict #[]}) scope.names}) :
  wpAny M A (newFunctionEnv scope globals cl [] qual none .none<|some env0) Q E s:=by
 simp only[newFunctionEnv,Option.isSome_some,j7];refine a9 (wpAny_alloc ?_);refine a9 (wpAny_layCells _ (λname kind cells=>by cases hkc:kind==NameKind.cell<;>simp[hkc]) _ _ _ _ ?_)
 rw[show({s with heap:=s.heap.push {cls:= .type "dict",data:= .dict #[]}}:Shared).heap.objs.size=s.heap.objs.size+1 from iY ..]
 exact a9 (aP<|aP hQ)
section
variable {X:Cx}{pins:List (Addr×Obj)}{σ:L2.St}{H:Hp}{s:Shared}{N:List Str}{cap:List (Option Nat)}{scope:Scope}
theorem cC4 {D:Addr}{cl0:List (Str×Addr)}{h1:Heap}{m0:Str->Option Value}(S:eJ X.env X.N N cap scope)(I:Inv X pins σ H s)(hf: ∀b∈fp,b19 X pins H b)(hfs: ∀b∈fp,b<s.heap.objs.size)
  (hcl: ∀x c,cl0.lookup x=some c->X.env.cells.lookup x=some c) (hcl2: ∀y∈scope.names,y.2= .free-> ∃c,cl0.lookup y.1=some c) (hN: ∀x,N[last]? =some x->scope.names.lookup x=none)
  (hns:h1.Ns s.heap.objs.size m0) (hk: ∀b o,s.heap.get? b=some o->h1.get? b=some o)
  (c1: ∀x c,cl.lookup x=some c->cl0.lookup x=some c\/(s.heap.objs.size<c/\h1.IsCell c none)) (c2: ∀x y c,cl.lookup x=some c->cl.lookup y=some c->x=y)
  (c3: ∀x,(x,NameKind.free)∈scope.names->cl.lookup x=cl0.lookup x) (c4: ∀x,scope.names.lookup x=some .cell-> ∃c,cl.lookup x=some c) (c5: ∀x c,scope.names.lookup x=some .cell->cl.lookup x=some c->s.heap.objs.size<=c) :
  Inv (cA X N scope cl s.heap.objs.size s H fp pins) [] (vW σ cap last D) H {s with heap:=h1,toks:=tk}:=by
 have sz:X.base.objs.size<=s.heap.objs.size:=aH I.ok.bsz I.sz;have kindF: ∀x,(cA X N scope cl s.heap.objs.size s H fp pins).env.kindOf x=some .cell\/(cA X N scope cl s.heap.objs.size s H fp pins).env.kindOf x=some .free->(x,NameKind.free)∈scope.names\/scope.names.lookup x=some .cell:=λx h=>by
  have: ∃k,(k= .cell\/k= .free)/\(relabel scope X.env).names.lookup x=some k:=by
   rcases h with h|h
   .exact⟨_,.inl rfl,h⟩
   .exact⟨_,.inr rfl,h⟩
  obtain⟨k,hk,h⟩:=this;obtain⟨k',h1,h2,h3⟩:=oH h;rcases h3 with rfl|rfl
  .rcases hk with rfl|rfl
   .exact .inr (S.owns _ h2 rfl)
   .exact .inl h2
  .exact .inl h2
 have cne: ∀x c,cl.lookup x=some c-> ∀b∈fp,c≠b:=λx c h b hb=>by
  rcases c1 x c h with q| ⟨q,_⟩
  .exact(hf b hb).2.2.2.2.1 x c (hcl x c q)
  .exact λz=>by subst z;exact absurd (Nat.lt_trans q<|hfs c hb) (dX _)
 refine⟨⟨I.ok.mod,S.kind,I.ok.glob,I.ok.blt,aK _,c2,λx h=> ?_,λx c h e=> ?_,I.ok.hd,I.ok.frames,.inl rfl,λb hb=> ?_,I.bs,sz,λb o e hb=> ?_,λb hb=> ?_,I.stack,I.stkFree⟩,
  rfl,I.bare,Un.kept hk,⟨m0,hns,λi x v e1 e2 e3=> ?_⟩,λx c h=> ?_,I.hok.fresh<|aK _,λx c h=> ?_,λp hp=> ?_,I.hok.kept hk,?_⟩
 .rcases kindF x h with q|q
  .obtain⟨c,e⟩:=hcl2 _ q rfl;exact⟨c,(c3 x q).trans e⟩
  .exact c4 x q
 .exact c5 x c (by simpa using(show(scope.names.lookup x==some NameKind.cell)=true from h)) e
 .exact⟨bM<|hfs b hb,λx c h=>cne x c h b hb⟩
 .rcases(hf b hb).2.2.2.1 with z|z
  .exact I.ok.noex b o e z
  .have:=aW e;exact absurd (b9 this<|aH I.ok.bsz z) (dX _)
 .intro z;rcases bB.mp (I.stkSub b z)with z|z
  .exact(hf b hb).2.1 z
  .exact(hf b hb).2.2.1 z
 .have e1':N[i]? =some x:=e1;unfold vW at e2
  by_cases hl:last=i
  .subst hl;have z:=hN x e1';rcases e3 with e3|e3|e3
   .obtain⟨k',h1,_⟩:=oH (show(relabel scope X.env).names.lookup x=_ from e3)
    rw[z]at h1;cases h1
   .obtain⟨k',h1,_⟩:=oH (show(relabel scope X.env).names.lookup x=_ from e3)
    rw[z]at h1;cases h1
   .obtain⟨k',h1,_⟩:=oH (show(relabel scope X.env).names.lookup x=_ from e3)
    rw[z]at h1;cases h1
  .rw[M.get_set_ne hl,aZ]at e2;cases e4:cap[i]? with
   | none=>rw[e4]at e2;cases e2
   | some c=>
    rw[e4]at e2;cases c with
    | none=>cases e2
    | some j=>
     have e2':(σ[j]?).join=some v:=by exists e2
     have e5:σ[j]? =some (some v):=by
      cases q:σ[j]? with
      | none=>rw[q]at e2';cases e2'
      | some w=>rw[q]at e2';cases w with
       | none=>cases e2'
       | some w'=>cases e2';rfl
     obtain⟨a1,a2,a3⟩:=S.caps i j x e1' e4;have kx:=S.frees _ a2 rfl;obtain⟨m,hn,hl'⟩:=I.loc;have vis:Vis X.env.scope x:=by
      rcases kx with kx|kx
      .exact .inr (.inl kx)
      .exact .inr (.inr kx)
     obtain⟨u,r,l⟩:=hl' j x v a1 e5 vis;refine⟨u,r,.inr ⟨?_,?_⟩⟩
     .have q:=aA4 (env:=X.env) a3;show(relabel scope X.env).names.lookup x=_\/(relabel scope X.env).names.lookup x=_;unfold relabel;right;rw[q];split
      .exact .inl rfl
      .exact .inr rfl
     .rcases l with⟨l,_⟩| ⟨_,c,hc,hcell⟩
      .rcases kx with kx|kx<;>·rw[kx]at l;cases l
      .obtain⟨c',hc'⟩:=hcl2 _ a2 rfl;have:=hcl x c' hc';rw[hc]at this;cases this;obtain⟨o,ho,hd⟩:=hcell;exact⟨c,(c3 x a2).trans hc',o,hk _ _ ho,hd⟩
 .rcases c1 x c h with q| ⟨_,q⟩
  .obtain⟨v,o,ho,hd⟩:=I.cell x c (hcl x c q);exact⟨v,o,hk _ _ ho,hd⟩
  .exact⟨_,q⟩
 .rcases c1 x c h with q| ⟨q,_⟩
  .exact I.freeC x c (hcl x c q)
  .exact I.hok.fresh (nQ q)
 .have hp':p∈X.pn++pins:=by
   have:p∈(X.pn++pins)++[]:=hp
   exists this
  obtain⟨a1,a2,a3,a4,a5⟩:=I.pin p hp';refine⟨hk _ _ a1,a2,bM<|aW a1,λz=> ?_,a5⟩
  rcases bB.mp (I.stkSub p.1 z)with z|z
  .exact a3 z
  .exact a4 z
 .unfold vW;rw[cZ,aG];exact S.len
theorem bV6 {σ':L2.St}{H':Hp}{h2:Heap}{pins':List (Addr×Obj)}(I:Inv X pins σ H s)(hf: ∀b∈fp,b19 X pins H b)(hC:s.heap.objs.size<=C)
  (I':Inv (cA X N scope cl C s H fp pins) pins' σ' H' s') (hs:SameBut C s'.heap h2):Inv X pins σ H' {s' with heap:=h2}:=by
 have nC: ∀b o,s.heap.get? b=some o->b≠C:=λb o e z=>by
  subst z;exact absurd (b9 (aW e) hC) (dX _)
 have get: ∀b,b≠C->h2.get? b=s'.heap.get? b:=λb hb=>hs.2 b hb
 have U:=I'.base;have u:Un (frs X.stack) fp H H' s.heap h2:=by
  refine⟨λb o e n h1 hx=> ?_,λb o e n h1 hx=> ?_,U.free,λb o e hx=> ?_,U.tups,U.frzs,U.tbls⟩
  .rw[get b<|nC b o e];exact U.keep b o e n h1 hx
  .rw[get b<|nC b o e];exact U.slot b o e n h1 hx
  .rw[get b<|nC b o e];exact U.there b o e hx
 have fC:H' C=none:=I'.free;have hok:HOk X.prog X.w H' h2:=λa o e=>by
  have na:a≠C:=λz=>by subst z;rw[fC]at e;cases e
  refine(I'.hok a o e).stay (λb u hb q=> ?_) (λ_ q=>q) λ_ _ q=>q
  have nb:b≠C:=by
   rcases hb with rfl|hb
   .exact na
   .exact λz=>by subst z;rw[fC]at hb;cases hb
  rw[get b nb];exact q
 obtain⟨hh,gg,dd,tt,oo⟩:=s';have eo:oo=s.os:=I'.os;subst eo;have fin:=I.call (h':=h2) (g':=gg) (d':=dd) (t':=tt) (ch:=fp) u hok I'.bare λb hb=>⟨(hf b hb).2.2.2.1,(hf b hb).2.1,(hf b hb).2.2.2.2.1,(hf b hb).2.2.2.2.2⟩
 exact fin
end
def b29 (e:Expr)(d:Nat)(target:Expr)(p0:Pos)(ifs:List Expr)(em:Sem Unit)(it acc:Value)(env:Env):Sem Fin:=do
 standAt p0
 match<-pyNext it with
 | none=>pure (.done .next)
 | some v=>
  letOwnedTupleGo target it v
  assign target env v
  let mut ok:=true
  for c in ifs do
   if ok then ok<-isTrue c env (eval c env)
  if ok then em
  again (.compLoop e d it acc env)
theorem aA5 {prog:Program}{w:World}{A:Around}{R:Result->Shared->Prop}{s:Shared}{elt target:Expr}{gens:List Comprehension}{ifs:List Expr}{scope:Scope}{pos p0:Pos}{d:Nat}{it acc:Value}{env:Env}{em:Sem Unit}(I:Nat->Shared->Prop)
  (hturn:compTurn (.ListComp elt gens scope pos) d it acc env=b29 (.ListComp elt gens scope pos) d target p0 ifs em it acc env)
  (turn: ∀n s,I n s->wpAny (model prog w) A (pyNext it) (λr s₁=>match r with
   | none=>R (.ok .next) s₁
   | some v=>wpAny (model prog w) A (letOwnedTupleGo target it v) (λ_ s₂=>wpAny (model prog w) A (assign target env v) (λ_ s₂=>
     wpAny (model prog w) A (forIn ifs true λc r=>if r=true then do let ok<-isTrue c env (eval c env);pure (ForInStep.yield ok)else pure (ForInStep.yield r)) (λok s₃=>
      if ok=true then wpAny (model prog w) A em (λ_ s₅=> ∃m,m<n/\I m s₅) (notedBy (model prog w) A env λe s'=>R (.error e) s') s₃
      else ∃m,m<n/\I m s₃) (notedBy (model prog w) A env λe s'=>R (.error e) s') s₂) (notedBy (model prog w) A env λe s'=>R (.error e) s') s₂) (notedBy (model prog w) A env λe s'=>R (.error e) s') s₁) (notedBy (model prog w) A env λe s'=>R (.error e) s') s)
  (n:Nat) (h:I n s):codeAny (model prog w) A (.compLoop (.ListComp elt gens scope pos) d it acc env) R s:=by
 refine codeAny_loop rfl I (λn s hI=> ?_) n h
 refine wpAny_noted ?_
 rw[hturn];refine a9 (nO<|a9<|bW (turn n s hI) (λr s₁ h₁=> ?_) λ_ _ h'=>h')
 cases r with
 | none=>exact aP h₁
 | some v=>
  refine a9 (bW h₁ (λ_ s₂ h₂=>a9 (bW h₂ (λ_ s₂ h₂=>a9 (bW h₂ (λok s₃ h₃=> ?_) λ_ _ h'=>h')) λ_ _ h'=>h')) λ_ _ h'=>h')
  cases ok with
  | false=>exact aP ⟨rfl,h₃⟩
  | true=>exact a9 (bW h₃ (λ_ s₅ h₅=>aP ⟨rfl,h₅⟩) λ_ _ h'=>h')
def PTs (X:Cx)(ifs:List Expr)(t:TT):Prop:=
 ∀(pins:List (Addr×Obj)) (s:Shared) (σ:L2.St) (H:Hp) (Q:Bool->Hp->Prop),Inv X pins σ H s->t σ H Q->
  X∩(forIn ifs true λc r=>if r=true then do let ok<-isTrue c X.env (eval c X.env);pure (ForInStep.yield ok)else pure (ForInStep.yield r)) (TP X pins σ Q) X.xe s
theorem dS0 {X:Cx}:PTs X [] (λ_ H Q=>Q true H):=λpins s σ H Q I h=>wpAny_tests_nil ⟨H,I,h⟩
theorem dS1 {X:Cx}{t:TT}(h:PT X c t):PTs X [c] t:=λpins s σ H Q I q=>wpAny_tests_one (h pins s σ H Q I q)
def bG0 (cap:List (Option Nat))(last:Nat)(wi:TI)(g:TG)(tt:TT)(tem:Addr->L2.St->Hp->(L2.St->Hp->Prop)->Prop):TE:=λσ H Q=>wi σ H λJ H1=> ∀D,H1 D=none-> ∃W:Nat->Nat->L2.St->Hp->Prop,(∃m,W 0 m (vW σ cap last D)<|upd H1 D<|.lst [])/\ ∀i m σ' H',W i m σ' H'->
 (J.stop i H'/\Q (.ref D) H')\/(J.go i H'/\ ∃Nx:L2.St->Hp->Prop,(∀σ2 H2,Nx σ2 H2-> ∃m',m'<m/\W (i+1) m' σ2 H2)/\ ∀x H2,J.yld i H' x H2->g x σ' H2 λσ3 H3=>tt σ3 H3 λc H4=>
  if c=true then tem D σ3 H4 Nx else Nx σ3 H4)
def tPut (te:TE)(D:Addr)(σ:L2.St)(H:Hp)(Nx:L2.St->Hp->Prop):Prop:=te σ H λy H5=> ∃ys,H5 D=some (.lst ys)/\ys.length<sizeLine/\Nx σ (upd H5 D<|.lst<|ys++[y])
def putOf (elt:Expr)(acc:Value)(env:Env):Sem Unit:=do let _<-call (.builtin "list.append") [acc,<-eval elt env]
def PEm (X:Cx)(em:Value->Env->Sem Unit)(tem:Addr->L2.St->Hp->(L2.St->Hp->Prop)->Prop):Prop:= ∀(D:Addr) (pins:List (Addr×Obj)) (s:Shared) (σ:L2.St) (H:Hp) (Nx:L2.St->Hp->Prop),Inv X pins σ H s->tem D σ H Nx->X∩(em (.ref D) X.env) (λ_ s'=> ∃σ' H',Inv X pins σ' H' s'/\Nx σ' H') X.xe s
theorem c27 {X:Cx}{te:TE}(he:PE X elt te):PEm X (putOf elt) (tPut te):=by
 intro D pins s σ H Nx I h;refine a9 (bW (he pins s σ H _ I h) (λv s1 h1=> ?_) λ_ _ z=>z)
 obtain⟨y,H1,I1,r1,ys,e1,z1,q1⟩:=h1;refine a9 (bW (bU9 _ s1 σ H1 (.ref D) [y] (.ref D) [v] (λv H=>v= .non/\Nx σ H) I1 rfl (.cons r1 .nil) ⟨_,ys,y,rfl,rfl,e1,z1,rfl,q1⟩) (λ_ s2 h2=> ?_) λ_ _ z=>z)
 obtain⟨_,H2,I2,_,_,q2⟩:=h2;exact aP ⟨σ,H2,I2,q2⟩
theorem bV7 {X:Cx}{RR:Value->Addr->Result->Shared->Prop}{iN:List Comprehension}{wi:TI}{g:TG}{tt:TT}{tem:Addr->L2.St->Hp->(L2.St->Hp->Prop)->Prop}(hem: ∀it acc env,compTurn (.ListComp elt (⟨tg,iter,ifs,0⟩::iN) scope pos) 0 it acc env=b29 (.ListComp elt (⟨tg,iter,ifs,0⟩::iN) scope pos) 0 tg iter.pos ifs (em acc env) it acc env)(hc:X.calm=true)(hi:PI X tg iter wi)(S:eJ X.env X.N N cap scope)
  (hN: ∀x,N[last]? =some x->scope.names.lookup x=none)
  (hg: ∀cl C s H fp pins,PG (cA X N scope cl C s H fp pins) tg g) (ht: ∀cl C s H fp pins,PTs (cA X N scope cl C s H fp pins) ifs tt) (he: ∀cl C s H fp pins,PEm (cA X N scope cl C s H fp pins) em tem)
  {pins:List (Addr×Obj)} {s:Shared} {σ:L2.St} {H:Hp} {Q:VK} {cl:List (Str×Addr)} (I:Inv X pins σ H s) (h:bG0 cap last wi g tt tem σ H Q) (hcl: ∀x c,cl.lookup x=some c->X.env.cells.lookup x=some c) (hcl2: ∀y∈scope.names,y.2= .free-> ∃c,cl.lookup y.1=some c)
  (fin: ∀(D:Addr) (fp:List Addr) (H3:Hp) (s3:Shared) (σ':L2.St) (H':Hp) (s':Shared),Inv X pins σ H3 s3->(∀b∈fp,b19 X pins H3 b)->Inv (cA X N scope (cellsFrom (s3.heap.objs.size+1) scope.names cl) s3.heap.objs.size s3 H3 fp pins) [] σ' H' s'->Q (.ref D) H'->RR (.ref D) s3.heap.objs.size (.ok .next) s') :
  X∩(eval iter X.env) (λx s₁=>X∩(pyIter x) (λit s₂=>X∩(newList []) (λacc s₃=>
   X∩(newFunctionEnv scope X.env.globals cl [] X.env.qual none .none<|some X.env) (λcenv s₄=>
    codeAny (model X.prog X.w) X.A (.compStart (.ListComp elt (⟨tg,iter,ifs,0⟩::iN) scope pos) 0 it acc {cenv with scope:=relabel scope X.env}) (RR acc cenv.locals) s₄) X.xe s₃) X.xe s₂) X.xe s₁) X.xe s:=by
 refine thn (hi pins s σ H _ I h) λxv s1 h1=>thn h1 λit s2 h2=> ?_
 obtain⟨ita,fp,tn,J,H2,rfl,I2,T,st2,f2,q⟩:=h2;refine jX ?_ (by show 0<=sizeLine;decide)
 have fD:H2 s2.heap.objs.size=none:=I2.hok.fresh (aK _);obtain⟨W,⟨m0,w0⟩,turn⟩:=q s2.heap.objs.size fD;have I3:Inv X pins σ (upd H2 s2.heap.objs.size<|.lst []) {s2 with heap:=s2.heap.push {cls:= .type "list",data:= .seq ([]:List Value).toArray}}:=I2.lnew .nil (eH _);have fpne: ∀b∈fp,b≠s2.heap.objs.size:=λb hb=>by
  obtain⟨o,ho,_⟩:=T.obj 0 _ st2 b hb;exact bM (aW ho)
 have f3: ∀b∈fp,b19 X pins (upd H2 s2.heap.objs.size<|.lst []) b:=λb hb=>⟨by rw[cM<|fpne b hb];exact(f2 b hb).1,(f2 b hb).2⟩
 have k23: ∀b o,s2.heap.get? b=some o->(s2.heap.push {cls:= .type "list",data:= .seq ([]:List Value).toArray}).get? b=some o:=λb o e=>aV _ e
 have st3:tn 0 (s2.heap.push {cls:= .type "list",data:= .seq ([]:List Value).toArray}):=T.keep 0 _ _ st2 λb hb o e=>k23 b o e
 have fps: ∀b∈fp,b< (s2.heap.push {cls:= .type "list",data:= .seq ([]:List Value).toArray}).objs.size:=λb hb=>by
  obtain⟨o,ho,_⟩:=T.obj 0 _ st3 b hb;exact aW ho
 generalize hS3:({s2 with heap:=s2.heap.push {cls:= .type "list",data:= .seq ([]:List Value).toArray}}:Shared)=s3 at I3;have hh3:s3.heap=s2.heap.push {cls:= .type "list",data:= .seq ([]:List Value).toArray}:=by rw[<-hS3]
 rw[<-hh3]at st3 fps;refine c26 ?_;have sz3:(s3.heap.push {cls:= .type "dict",data:= .dict #[]}).objs.size=s3.heap.objs.size+1:=iY ..;have hns₁:(pushCells (s3.heap.push {cls:= .type "dict",data:= .dict #[]}) scope.names).Ns s3.heap.objs.size (λ_=>none):=(Heap.Ns.new s3.heap<|.type "dict").keeps (aQ9 _ _)
 have k34: ∀b o,s3.heap.get? b=some o->(pushCells (s3.heap.push {cls:= .type "dict",data:= .dict #[]}) scope.names).get? b=some o:=λb o e=>aQ9 _ _ _ _ (aV _ e)
 have I4:=cC4 (tk:=s3.toks) (D:=s2.heap.objs.size) (cl:=cellsFrom (s3.heap.objs.size+1) scope.names cl) S I3 f3 fps hcl hcl2 hN hns₁ k34
  (λx c e=>by
   rw[<-sz3]at e;rcases b27 _ _ _ e with q| ⟨q1,_,q3⟩
   .exact .inl q
   .exact .inr ⟨ad,q3⟩)
  (b28 _ _ _ (λx c e=>by
   obtain⟨v,q⟩:=I3.cell x c (hcl x c e);exact kW q.lt) λx y c e1 e2=>I3.ok.inj x y c (hcl x c e1) (hcl y c e2))
  (λx m=>cells_keep _ _ _ λm'=>by
   have h1:=S.owns _ m' rfl;have h2:=S.freeK _ m rfl;rw[h1]at h2;cases h2)
  (λx e=>Option.isSome_iff_exists.mp (aN9 _ _ _<|.inl e))
  (λx c e1 e2=>by
   have:=tM scope.names (s3.heap.objs.size+1) cl (.inl<|pO e1) e2
   lia)
 have st4:tn 0 (pushCells (s3.heap.push {cls:= .type "dict",data:= .dict #[]}) scope.names):=T.keep 0 _ _ st3 λb hb o e=>k34 b o e
 generalize hcl':cellsFrom (s3.heap.objs.size+1) scope.names cl=cl' at I4;have loop:codeAny (model X.prog X.w) X.A (.compLoop (.ListComp elt (⟨tg,iter,ifs,0⟩::iN) scope pos) 0 (.ref ita) (.ref s2.heap.objs.size)<|compEnvC scope cl' s3.heap.objs.size X.env)
   (RR (.ref s2.heap.objs.size) s3.heap.objs.size) {s3 with heap:=pushCells (s3.heap.push {cls:= .type "dict",data:= .dict #[]}) scope.names,toks:=s3.toks}:=by
  have stat: ∀{H':Hp},(∀b∈fp,H' b=none)-> ∀b∈fp,b19 (cA X N scope cl' s3.heap.objs.size s3 (upd H2 s2.heap.objs.size<|.lst []) fp pins) [] H' b:=λ{H'} hn b hb=>by
   refine⟨hn b hb,bM<|fps b hb,λz=> ?_,.inl hb,λx c e=>(I4.ok.exf b hb).2 x c e,λp hp=> ?_⟩
   .rcases bB.mp (I3.stkSub b z)with z|z
    .exact(f3 b hb).2.1 z
    .exact(f3 b hb).2.2.1 z
   .have:p∈(X.pn++pins)++[]:=hp;exact(f3 b hb).2.2.2.2.2 p (by exists this)
  have hcb:(cA X N scope cl' s3.heap.objs.size s3 (upd H2 s2.heap.objs.size<|.lst []) fp pins).calm=true:=hc;refine aA5 (λn s'=> ∃i σ' H',Inv (cA X N scope cl' s3.heap.objs.size s3 (upd H2 s2.heap.objs.size<|.lst []) fp pins) [] σ' H' s'/\tn i s'.heap/\(∀b∈fp,H' b=none)/\W i n σ' H') (hem _ _ _) ?_ m0 ⟨0,_,_,I4,st4,λb hb=>(f3 b hb).1,w0⟩
  rintro n s5 ⟨i,σ5,H5,I5,st5,fr5,w5⟩;rcases turn i n σ5 H5 w5 with⟨stop,qn⟩| ⟨go,Nx,hNx,step⟩
  .refine bW (T.done (cA X N scope cl' s3.heap.objs.size s3 (upd H2 s2.heap.objs.size<|.lst []) fp pins) rfl rfl rfl hcb i [] s5 σ5 H5 (λ_ _=>False) I5 (stat fr5) st5 stop) (λr s6 hr=> ?_) (λ_ _ z=>z.elim)
   obtain⟨rfl,I6⟩:=hr;exact fin _ fp _ s3 σ5 H5 s6 I3 f3 (hcl'▸I6) qn
  .refine bW (T.item (cA X N scope cl' s3.heap.objs.size s3 (upd H2 s2.heap.objs.size<|.lst []) fp pins) rfl rfl rfl hcb i [] s5 σ5 H5 (λ_ _=>False) I5 (stat fr5) st5 go) (λr s6 hr=> ?_) (λ_ _ z=>z.elim)
   obtain⟨u,rfl,h6⟩:=hr;refine bW h6 (λ_ s7 h7=> ?_) (λ_ _ z=>z.elim)
   obtain⟨x,H7,I7,r7,y7,st7,fr7⟩:=h7;have I7':=I7.pinned (stat fr7) (T.obj _ _ st7);refine bW (hg _ _ _ _ _ _ _ s7 σ5 H7 x u _ I7' r7<|step x H7 y7) (λ_ s8 h8=> ?_) (λ_ _ z=>False.elim z)
   obtain⟨σ8,H8,I8,q8⟩:=h8;have again: ∀{σ9:L2.St} {H9:Hp} {s9:Shared},Inv (cA X N scope cl' s3.heap.objs.size s3 (upd H2 s2.heap.objs.size<|.lst []) fp pins) ([]++bF1 fp s7.heap) σ9 H9 s9->Nx σ9 H9-> ∃m,m<n/\ ∃i σ' H',Inv (cA X N scope cl' s3.heap.objs.size s3 (upd H2 s2.heap.objs.size<|.lst []) fp pins) [] σ' H' s9/\tn i s9.heap/\(∀b∈fp,H' b=none)/\W i m σ' H':=λ{σ9 H9 s9} I9 n9=>by
    obtain⟨m',hm,w9⟩:=hNx σ9 H9 n9;refine⟨m',hm,i+1,σ9,H9,I9.unpinned,T.keep _ _ _ st7 λb hb o e=>(I9.pin (b,o)<|eZ _<|eZ _<|a14 hb e).1,λb hb=> ?_,w9⟩
    obtain⟨o,e,d⟩:=T.obj _ _ st7 b hb;exact(I9.pin (b,o)<|eZ _<|eZ _<|a14 hb e).2.1
   refine bW (ht _ _ _ _ _ _ _ s8 σ8 H8 _ I8 q8) (λc s9 h9=> ?_) (λ_ _ z=>False.elim z)
   obtain⟨H9,I9,q9⟩:=h9;cases c with
   | false=>exact again I9 q9
   | true=>
    refine bW (he _ _ _ _ _ _ _ _ s9 σ8 H9 _ I9 q9) (λ_ s10 h10=> ?_) (λ_ _ z=>False.elim z)
    obtain⟨σ10,H10,I10,q10⟩:=h10;exact again I10 q10
 exact codeAny_compStart_list loop (T.self _ 0 _ _ _ st4 loop)
theorem aK5 {X:Cx}{σ:L2.St}{H:Hp}(S:eJ X.env X.N N cap scope)(I:Inv X pins σ H s) :
  ∃cl,closureFor scope X.env=pure cl/\(∀x c,cl.lookup x=some c->X.env.cells.lookup x=some c)/\ ∀y∈scope.names,y.2= .free-> ∃c,cl.lookup y.1=some c:=by
 obtain⟨cl,h1,h2,_,h4⟩:=a17 scope.names (λy hy hf=>I.ok.has y.1 (S.frees y hy hf)) [] (λx c q=>by simp at q)
 refine⟨cl,?_,h2,h4⟩
 have e:closureFor scope X.env=(forIn scope.names [] fun(x:Str×NameKind) r=>(do if(x.2==NameKind.free)=true then do let c<-cellOf X.env x.1;pure (ForInStep.yield ((x.1,c)::r))else pure (ForInStep.yield r)):Sem (List<|Str×Addr)) >>= λr=>pure r:=by
  rfl
 rw[e,h1];rfl
theorem dS2 {X:Cx}{iN:List Comprehension}{wi:TI}{g:TG}{tt:TT}{tem:Addr->L2.St->Hp->(L2.St->Hp->Prop)->Prop}(hem: ∀it acc env,compTurn (.ListComp elt (⟨tg,iter,ifs,0⟩::iN) scope pos) 0 it acc env=b29 (.ListComp elt (⟨tg,iter,ifs,0⟩::iN) scope pos) 0 tg iter.pos ifs (em acc env) it acc env)(hc:X.calm=true)(hi:PI X tg iter wi)(S:eJ X.env X.N N cap scope)
  (hN: ∀x,N[last]? =some x->scope.names.lookup x=none)
  (hg: ∀cl C s H fp pins,PG (cA X N scope cl C s H fp pins) tg g) (ht: ∀cl C s H fp pins,PTs (cA X N scope cl C s H fp pins) ifs tt) (he: ∀cl C s H fp pins,PEm (cA X N scope cl C s H fp pins) em tem)
  (hs: ∀x,foldedSetIterable iter X.env x=pure x:=by intro _;rfl):PE X (.ListComp elt (⟨tg,iter,ifs,0⟩::iN) scope pos) (bG0 cap last wi g tt tem):=by
 intro pins s σ H Q I h;obtain⟨cl,hcl0,hcl,hcl2⟩:=aK5 S I;refine wpAny_comprehension_free rfl hs hcl0 S.kind S.names ?_;refine bV7 hem hc hi S hN hg ht he I h hcl hcl2 λD fp H3 s3 σ' H' s' I3 f3 I' q=> ?_
 obtain⟨m6,hn6,_⟩:=I'.loc;exact⟨m6,hn6,λh' hs'=>⟨.ref D,H',bV6 I3 f3 (aK _) I' hs',rfl,q⟩⟩
theorem bG1 {X:Cx}{iN:List Comprehension}{wi:TI}{g:TG}{tt:TT}{tem:Addr->L2.St->Hp->(L2.St->Hp->Prop)->Prop}(hem: ∀it acc env,compTurn (.ListComp elt (⟨tg,iter,ifs,0⟩::iN) scope pos) 0 it acc env=b29 (.ListComp elt (⟨tg,iter,ifs,0⟩::iN) scope pos) 0 tg iter.pos ifs (em acc env) it acc env)(hc:X.calm=true)(hi:PI X tg iter wi)(S:eJ X.env X.N N cap scope)
  (hN: ∀x,N[last]? =some x->scope.names.lookup x=none)
  (hg: ∀cl C s H fp pins,PG (cA X N scope cl C s H fp pins) tg g) (ht: ∀cl C s H fp pins,PTs (cA X N scope cl C s H fp pins) ifs tt) (he: ∀cl C s H fp pins,PEm (cA X N scope cl C s H fp pins) em tem)
  (hy:PG X (.Name y py) (a75 i)) (hsw:↥(swapsWith (.ListComp elt (⟨tg,iter,ifs,0⟩::iN) scope pos) (some<|.Name y py) spos.line X.env=pure true))
  (hs: ∀x,foldedSetIterable iter X.env x=pure x:=by intro _;rfl):PS X (.Assign [.Name y py] (.ListComp elt (⟨tg,iter,ifs,0⟩::iN) scope pos) spos) (dP7 (bG0 cap last wi g tt tem)<|a75 i):=by
 intro pins s σ H D I h;rw[exec_Assign_Name_used _ _ _ _ hsw];refine a9 (nO<|a9 ?_);obtain⟨cl,hcl0,hcl,hcl2⟩:=aK5 S I;show wpAny _ X.A (do let _<-comprehension (.ListComp elt (⟨tg,iter,ifs,0⟩::iN) scope pos) scope X.env _ (newList []) false (eval iter X.env) (some<|assign (.Name y py) X.env)) _ _ s
 refine a9 (bW (wpAny_comprehension_free (use:=some (assign (.Name y py) X.env)) (Q:=λ_ s'=>SP X pins D .next s') rfl hs hcl0 S.kind S.names ?_) (λ_ s' hq=>aP (aP hq)) λ_ _ e=>e)
 refine bV7 (RR:=λacc C=>compPost (model X.prog X.w) X.A X.xe (some<|assign (.Name y py) X.env) (λ_ s'=>SP X pins D .next s') acc C) hem hc hi S hN hg ht he I (show bG0 cap last wi g tt tem σ H (λx H1=>a75 i x σ H1 D.nx)from h) hcl hcl2 λD' fp H3 s3 σ' H' s' I3 f3 I' q=> ?_
 obtain⟨m6,hn6,_⟩:=I'.loc;obtain⟨o6,es6,ep6,ho6,rest6⟩:=id hn6;have J:Inv X pins σ H' s':=bV6 (h2:=s'.heap) I3 f3 (aK _) I' (.refl ..);have fC:H' s3.heap.objs.size=none:=I'.free;have neL:s3.heap.objs.size≠X.env.locals:=pX I3.lt;have neF:s3.heap.objs.size ∉ X.fs:=I3.nofs (aK _);have neC: ∀x c,X.env.cells.lookup x=some c->c≠s3.heap.objs.size:=λx c e z=>by
  obtain⟨v,qq⟩:=I3.cell x c e;exact absurd (b9 qq.lt (by rw[z];exact aK _)) (dX _)
 have neP: ∀p∈X.pn++pins,p.1≠s3.heap.objs.size:=λp hp z=>by
  have:=aW (I3.pin p hp).1;rw[z]at this;exact dX _ this
 have nd: ∀v,o6.data≠ .cell v:=λv z=>by
  have:o6.data= .dict es6 ep6:=rest6.1;rw[this]at z;cases z
 have J':Inv X (pins++[(s3.heap.objs.size,o6)]) σ H' s':=J.pins_of λp hp=>(cR.mp hp).elim (λz=>J.pin p (eZ _ z)) λz=>by
  have e:p=(s3.heap.objs.size,o6):=by exists z
  subst e;exact⟨ho6,fC,neL,neF,nd⟩
 show wpAny _ X.A (assign (.Name y py) X.env<|.ref D') _ _ _
 refine thn (hy _ s' σ H' (.ref D') (.ref D') D.nx J' rfl q) λ_ s7 ⟨σ7,H7,I7,q7⟩=> ?_
 obtain⟨e7,n7,_⟩:=I7.pin (s3.heap.objs.size,o6) (eZ _<|eZ _ ae)
 refine⟨m6,⟨o6,es6,ep6,e7,rest6⟩,λh' hs'=> ?_⟩
 have I8:=I7.unpinned;exact⟨σ7,H7,I8.turned (t':=s7.toks) (λb o hb e=>(hs'.2 b hb).trans e) n7 neL (.inr<|aH I3.sz<|aK _) neC neP,q7⟩
end L2
namespace M
nonrec def dS3:B->B
 | .pu d=> .pu d
 | .ow l=> .bo l
 | .bo l=> .bo l
nonrec def pC (ρ:Ev)(cap:List (Option Nat))(last:Nat):Ev:=(cap.map λc=>c.bind λj=>((ρ[j]?).join).map dS3).set last (some<|.ow [])
nonrec def dS4 (ρ:Ev)(j:Nat):Ev:=match ρ[j]? with
 | some (some<|.ow l)=>ρ.set j (some<|.pu<|.lst l)
 | _=>ρ
nonrec def uQ:Ev->List Nat->Ev
 | ρ,[]=>ρ
 | ρ,j::js=>uQ (dS4 ρ j) js
theorem dB0 (ρ:Ev)(j:Nat):Frz ρ (dS4 ρ j):=by
 unfold dS4;split
 .rename_i l e
  exact .set e
 .exact .refl _
theorem cC5: ∀(js:List Nat) (ρ:Ev),Frz ρ (uQ ρ js)
 | [],ρ=> .refl _
 | j::js,ρ=>(dB0 ρ j).trans (cC5 js _)
def d5 (js:List Nat)(cap:List (Option Nat))(last:Nat)(ui:UI)(g:UG)(tt:UT)(te:UE):UE:=λρ Q=>ui ρ λn it ρ1=> ∃Pv:Nat->Ev->Prop,Pv 0 (pC (uQ ρ1 js) cap last)/\
 (∀i ρ',i<n->Pv i ρ'->g (.pu<|it i) ρ' λρ2=>tt ρ2 λc ρ3=>if c=true then te ρ3 λb ρ4=>jS ρ4 last λl=>l.length<sizeLine/\Pv (i+1) (ρ4.set last<|some<|.ow<|l++[b.d])else Pv (i+1) ρ3)/\
 ∀ρ',Pv n ρ'->jS ρ' last λl=>Q (.ow l) (uQ ρ1 js)
def cN8 (js:List Nat)(cap:List (Option Nat))(last:Nat)(ui:UI)(g:UG)(tt:UT)(uem:(Ev->Prop)->Ev->Prop):UE:=λρ Q=>ui ρ λn it ρ1=> ∃Pv:Nat->Ev->Prop,Pv 0 (pC (uQ ρ1 js) cap last)/\
 (∀i ρ',i<n->Pv i ρ'->g (.pu<|it i) ρ' λρ2=>tt ρ2 λc ρ3=>if c=true then uem (Pv<|i+1) ρ3 else Pv (i+1) ρ3)/\
 ∀ρ',Pv n ρ'->jS ρ' last λl=>Q (.ow l) (uQ ρ1 js)
def uPut (last:Nat)(te:UE)(Nx:Ev->Prop)(ρ:Ev):Prop:=te ρ λb ρ4=>jS ρ4 last λl=>l.length<sizeLine/\Nx (ρ4.set last<|some<|.ow<|l++[b.d])
def dS5 (K:Frag)(last:Nat)(uem:(Ev->Prop)->Ev->Prop)(tem:Addr->L2.St->Hp->(L2.St->Hp->Prop)->Prop):Prop:= ∀(C:C0) (ρ:Ev) (σ:L2.St) (H:Hp) (Dn:Addr) (Nx:Ev->Prop) (NX:L2.St->Hp->Prop),EOk K C ρ σ H->σ[last]? =some (some<|.ref Dn)->uem Nx ρ->(∀ρ2 σ2 H2,EOk K C ρ2 σ2 H2->σ2[last]? =some (some<|.ref Dn)->Nx ρ2->NX σ2 H2)->tem Dn σ H NX
section
variable {X:Cx}{K:Frag}{C:C0}{ρ ρ':Ev}{σ σ':L2.St}{H H':Hp}
theorem dB1 {Dn:Addr}(I:EOk K C ρ σ H)(hl:last<cap.length)(n:H Dn=none) :
  EOk K ⟨H,Av C ρ σ⟩ (pC ρ cap last) (vW σ cap last Dn) (upd H Dn<|.lst []):=by
 have pu: ∀(i:Nat) (z:B),last≠i->(pC ρ cap last)[i]? =some (some z)-> ∃(j:Nat) (z':B),cap[i]? =some (some j)/\z=dS3 z'/\ρ[j]? =some (some z'):=λi z ne h=>by
  unfold pC at h;rw[get_set_ne ne,aZ]at h;cases e4:cap[i]? with
  | none=>rw[e4]at h;cases h
  | some c=>
   rw[e4]at h;cases c with
   | none=>cases h
   | some j=>
    have h':((ρ[j]?).join).map dS3=some z:=by exists h
    cases q:ρ[j]? with
    | none=>rw[q]at h';cases h'
    | some w=>
     rw[q]at h';cases w with
     | none=>cases h'
     | some w'=>cases h';exact⟨j,w',rfl,rfl,q⟩
 have sgm: ∀(i j:Nat) (v:V),last≠i->cap[i]? =some (some j)->σ[j]? =some (some v)->(vW σ cap last Dn)[i]? =some (some v):=λi j v e e1 h1=>by
  unfold vW;rw[get_set_ne e,aZ,e1];show some ((σ[j]?).join)=_;rw[h1];rfl
 have atl:(pC ρ cap last)[last]? =some (some<|.ow []):=by
  exact dB (by rw[aG];exact hl)
 have sal:(vW σ cap last Dn)[last]? =some (some<|.ref Dn):=by
  exact dB (by rw[aG];exact hl)
 have noOw: ∀(i:Nat) (l:List D),last≠i->(pC ρ cap last)[i]? ≠some (some<|.ow l):=λi l e h=>by
  obtain⟨j,z',_,z,_⟩:=pu i _ e h;cases z'<;>cases z
 have own: ∀a,Own (pC ρ cap last) (vW σ cap last Dn) a->a=Dn:=λa ⟨i,l,h1,h2⟩=>by
  by_cases e:last=i
  .subst e;rw[sal]at h2;cases h2;rfl
  .exact absurd h1 (noOw i l e)
 have P:kO (Av C ρ σ) H (Av ⟨H,Av C ρ σ⟩ (pC ρ cap last)<|vW σ cap last Dn) (upd H Dn<|.lst []):=λb o nb e=>by
  have ne:b≠Dn:=λz=>by subst z;rw[n]at e;cases e
  refine⟨?_,by rw[cM ne];exact e⟩
  rintro(z|z)
  .exact nb z
  .exact ne (own b z)
 refine⟨by unfold pC vW;rw[cZ,cZ,aG,aG],λi d h=> ?_,λi l h=> ?_,λi j l l' a h1 h2 h3 h4=> ?_,λi l h=> ?_,eS n _,λa z=>I.avSome z⟩
 .by_cases e:last=i
  .subst e;rw[atl]at h;cases h
  .obtain⟨j,z',e1,z,e2⟩:=pu i _ e h;cases z' with
   | pu d'=>
    cases z;obtain⟨v,h1,h2⟩:=I.pu j d e2;exact⟨v,sgm i j v e e1 h1,h2.mono P⟩
   | ow l=>cases z
   | bo l=>cases z
 .by_cases e:last=i
  .subst e;rw[atl]at h;cases h;exact⟨Dn,[],sal,iF,n,.nil⟩
  .exact absurd h (noOw i l e)
 .have e1:last=i:=aN1 λe=>absurd h1 (noOw i l e)
  have e2:last=j:=aN1 λe=>absurd h2 (noOw j l' e)
  exact e1.symm.trans e2
 .by_cases e:last=i
  .subst e;rw[atl]at h;cases h
  .obtain⟨j,z',e1,z,e2⟩:=pu i _ e h;cases z' with
   | pu d'=>cases z
   | ow l'=>
    cases z;obtain⟨a,vs,h1,h2,h3,h4⟩:=I.ow j l e2;exact⟨a,vs,sgm i j _ e e1 h1,.inr ⟨j,l,e2,h1⟩,h2,h4.mono P⟩
   | bo l'=>
    cases z;obtain⟨a,vs,h1,h2,h3,h4⟩:=I.bo j l e2;exact⟨a,vs,sgm i j _ e e1 h1,.inl h2,I.ext _ _ h3,h4.mono P⟩
theorem dB2 {te:UE}:dS5 K last (uPut last te) (tPut<|lE K te):=λC ρ σ H Dn Nx NX J l3 q nx=>⟨C,ρ,_,J,q,λb ρ5 v H5 q5 f5 s5 r5=>by
 have J5:=(J.frz f5).same s5;obtain⟨l,hl5,hz,q5⟩:=i9 q5;obtain⟨a,vs,g1,g2,g3,g4⟩:=J5.ow last l hl5;rw[l3]at g1;cases g1;exact⟨vs,g2,by rw[<-g4.length];exact hz,nx _ _ _ (J5.write hl5 l3<|g4.append<|.cons (r5.rep λa z=>J.avF f5 z) .nil) l3 q5⟩⟩
theorem e17 {ui:UI}{g:UG}{tt:UT}{uem:(Ev->Prop)->Ev->Prop}{tem:Addr->L2.St->Hp->(L2.St->Hp->Prop)->Prop}(em:dS5 K last uem tem)(hl:last<cap.length)(hT:last ∉ T)(σ:L2.St)(H:Hp)(Q:VK)(h:lE K (cN8 js cap last ui g tt uem) σ H Q) :
  bG0 cap last (lI K ui) (lG K T g) (lT K tt) tem σ H Q:=by
 obtain⟨C,ρ,Q0,I,h,k⟩:=h;refine⟨C,ρ,_,I,h,λn it ρ1 J H1 q f s ok Dn nD=> ?_⟩
 obtain⟨Pv,p0,turn,fin⟩:=q;have fz:=cC5 js ρ1;have I1:EOk K C (uQ ρ1 js) σ H1:=((I.frz f).same s).frz fz;generalize uQ ρ1 js=ρ2 at fz I1 p0 fin;have P12: ∀{A':AS} {H':Hp},kO (Av C ρ2 σ) H1 A' H'->kO (Av C ρ1 σ) H1 A' H':=λp b o nb e=>p b o (λz=>nb (fz.av z)) e
 have I2:=dB1 I1 hl nD;have own0: ∀{ρ':Ev} {σ':L2.St} {H':Hp},EOk K ⟨H1,Av C ρ2 σ⟩ ρ' σ' H'->kO (Av C ρ2 σ) H1 (Av ⟨H1,Av C ρ2 σ⟩ ρ' σ') H':=λ{ρ' σ' H'} J' b o nb e=>by
  refine⟨?_,J'.ext b o e⟩
  rintro(z| ⟨i,l,h1,h2⟩)
  .exact nb z
  .obtain⟨a,vs,h3,h4,h5,_⟩:=J'.ow i l h1;rw[h2]at h3;cases h3;have e':(⟨H1,Av C ρ2 σ⟩:C0).H0 b=some o:=e;rw[h5]at e';cases e'
 have sal:(vW σ cap last Dn)[last]? =some (some<|.ref Dn):=by
  exact dB (by rw[aG];exact hl)
 refine⟨λi m σ' H'=>m=n-i/\i<=n/\σ'[last]? =some (some<|.ref Dn)/\ ∃ρ',EOk K ⟨H1,Av C ρ2 σ⟩ ρ' σ' H'/\Pv i ρ',⟨n,rfl,eH _,sal,_,I2,p0⟩,?_⟩
 rintro i m σ' H' ⟨rfl,hi,hlast,ρ',J',p'⟩;have P:=P12 (own0 J')
 by_cases hlt:i<n
 .refine .inr ⟨ok.go _ _ i P hlt,λσ2 H2=>σ2[last]? =some (some<|.ref Dn)/\ ∃ρ3,EOk K ⟨H1,Av C ρ2 σ⟩ ρ3 σ2 H2/\Pv (i+1) ρ3,λσ2 H2 z=>⟨n-(i+1),aa,rfl,hlt,z⟩,λx H2 y=> ?_⟩
  obtain⟨s2,r2⟩:=ok.yld _ _ i x H2 P (λa z=>J'.avSome z) hlt y
  refine⟨_,ρ',.pu<|it i,H',_,J',s2,r2,turn i ρ' hlt p',λρ3 σ3 H3 q3 J3 same3=> ?_⟩
  have l3:σ3[last]? =some (some<|.ref Dn):=(same3 last hT).trans hlast;refine⟨_,ρ3,_,J3,q3,λc ρ4 H4 q4 f4 s4=> ?_⟩
  have J4:=(J3.frz f4).same s4;cases c with
  | false=>
   exact⟨l3,ρ4,J4,q4⟩
  | true=>
   exact em _ ρ4 _ _ Dn _ _ J4 l3 q4 λρ5 σ5 H5 J5 l5 q5=>⟨l5,ρ5,J5,q5⟩
 .have e:i=n:=aa
  subst e;obtain⟨l,hl5,q5⟩:=i9 (fin ρ' p');obtain⟨a,vs,g1,g2,g3,g4⟩:=J'.ow last l hl5;rw[hlast]at g1;cases g1;refine .inl ⟨ok.stop _ _ P,k _ _ _ _ q5 (f.trans fz) (s.trans J'.ext) ⟨Dn,vs,rfl,s.free nD,g2,?_⟩⟩;refine g4.mono λb o nb e=>⟨?_,e⟩
  rintro(z|z)
  .exact nb (.inl z)
  .subst z;exact nb (.inr ⟨last,l,hl5,hlast⟩)
theorem cO: ∀{X:Cx},PTs X [] (lT X.K λρ Q=>Q true ρ):=λ{X} pins s σ H Q I ⟨C,ρ,Q0,J,h,k⟩=>dS0 pins s σ H Q I (k _ ρ H h (.refl _)<|.refl _)
theorem dS6 {t:UT}(h:PUT X c t):PTs X [c] (lT X.K t):=dS1 h
theorem dB3 {iN:List Comprehension}{ui:UI}{g:UG}{tt:UT}{uem:(Ev->Prop)->Ev->Prop}{tem:Addr->L2.St->Hp->(L2.St->Hp->Prop)->Prop}(ek:dS5 X.K last uem tem)(hem: ∀it acc env,compTurn (.ListComp elt (⟨tg,iter,ifs,0⟩::iN) scope pos) 0 it acc env=b29 (.ListComp elt (⟨tg,iter,ifs,0⟩::iN) scope pos) 0 tg iter.pos ifs (em acc env) it acc env)(hc:X.calm=true)(hi:PUI X tg iter ui)(S:eJ X.env X.N N cap scope)
  (hN: ∀x,N[last]? =some x->scope.names.lookup x=none) (hl:last<cap.length) (hT:last ∉ T)
  (hg: ∀cl C s H fp pins,PUG (cA X N scope cl C s H fp pins) tg T g) (ht: ∀cl C s H fp pins,PTs (cA X N scope cl C s H fp pins) ifs<|lT X.K tt) (he: ∀cl C s H fp pins,PEm (cA X N scope cl C s H fp pins) em tem)
  (hs: ∀x,foldedSetIterable iter X.env x=pure x:=by intro _;rfl):PU X (.ListComp elt (⟨tg,iter,ifs,0⟩::iN) scope pos) (cN8 js cap last ui g tt uem):=
 jA (dS2 (g:=lG X.K T g) hem hc hi S hN hg ht he hs) (e17 ek hl hT)
theorem dS7 {ui:UI}{g:UG}{tt:UT}{te:UE}(hc:X.calm=true)(hi:PUI X tg iter ui)(S:eJ X.env X.N N cap scope)
  (hN: ∀x,N[last]? =some x->scope.names.lookup x=none) (hl:last<cap.length) (hT:last ∉ T)
  (hg: ∀cl C s H fp pins,PUG (cA X N scope cl C s H fp pins) tg T g) (ht: ∀cl C s H fp pins,PTs (cA X N scope cl C s H fp pins) ifs<|lT X.K tt) (he: ∀cl C s H fp pins,PU (cA X N scope cl C s H fp pins) elt te)
  (hs: ∀x,foldedSetIterable iter X.env x=pure x:=by intro _;rfl):PU X (.ListComp elt [⟨tg,iter,ifs,0⟩] scope pos) (d5 js cap last ui g tt te):=
 dB3 (dB2) (λ_ _ _=>rfl) hc hi S hN hl hT hg ht (λcl C s H fp pins=>c27 (he cl C s H fp pins)) hs
theorem cC6 {iN:List Comprehension}{ui:UI}{g:UG}{tt:UT}{uem:(Ev->Prop)->Ev->Prop}{tem:Addr->L2.St->Hp->(L2.St->Hp->Prop)->Prop}(i:Nat)(ek:dS5 X.K last uem tem)(hem: ∀it acc env,compTurn (.ListComp elt (⟨tg,iter,ifs,0⟩::iN) scope pos) 0 it acc env=b29 (.ListComp elt (⟨tg,iter,ifs,0⟩::iN) scope pos) 0 tg iter.pos ifs (em acc env) it acc env)(hc:X.calm=true)(hi:PUI X tg iter ui)(S:eJ X.env X.N N cap scope)
  (hN: ∀x,N[last]? =some x->scope.names.lookup x=none) (hl:last<cap.length) (hT:last ∉ T)
  (hg: ∀cl C s H fp pins,PUG (cA X N scope cl C s H fp pins) tg T g) (ht: ∀cl C s H fp pins,PTs (cA X N scope cl C s H fp pins) ifs<|lT X.K tt) (he: ∀cl C s H fp pins,PEm (cA X N scope cl C s H fp pins) em tem)
  (hy:PG X (.Name y py) (a75 i)) (hi': ∀pins σ H s,Inv X pins σ H s->i<σ.length) (hsw:↥(swapsWith (.ListComp elt (⟨tg,iter,ifs,0⟩::iN) scope pos) (some<|.Name y py) spos.line X.env=pure true))
  (hs: ∀x,foldedSetIterable iter X.env x=pure x:=by intro _;rfl):PUS X (.Assign [.Name y py] (.ListComp elt (⟨tg,iter,ifs,0⟩::iN) scope pos) spos) (bJ i<|cN8 js cap last ui g tt uem):=by
 intro pins s σ H D I q;refine bG1 (g:=lG X.K T g) hem hc hi S hN hg ht he hy hsw hs pins s σ H D I ?_;obtain⟨C,ρ,D0,J,h,k⟩:=q;exact e17 ek hl hT σ H _ ⟨C,ρ,_,J,h,λb ρ1 v H1 q f s1 r=>k.nx _ _ _ q ((J.frz f).store s1 r<|hi' pins σ H s I)⟩
theorem cN9 {ui:UI}{g:UG}{tt:UT}{te:UE}(i:Nat)(hc:X.calm=true)(hi:PUI X tg iter ui)(S:eJ X.env X.N N cap scope)
  (hN: ∀x,N[last]? =some x->scope.names.lookup x=none) (hl:last<cap.length) (hT:last ∉ T)
  (hg: ∀cl C s H fp pins,PUG (cA X N scope cl C s H fp pins) tg T g) (ht: ∀cl C s H fp pins,PTs (cA X N scope cl C s H fp pins) ifs<|lT X.K tt) (he: ∀cl C s H fp pins,PU (cA X N scope cl C s H fp pins) elt te)
  (hy:PG X (.Name y py) (a75 i)) (hi': ∀pins σ H s,Inv X pins σ H s->i<σ.length) (hsw:↥(swapsWith (.ListComp elt [⟨tg,iter,ifs,0⟩] scope pos) (some<|.Name y py) spos.line X.env=pure true))
  (hs: ∀x,foldedSetIterable iter X.env x=pure x:=by intro _;rfl):PUS X (.Assign [.Name y py] (.ListComp elt [⟨tg,iter,ifs,0⟩] scope pos) spos) (bJ i<|d5 js cap last ui g tt te):=
 cC6 i (dB2) (λ_ _ _=>rfl) hc hi S hN hl hT hg ht (λcl C s H fp pins=>c27 (he cl C s H fp pins)) hy hi' hsw hs
end
end M
end
section
namespace L2
section
variable {X:Cx}
theorem cW1 {bs:List Bool}: ∀{its:List Value},Vals (bs.map V.bl) its->LSm.BoolsAre its bs:=by
 induction bs with
 | nil=>intro its r;cases r;exact .nil
 | cons b bs ih=>
  intro its r;cases r with
  | cons r1 r2=>
   cases r1;exact .cons b (ih r2)
theorem cO0 (hc:X.calm=true):oE X (.builtin "all") (λxs H Q=> ∃(p:Addr) (bs:List Bool),xs=[.ref p]/\SqL X.K H p (bs.map V.bl)/\Q (.bl<|bs.all id) H):=by
 intro pins s σ H xs us Q I r h;obtain⟨p,bs,rfl,hq,q⟩:=h;obtain⟨u,rfl,rx⟩:=vals1 r;cases rx;obtain⟨its,rv,pl,hz⟩:=I.list hq;have ba:=cW1 rv;refine call_all_walk (zU pl.isList ?_);have hne:p≠s.heap.objs.size:=by
  obtain⟨o,n,e,_⟩:=pl;exact bM (aW e)
 refine⟨s.heap.objs.size,_,_,_,_,_,λi=>(bs[i]?).getD true,rfl,Walks.list (A:=X.A.in1) (I.ok.hd hc) s.heap.objs.size p (λz=>hne z) its.toArray,⟨⟨_,cD _ rfl,rfl,rfl⟩,pl.isList.push _⟩,?_,λh' tk hk=> ?_⟩
 .intro i v s' Q' E' hP hQ;obtain⟨b,hb,rfl⟩:=ba.get i v (by exists hP)
  refine kU ?_
  dsimp only at hQ;rw[hb]at hQ;exact hQ
 .have e:=LSm.range_all bs;have hl:=ba.length;have e2:its.toArray.size=bs.length:=by rw[bD,hl]
  rw[e2,e];exact⟨.bl<|bs.all id,H,I.kept λb o e=>hk b o (by simpa using bM (aW e)) (aV _ e),rfl,q⟩
theorem cO1 (hc:X.calm=true):oE X (.builtin "sum") (λxs H Q=> ∃(p:Addr) (ns:List Int),xs=[.ref p]/\SqL X.K H p (ns.map V.int)/\Q (.int ns.sum) H):=by
 intro pins s σ H xs us Q I r h;obtain⟨p,ns,rfl,hq,q⟩:=h;obtain⟨u,rfl,rx⟩:=vals1 r;cases rx;obtain⟨its,rv,pl,hz⟩:=I.list hq;have hi:IntsAre its ns:=by simpa using intsAre_of rv
 obtain⟨xs,hx⟩:=hi.allInts.items;have hl':s.heap.IsList p (intItems xs):=hx▸pl.isList;refine sum_intListG (I.ok.hd hc) hl' λh' tk t' hk=> ?_
 have e1:ns=xs.toList.map (·.1):=by
  rw[<-nums_intItems,<-hx];exact(show numsOf its.toArray.toList=ns from hi.numsOf).symm
 have e2:preSum (numAt xs) xs.size=ns.sum:=by
  rw[preSum_eq,zN ae,e1]
 rw[e2];exact⟨.int ns.sum,H,I.kept hk,⟨_,rfl⟩,q⟩
nonrec def tN (esc:List (Str×NameKind))(XN N:List Str)(cap:List (Option Nat))(scope:Scope)(last:Nat):Bool:=
 (scope.kind== .function)&&scope.names.all (λy=>y.2 != .cell||scope.names.lookup y.1==some .cell)&&scope.names.all (λy=>y.2 != .free||scope.names.lookup y.1==some .free)&&scope.names.all (λy=>y.2 != .local||scope.names.lookup y.1==some .local)&&
 scope.names.all (λy=>y.2 != .free||esc.lookup y.1==some .cell||esc.lookup y.1==some .free)&&
 (N.zip cap).all (λz=>match z.2 with|none=>true|some j=>XN[j]? ==some z.1&&scope.names.contains (z.1,.free)&&scope.names.lookup z.1==some .free)&&
 (cap.length==N.length)&&(match N[last]? with|some x=>(scope.names.lookup x).isNone|none=>true)
theorem eJ.of {env:Env}(he:env.scope.names=esc)(h:tN esc XN N cap scope last=true) :
  eJ env XN N cap scope/\ ∀x,N[last]? =some x->scope.names.lookup x=none:=by
 unfold tN at h;simp only[cQ,cL,gI]at h;obtain⟨⟨⟨⟨⟨⟨⟨h1,h2⟩,h2'⟩,h3⟩,h4⟩,h5⟩,h6⟩,h7⟩:=h;have hk: ∀x,env.kindOf x=esc.lookup x:=λx=>by unfold Env.kindOf;rw[he]
 refine⟨⟨h1,λy hy hl=>by have:=h2 y hy;rw[hl]at this;simpa using this,λy hy hl=>by have:=h2' y hy;rw[hl]at this;simpa using this,λy hy hl=> ?_,λy hy hf=> ?_,λi j x e1 e2=> ?_,h6⟩,λx e=> ?_⟩
 .have:=h3 y hy;rw[hl]at this
  exists this
 .have:=h4 y hy;rw[hf]at this;rw[hk]
  exists this
 .have hm:(x,some j)∈N.zip cap:=by
   refine fX (i:=i) ?_
   rw[List.getElem?_zip_eq_some];exact⟨e1,e2⟩
  have:=h5 _ hm;simp only[cQ,gI]at this;obtain⟨⟨a,b⟩,c⟩:=this;exact⟨a,by simpa using b,c⟩
 .rw[e]at h7
  exists h7
end
end L2
namespace M
section
variable {X:Cx}{K:Frag}{A:AS}{H:Hp}
nonrec def wO:List D->Option (List Bool)
 | []=>some []
 | .bl b::r=>(wO r).map (b::·)
 | _=>none
nonrec def aK6:List D->Option (List Int)
 | []=>some []
 | .int b::r=>(aK6 r).map (b::·)
 | _=>none
theorem iI (bs:List Bool):wO (bs.map .bl)=some bs:=by
 induction bs with
 | nil=>rfl
 | cons b bs ih=>rw[dY];show(wO<|bs.map .bl).map _=_;rw[ih];rfl
theorem b30 (bs:List Int):aK6 (bs.map .int)=some bs:=by
 induction bs with
 | nil=>rfl
 | cons b bs ih=>rw[dY];show(aK6<|bs.map .int).map _=_;rw[ih];rfl
theorem aR6: ∀{l:List D} {bs:List Bool} {vs:List V},wO l=some bs->bX K A H l vs->vs=bs.map V.bl
 | [],bs,vs,h,r=>by cases h;exact r.unnil
 | d::r,bs,vs,h,q=>by
  obtain⟨v,vr,rfl,rv,rr⟩:=q.uncons;cases d with
  | bl b=>
   have h':(wO r).map (b::·)=some bs:=h;cases e:wO r with
   | none=>rw[e]at h';cases h'
   | some bs'=>
    rw[e]at h';cases h';rw[vV rv,aR6 e rr];rfl
  | _=>cases h
theorem b31: ∀{l:List D} {bs:List Int} {vs:List V},aK6 l=some bs->bX K A H l vs->vs=bs.map V.int
 | [],bs,vs,h,r=>by cases h;exact r.unnil
 | d::r,bs,vs,h,q=>by
  obtain⟨v,vr,rfl,rv,rr⟩:=q.uncons;cases d with
  | int b=>
   have h':(aK6 r).map (b::·)=some bs:=h;cases e:aK6 r with
   | none=>rw[e]at h';cases h'
   | some bs'=>
    rw[e]at h';cases h';rw[bL rv,b31 e rr];rfl
  | _=>cases h
nonrec def bG2:List D->(B->Prop)->Prop:=g1 λd Q=>match d with
 | .lst l=>(match wO l with
  | some bs=>Q (.pu<|.bl<|bs.all id)
  | none=>False)
 | _=>False
theorem aA6 (hc:X.calm=true):uN X (.builtin "all") bG2:=by
 intro A H ds vs Q0 Q hA r g k;obtain⟨d,v,rfl,rfl,rv,g⟩:=a16 g r;cases d with
 | lst l=>
  dsimp only at g;cases e:wO l with
  | none=>rw[e]at g;exact g.elim
  | some bs=>
   rw[e]at g;obtain⟨a,vs,rfl,n,c,rs⟩:=rv;rw[aR6 e rs]at c;exact⟨_,cO0 hc,a,bs,rfl,SqL.of c,k _ _ H g (.refl _) l9⟩
 | _=>exact(show False from g).elim
nonrec def gSum:List D->(B->Prop)->Prop:=g1 λd Q=>match d with
 | .lst l=>(match aK6 l with
  | some ns=>Q (.pu<|.int ns.sum)
  | none=>False)
 | _=>False
theorem cu_sum (hc:X.calm=true):uN X (.builtin "sum") gSum:=by
 intro A H ds vs Q0 Q hA r g k;obtain⟨d,v,rfl,rfl,rv,g⟩:=a16 g r;cases d with
 | lst l=>
  dsimp only at g;cases e:aK6 l with
  | none=>rw[e]at g;exact g.elim
  | some bs=>
   rw[e]at g;obtain⟨a,vs,rfl,n,c,rs⟩:=rv;rw[b31 e rs]at c;exact⟨_,cO1 hc,a,bs,rfl,SqL.of c,k _ _ H g (.refl _) aJ4⟩
 | _=>exact(show False from g).elim
theorem cW2 {i:Int}{t:Tok}(hg:Gl X x)(hm:X.mg x=some (.int i t))(hd:⇑(x∪0)):PU X (.Name x p) (uC<|.int i):=
 c18 (cV0 (v:= .int i) hg hm ⟨t,rfl⟩ hd) λA H=>by simp only[Rep]
theorem aA7:bootBuiltins "all"=some (.builtin "all"):=af
theorem bt_sum:bootBuiltins "sum"=some (.builtin "sum"):=af
theorem aA8 {ui:UI}{g:UG}{tt:UT}{te:UE}(he0:X.env.scope.names=esc)(hx0:X.N=XN)(lk:tN esc XN N cap scope last=true)(hl:last<cap.length)(hT:last ∉ T)(hc:X.calm=true)(hi:PUI X tg iter ui)
  (hg: ∀cl C s H fp pins,PUG (cA X N scope cl C s H fp pins) tg T g) (ht: ∀cl C s H fp pins,PTs (cA X N scope cl C s H fp pins) ifs<|lT X.K tt) (he: ∀cl C s H fp pins,PU (cA X N scope cl C s H fp pins) elt te)
  (hs: ∀x,foldedSetIterable iter X.env x=pure x:=by intro _;rfl):PU X (.ListComp elt [⟨tg,iter,ifs,0⟩] scope pos) (d5 js cap last ui g tt te):=
 dS7 hc hi (eJ.of he0<|hx0▸lk).1 (eJ.of he0<|hx0▸lk).2 hl hT hg ht he hs
theorem rN {ui:UI}{g:UG}{tt:UT}{te:UE}(i:Nat)(he0:X.env.scope.names=esc)(hx0:X.N=XN)(lk:tN esc XN N cap scope last=true)(hl:last<cap.length)(hT:last ∉ T)(hc:X.calm=true)(hi:PUI X tg iter ui)
  (hg: ∀cl C s H fp pins,PUG (cA X N scope cl C s H fp pins) tg T g) (ht: ∀cl C s H fp pins,PTs (cA X N scope cl C s H fp pins) ifs<|lT X.K tt) (he: ∀cl C s H fp pins,PU (cA X N scope cl C s H fp pins) elt te)
  (hy:PG X (.Name y py) (a75 i)) (hi': ∀pins σ H s,Inv X pins σ H s->i<σ.length) (hsw:↥(swapsWith (.ListComp elt [⟨tg,iter,ifs,0⟩] scope pos) (some<|.Name y py) spos.line X.env=pure true))
  (hs: ∀x,foldedSetIterable iter X.env x=pure x:=by intro _;rfl):PUS X (.Assign [.Name y py] (.ListComp elt [⟨tg,iter,ifs,0⟩] scope pos) spos) (bJ i<|d5 js cap last ui g tt te):=
 cN9 i hc hi (eJ.of he0<|hx0▸lk).1 (eJ.of he0<|hx0▸lk).2 hl hT hg ht he hy hi' hsw hs
def aV9 (te:UE):US:=λD ρ=>te ρ λ_ ρ1=>D.nx ρ1
theorem c28 {te:UE}(he:PU X e te)(hs:↥(swapsWith e none pos.line X.env=pure false)):PUS X (.Expr e pos) (aV9 te):=
 mI (aH3 he hs) λD σ H ⟨C,ρ,D0,I,h,k⟩=>⟨C,ρ,_,I,h,λb ρ1 v H1 q f s r=>k.nx _ _ _ q ((I.frz f).same s)⟩
theorem mU: ∀ds ρ Q,rL ds ρ Q->ds.length=0:=λds ρ Q h=>by rw[h.1];rfl
theorem dU {u:UGs}(h: ∀ds ρ Q,u ds ρ Q->ds.length=n): ∀ds ρ Q,fV i u ds ρ Q->ds.length=n+1:=λds ρ Q q=>by
 cases ds with
 | nil=>exact(show False from q).elim
 | cons d r=>rw[dP,h r _ Q q.2]
end
theorem Fn.void {ps:List Str}(F:Fun K x qual st f fd)(m:mg x=some (.ref f))(b:Binds K fd ps [])(h: ∀ds Q,¬φ ds Q):Fn<$>x ps 1 φ:=
 ⟨f,fd,⟨λvs H Q E ⟨_,ds,Q0,_,_,z,_⟩=>absurd z (h ds Q0),λA outer s H args us vs Q E _ _ _ _ ⟨_,ds,Q0,_,_,z,_⟩=>absurd z (h ds Q0)⟩,b,F.kp,m⟩
end M
end
section
namespace HT
open PySem PyProof.Rows
end HT
namespace L2
end L2
namespace M
section
variable {X:Cx}{K:Frag}{A:AS}{H:Hp}{e e3:Expr}{t3:UE}{pos p2:Pos}
def gIn (neg:Bool)(d e:D)(Q:B->Prop):Prop:= ∃(i:Int) (js:List Int),d= .int i/\(e= .tup (js.map D.int)\/e= .lst (js.map D.int)\/e= .rol (js.map D.int))/\Q (.pu<|.bl<|neg ^^ decide (i∈js))
theorem bX.unints: ∀{js:List Int} {vs:List V},bX K A H (js.map D.int) vs->vs=js.map V.int
 | [],_,h=>by simp only[nR,bX]at h;exact h
 | j::js,vs,h=>by
  simp only[dY,bX]at h;obtain⟨v,vr,rfl,r,rs⟩:=h;rw[bL r,bX.unints rs];rfl
theorem dB4 (i:Int)(js:List Int):inV (.int i) (js.map V.int)=decide (i∈js):=by
 unfold inV
 induction js with
 | nil=>rfl
 | cons j js ih=>
  rw[dY,a04,ih];show((j==i)||decide (i∈js))=decide (i∈j::js)
  by_cases h:j=i
  .subst h;simp
  .have h': ¬i=j:=λz=>h z.symm
   simp[h,h']
theorem b32 (js:List Int):(js.map V.int).all aV5=true:=by
 induction js with
 | nil=>rfl
 | cons j js ih=>rw[dY,a03,ih];rfl
theorem ou_inG {neg:Bool}{op:Value->Value->Sem Value}(ho:OpR X op (rIn X.K neg)):OpU X op (gIn neg):=by
 intro A H d e v w Q0 Q hA r1 r2 g k;obtain⟨i,js,rfl,he,g⟩:=g;have e1:=bL r1;subst e1;have fin:Q (.bl<|if neg=true then !inV (.int i) (js.map V.int)else inV (.int i) (js.map V.int)) H:=by
  rw[dB4];refine k _ _ H g (.refl _) ?_;cases neg
  .rw[a7 ac,l4];exact l9
  .rw[aA rfl,pW];exact l9
 rcases he with rfl|rfl|rfl
 .simp only[Rep]at r2;obtain⟨a,vs,rfl,c,rs⟩:=r2;have:=rs.unints;subst this;exact⟨_,ho,a,_,rfl,.inr<|c.imp cT id,rfl,b32 js,fin⟩
 .simp only[Rep]at r2;obtain⟨a,vs,rfl,n,c,rs⟩:=r2;have:=rs.unints;subst this;exact⟨_,ho,a,_,rfl,.inl<|SqL.of c,rfl,b32 js,fin⟩
 .simp only[Rep]at r2;obtain⟨a,vs,rfl,c,rs⟩:=r2;have:=rs.unints;subst this;exact⟨_,ho,a,_,rfl,.inl<|c.imp cT id,rfl,b32 js,fin⟩
theorem dB5:OpU X (compareOp .NotIn) (gIn true):=ou_inG c14
end
end M
end
section
namespace L2
nonrec def Itd (lo:Int)(n:Nat):It:={go:=λi _=>i<n,yld:=λi H x H'=>H'=H/\x=V.int (lo-(i:Int)),stop:=λi _=>n<=i}
theorem bV8 (it:Addr)(lo:Int)(n:Nat):cA6 P w K tg (Itd lo n) [it] it (λi h=>IsRangeIter h it (lo+(i:Nat)*(-1)) ((n:Int)-(i:Nat)) (-1)) where
 mem:=ae
 obj:=λi h st b hb=>by
  have e:b=it:=by exists hb
  subst e;exact⟨_,st,λv z=>by
   have z':Data.fields _=Data.cell v:=z;cases z'⟩
 keep:=λi h h' st k=>k it ae _ st
 item:=by
  intro X hP hw hK hc i pins s σ H E I hf st hg;subst hP hw hK;obtain⟨f0,f1,f2,f3,f4,f5⟩:=hf it ae
  have W:=Walks.range (prog:=X.prog) (w:=X.w) (I.ok.hd hc) it lo (-1) n;refine W.item i s _ _ hg st λv h' tk hv st' kk=> ?_
  obtain⟨t,rfl⟩:=hv;have I1:Inv X pins σ H {s with heap:=h',toks:=tk}:=I.turned (λb o hb e=>kk b o (by exists hb) e) f0 f1 f3 f4 f5
  refine⟨_,rfl,cA7 (s:={s with heap:=h',toks:=tk}) (n:="range_iterator") st' rfl rfl ac ⟨.int<|lo-i,H,I1,⟨t,?_⟩,⟨rfl,rfl⟩,st',λb hb=>(hf b hb).1⟩⟩
  rw[show lo+((i:Nat):Int)*(-1)=lo-(i:Int)by lia]
 done:=by
  intro X hP hw hK hc i pins s σ H E I hf st hg;subst hP hw hK;obtain⟨f0,f1,f2,f3,f4,f5⟩:=hf it ae
  exact wpAny_pyNext_range_end (I.ok.hd hc) st (by have:n<=i:=hg;lia) λh' eb=>⟨rfl,I.turned (t':=s.toks) (λb o hb e=>eb b o hb e) f0 f1 f3 f4 f5⟩
 self:=λ_ _ _ _ _ st h=>aN8 st h
section
variable {X:Cx}{tg:Expr}
theorem bV9 (a b:Int):Builtin.Range.rangeSize a b (-1)=(((a-b).toNat:Nat):Int):=by
 unfold Builtin.Range.rangeSize;rw[a7 ac]
 split<;>simp<;>lia
theorem small_down {a b:Int}(h1: -(2^31)<=a)(h2:a<2^31)(h3: -(2^31)<=b)(h4:b<2^31):Builtin.Range.small a b (-1)=true:=by
 unfold Builtin.Range.small;rw[bV9];simp[Builtin.Range.rangeFitsLong];omega
theorem cO2 {σ:St}{H:Hp}{R:It->Hp->Prop}{hi:Int}{t u v:Tok}(I:Inv X pins σ H s)(h1: -(2^31)<=lo)(h2:lo<2^31)(h3: -(2^31)<=hi)(h4:hi<2^31)
  (q:R (Itd lo (lo-hi).toNat) H):X∩(pyIter<|.ref s.heap.objs.size) (PIE X pins σ tg R) E {s with heap:=s.heap.push {cls:= .type "range",data:= .fields #[.int lo t,.int hi u,.int (-1) v]},toks:=tk}:=by
 refine wpAny_pyIter_range (IsRange.new ..) (small_down h1 h2 h3 h4) ?_
 have I1:Inv X pins σ H {s with heap:=s.heap.push {cls:= .type "range",data:= .fields #[.int lo t,.int hi u,.int (-1) v]},toks:=tk}:=I.kept λb o e=>aV _ e
 refine⟨(s.heap.push {cls:= .type "range",data:= .fields #[.int lo t,.int hi u,.int (-1) v]}).objs.size,[(s.heap.push {cls:= .type "range",data:= .fields #[.int lo t,.int hi u,.int (-1) v]}).objs.size],_,_,H,rfl,
  I1.kept (t':=tk) λb o e=>aV _ e,bV8 _ lo (lo-hi).toNat,?_,λb hb=> ?_,q⟩
 .have e1:lo+((0:Nat):Int)*(-1)=lo:=ae
  have e2:(((lo-hi).toNat:Nat):Int)-((0:Nat):Int)=Builtin.Range.rangeSize lo hi (-1):=by rw[bV9];simp
  show IsRangeIter _ _ (lo+((0:Nat):Int)*(-1)) ((((lo-hi).toNat:Nat):Int)-((0:Nat):Int)) (-1)
  rw[e1,e2];exact cD _ rfl
 .have e:b=(s.heap.push {cls:= .type "range",data:= .fields #[.int lo t,.int hi u,.int (-1) v]}).objs.size:=by exists hb
  subst e;exact I1.fpOk (aK _) (I1.hok.fresh<|aK _)
def iRngD (ta:TA):TI:=λσ H R=>ta σ H λvs H1=> ∃i j:Int,vs=[.int i,.int j,.int<|-1]/\(-(2^31)<=i/\i<2^31/\ -(2^31)<=j/\j<2^31)/\R (Itd i (i-j).toNat) H1
theorem d20 {a b:Expr}{ta:TA}(hg:Gl X "range")(hm:X.mg "range"=none)(ha:PA X [a,b,c] ta)(hs:↥(starEach [a,b,c] X.env=[(false,eval a X.env),(false,eval b X.env),(false,eval c X.env)]))(hs2:↥(starEach [b,c] X.env=[(false,eval b X.env),(false,eval c X.env)])) :
  PI X tg (.Call (.Name "range" p) [a,b,c] [] pos) (iRngD ta):=by
 intro pins s σ H R I h;refine Call_ (uM I hg hm boot_range<|jV (thn (ha pos pins s σ H _ I h) λus s1 ⟨vs,H1,I1,r1,q1⟩=> ?_) (by rw[hs,hs2]) (by rw[hs2];rfl))
 obtain⟨i,j,e,⟨q1,q2,q3,q4⟩,q⟩:=q1;subst e;cases r1 with
 | cons r rr=>
  cases rr with
  | cons r' rr=>
   cases rr with
   | cons r'' rr=>
    cases rr;obtain⟨t,rfl⟩:=r;obtain⟨t',rfl⟩:=r';obtain⟨t'',rfl⟩:=r'';exact call_range_3 ac (cO2 I1 q1 q2 q3 q4 q) (.inl (by
     unfold Builtin.divisionGoesByPylong;simp;intro hz;have:Nat.log2 1=0:=ac
     lia))
end
end L2
namespace M
section
variable {X:Cx}{K:Frag}{H:Hp}{pos:Pos}
theorem bW0 {A:AS}:cC1 K A H (Itd lo n) n (λi=> .int (lo-i)):=
 ⟨λ_ _ _ _ h=>h,λ_ _ i x H'' _ _ _ ⟨e,y⟩=>by subst e;subst y;exact⟨.refl _,by simp only[Rep]⟩,λ_ _ _=>aK n⟩
def b80 (ta:UA):UI:=λρ Q=>ta ρ λds ρ1=>match ds with
 | [.int i,.int j,.int m]=>m= -1/\(-(2^31)<=i/\i<2^31/\ -(2^31)<=j/\j<2^31)/\Q (i-j).toNat (λk=> .int (i-k)) ρ1
 | _=>False
theorem yM {a b:Expr}{ta:UA}(hg:Gl X "range")(hm:X.mg "range"=none)(ha:PUA X [a,b,c] ta)(hs:↥(starEach [a,b,c] X.env=[(false,eval a X.env),(false,eval b X.env),(false,eval c X.env)]))(hs2:↥(starEach [b,c] X.env=[(false,eval b X.env),(false,eval c X.env)])) :
  PUI X tg (.Call (.Name "range" p) [a,b,c] [] pos) (b80 ta):=
 b78 (d20 hg hm ha hs hs2) λσ H R ⟨C,ρ,Q0,I,h,k⟩=>⟨C,ρ,_,I,h,λds ρ1 vs H1 q f s r=>by
  split at q
  .rename_i i j m
   obtain⟨v,vr,rfl,rv,rr⟩:=r.uncons;obtain⟨w,wr,rfl,rw',rr'⟩:=rr.uncons;obtain⟨z,zr,rfl,rz,rr''⟩:=rr'.uncons;have:=rr''.unnil;subst this;have:=bL rv;subst this;have:=bL rw';subst this;have:=bL rz;subst this;obtain⟨hm,hb,q⟩:=q;subst hm;exact⟨i,j,rfl,hb,k _ _ ρ1 _ H1 q f s bW0⟩
  .exact q.elim⟩
end
end M
end
section
namespace L2
section
variable {X:Cx}{pins:List (Addr×Obj)}{σ:St}{H:Hp}{s:Shared}{h':Heap}
theorem Inv.turnedNew {o:HO}(I:Inv X pins σ H s)(k: ∀b u,b ∉ ch->s.heap.get? b=some u->h'.get? b=some u)(hf: ∀b∈ch,b19 X pins H b)
  (hp:s.heap.objs.size<=a) (new:rK X.prog X.w (upd H a o) h' a o):Inv X pins σ (upd H a o) {s with heap:=h',toks:=t'}:=by
 have hn:H a=none:=I.hok.fresh hp;have nch: ∀b u,H b=some u->b ∉ ch:=λb u e z=>by have:=(hf b z).1;rw[e]at this;cases this
 refine I.step (g':=s.gens) (d':=s.drawn) (ch:=ch) (λb hb=>⟨(hf b hb).2.2.2.1,(hf b hb).2.1,(hf b hb).2.2.2.2.1,(hf b hb).2.2.2.2.2⟩) (λb u _ _ hc e _=>k b u hc e) (λb u _ _ hc e _=>⟨u.slots,k b u hc e⟩)
  (λb u _ e n=>by rw[cM<|bM<|b9 (aW e) hp];exact n) (λb u hc e=>⟨u,k b u hc e⟩)
  (λb xs e=>by rw[cM<|dJ e hn];exact e) (λb ob u e=>by rw[cM<|dJ e hn];exact e) (λb ps e=>⟨#[],by rw[cM<|dJ e hn,e];simp⟩) (λm hm=> ?_) (λb u e=> ?_) I.bare
 .obtain⟨ob,es,ep,ho,r⟩:=hm;exact⟨ob,es,ep,k _ ob (λz=>(hf _ z).2.1 rfl) ho,r⟩
 .by_cases hb:b=a
  .subst hb;rw[iF]at e;cases e;exact new
  .rw[cM hb]at e;refine(I.hok b u e).stay (λc v hc q=>k c v ?_ q) (λc q=>by rw[cM<|dJ q hn];exact q) λc xs q=>by rw[cM<|dJ q hn];exact q
   rcases hc with z|z
   .rw[z];exact nch b u e
   .exact nch c _ z
theorem Inv.turnedL (I:Inv X pins σ H s)(k: ∀b u,b ∉ ch->s.heap.get? b=some u->h'.get? b=some u)(hf: ∀b∈ch,b19 X pins H b):Inv X pins σ H {s with heap:=h',toks:=t'}:=by
 have nch: ∀b u,H b=some u->b ∉ ch:=λb u e z=>by have:=(hf b z).1;rw[e]at this;cases this
 refine I.step (λb hb=>⟨(hf b hb).2.2.2.1,(hf b hb).2.1,(hf b hb).2.2.2.2.1,(hf b hb).2.2.2.2.2⟩) (λb u _ _ hc e _=>k b u hc e) (λb u _ _ hc e _=>⟨u.slots,k b u hc e⟩)
  (λb u _ e n=>n) (λb u hc e=>⟨u,k b u hc e⟩) (λb xs e=>e) (λb ob u e=>e) (λb ps e=>⟨#[],by rw[e];simp⟩) (λm hm=> ?_) (λb u e=> ?_) I.bare
 .obtain⟨ob,es,ep,ho,r⟩:=hm;exact⟨ob,es,ep,k _ ob (λz=>(hf _ z).2.1 rfl) ho,r⟩
 .refine(I.hok b u e).stay (λc v hc q=>k c v ?_ q) (λc q=>q) λc xs q=>q
  rcases hc with z|z
  .rw[z];exact nch b u e
  .exact nch c _ z
end
def vR (T:Bool)(h:Heap)(a:Addr)(xs:Array Value):Prop:=match T with
 | false=>h.IsList a xs
 | true=>h.IsTuple a xs
def vS (T:Bool)(h:Heap)(it a:Addr)(i:Nat):Prop:=match T with
 | false=>h.IsListIter it a i
 | true=>h.IsTupleIter it a i
nonrec def aA9 (T:Bool)(a:Addr):Obj:=match T with
 | false=>{cls:= .type "list_iterator",data:= .fields #[.ref a,.int 0 0]}
 | true=>{cls:= .type "tuple_iterator",data:= .fields #[.ref a,.int 0 0]}
def SqV (K:Frag)(T:Bool)(H:Hp)(a:Addr)(xs:List V):Prop:=match T with
 | false=>SqL K H a xs
 | true=>SqT K H a xs
theorem vR.at {T:Bool}(x:vR T h a xs)(e: ∀o,h.get? a=some o->h'.get? a=some o):vR T h' a xs:=by
 cases T<;>(obtain⟨o,ho,r⟩:=x;exact⟨o,e o ho,r⟩)
theorem vS.at {T:Bool}(x:vS T h it a i)(e: ∀o,h.get? it=some o->h'.get? it=some o):vS T h' it a i:=by
 cases T<;>(obtain⟨o,ho,r⟩:=x;exact⟨o,e o ho,r⟩)
theorem vR.lt {T:Bool}(x:vR T h a xs):a<h.objs.size:=by
 cases T<;>(obtain⟨o,ho,r⟩:=x;exact aW ho)
theorem vS.rec' {T:Bool}(x:vS T h it a i): ∃o,h.get? it=some o/\ ∀v,o.data≠ .cell v:=by
 cases T<;>(obtain⟨o,ho,hc,hd⟩:=x;exact⟨o,ho,λv z=>by rw[hd]at z;cases z⟩)
theorem vS.new {T:Bool}(h:Heap)(a:Addr):vS T (h.push<|aA9 T a) h.objs.size a 0:=by
 cases T<;>exact⟨_,cD _ rfl,rfl,rfl⟩
section
variable {X:Cx}{pins:List (Addr×Obj)}{σ:St}{H:Hp}{s:Shared}
theorem Inv.sq {T:Bool}{xs:List V}(I:Inv X pins σ H s)(h:SqV X.K T H a xs): ∃its:List Value,Vals xs its/\vR T s.heap a its.toArray/\xs.length<=sizeLine:=by
 cases T with
 | false=>obtain⟨its,rv,p,hz⟩:=I.list h;exact⟨its,rv,p.isList,hz⟩
 | true=>obtain⟨its,rv,p,hz⟩:=I.tuple h;exact⟨its,rv,p,hz⟩
theorem Inv.sq_inj {T:Bool}{xs ys:List V}(I:Inv X pins σ H s)(h:SqV X.K T H a xs)(h':SqV X.K T H a ys):xs=ys:=by
 cases T with
 | false=>exact I.list_inj h h'
 | true=>exact I.tuple_inj h h'
end
section
variable {prog:Program}{w:World}{A:Around}{E:Value->Shared->Prop}{s:Shared}
theorem aH6 {T:Bool}(hl:vR T s.heap a xs)(hQ:Q (.ref s.heap.objs.size) {s with heap:=s.heap.push (aA9 T a)}) :
  wpAny (model prog w) A (pyIter<|.ref a) Q E s:=by
 cases T with
 | false=>exact zU hl hQ
 | true=>exact aP6 hl hQ
theorem dB6 {x:Value}(hit:s.heap.IsTupleIter it t i)(ht:s.heap.IsTuple t items)(hx:items[i]? =some x)
  (hQ: ∀h',h'.IsTupleIter it t (i+1)->SameBut it s.heap h'->Q x {s with heap:=h'}):wpAny (model prog w) A (Builtin.SmallTypes.nextOf<|.ref it) Q E s:=by
 obtain⟨oi,hoi,hci,hdi⟩:=id hit;obtain⟨ot,hot,_,nt,hdt⟩:=ht;unfold Builtin.SmallTypes.nextOf;refine a9 (kR hit.typeIs zH<|iX zH hit.typeIs PySem.F.entry_tuple_iterator_next ?_<|PySem.F.args_tuple_iterator_next_1 _);show wpAny _ _ (field (.ref it) 0 >>= _) _ _ s;refine a9 (dI hoi hdi rfl ?_);show wpAny _ _ (field (.ref it) 1 >>= _) _ _ s;refine a9 (dI hoi hdi rfl ?_)
 show wpAny _ _ (seqItems? (.ref t) >>= _) _ _ s;refine a9 (l6 hot hdt ?_)
 simp only[bE,hx];refine a9 (uE hoi hdi ae<|aP ⟨x,rfl,aP<|hQ _ ⟨_,pK _ hoi<|aO4<|pQ hdi _,(Obj.cls_mapFields ..).trans hci,?_⟩<|u4 ..⟩)
 rw[pQ hdi];simp[rawInt]
theorem d21 (hh:A.handled=none)(hit:s.heap.IsTupleIter it t i)(ht:s.heap.IsTuple t items)(hx:items[i]? =none)
  (hE: ∀h' e,ExtBut it s.heap h'->(∃o,h'.get? e=some o/\o.cls= .type "StopIteration")->E (.ref e) {s with heap:=h'}):wpAny (model prog w) A (Builtin.SmallTypes.nextOf<|.ref it) Q E s:=by
 obtain⟨oi,hoi,hci,hdi⟩:=id hit;obtain⟨ot,hot,_,nt,hdt⟩:=ht;unfold Builtin.SmallTypes.nextOf;refine a9 (kR hit.typeIs zH<|iX zH hit.typeIs PySem.F.entry_tuple_iterator_next ?_<|PySem.F.args_tuple_iterator_next_1 _);show wpAny _ _ (field (.ref it) 0 >>= _) _ _ s;refine a9 (dI hoi hdi rfl ?_);show wpAny _ _ (field (.ref it) 1 >>= _) _ _ s;refine a9 (dI hoi hdi rfl ?_)
 show wpAny _ _ (seqItems? (.ref t) >>= _) _ _ s;refine a9 (l6 hot hdt ?_)
 simp only[bE,hx];refine a9 (qB<|a9<|uE hoi hdi ae ?_)
 show wpAny _ _ (newExc (.type "StopIteration") [] >>= _) _ _ _;refine a9 ?_;simp only[newExc];refine a9 (jX ?_<|by size_fits)
 refine a9 (k7 (by first|rfl| (simp only[firstArgMember];rfl)) ?_);refine jX ?_ (by size_fits)
 simp only[raiseNew];refine a9 (wpAny_handled ?_);first|rw[show A.in1.handled=none from hh]|rw[hh]
 exact a9 (aP<|wpAny_throw<|hE _ _ (((u4 ..).extBut.push _).push _) ⟨_,cD _ rfl,rfl⟩)
theorem bD1 {T:Bool}{it a:Addr}{i:Nat}{xs:Array Value}{x:Value}{Q:Value->Shared->Prop}(hit:vS T s.heap it a i)(hl:vR T s.heap a xs)(hx:xs[i]? =some x)
  (hQ: ∀h',vS T h' it a (i+1)->SameBut it s.heap h'->Q x {s with heap:=h'}):wpAny (model prog w) A (Builtin.SmallTypes.nextOf<|.ref it) Q E s:=by
 cases T with
 | false=>exact wpAny_nextOf_list_item hit hl hx hQ
 | true=>exact dB6 hit hl hx hQ
theorem bG3 {T:Bool}{it a:Addr}{i:Nat}{xs:Array Value}{Q:Value->Shared->Prop}(hh:A.handled=none)(hit:vS T s.heap it a i)(hl:vR T s.heap a xs)(hx:xs[i]? =none)
  (hE: ∀h' e,ExtBut it s.heap h'->(∃o,h'.get? e=some o/\o.cls= .type "StopIteration")->E (.ref e) {s with heap:=h'}):wpAny (model prog w) A (Builtin.SmallTypes.nextOf<|.ref it) Q E s:=by
 cases T with
 | false=>exact wpAny_nextOf_list_end hh hit hl hx hE
 | true=>exact d21 hh hit hl hx hE
end
structure ZSt (T1 T2:Bool)(z TI TO i1 i2 l1 l2:Addr)(f0:Value)(i:Nat)(h:Heap):Prop where
 hz:IsZip h z TI TO f0
 hI:IsPair h TI (.ref i1) (.ref i2)
 hO: ∃a b,IsPair h TO a b
 h1:vS T1 h i1 l1 i
 h2:vS T2 h i2 l2 i
structure ZAp (z TI TO i1 i2:Addr):Prop where
 a:TI≠z
 b:TO≠z
 c:i1≠z
 d:i2≠z
 e:TI≠TO
 f:TI≠i1
 g:TI≠i2
 h:TO≠i1
 i:TO≠i2
 j:i1≠i2
section
variable {prog:Program}{w:World}{A:Around}{E:Value->Shared->Prop}{s:Shared}{T1 T2:Bool}{z TI TO i1 i2 l1 l2:Addr}{k:Nat}{xs ys:Array Value}
theorem dB7 {x y:Value}(D:ZAp z TI TO i1 i2)(n1:l1 ∉ [z,TI,TO,i1,i2])(n2:l2 ∉ [z,TI,TO,i1,i2])(st:ZSt T1 T2 z TI TO i1 i2 l1 l2 .none k s.heap)
  (hl1:vR T1 s.heap l1 xs) (hl2:vR T2 s.heap l2 ys) (hx:xs[k]? =some x) (hy:ys[k]? =some y)
  (hQ: ∀h',ZSt T1 T2 z TI TO i1 i2 l1 l2 (rawInt s.heap.objs.size) (k+1) h'->IsPair h' s.heap.objs.size x y->(∀c o,c ∉ [z,TI,TO,i1,i2]->s.heap.get? c=some o->h'.get? c=some o)->Q (.ref s.heap.objs.size) {s with heap:=h'}) :
  wpAny (model prog w) A (Builtin.«zip.__next__» ⟨[.ref z],[]⟩) (λfin s'=> ∃v,fin= .done (.ret v)/\Q v s') E s:=by
 obtain⟨hz,hI,⟨a0,b0,hO⟩,h1,h2⟩:=st;simp only[bB,eI,not_or]at n1 n2;show wpAny _ _ (field (.ref z) 2 >>= _) _ _ _;refine a9 (dI hz rfl (x:= .bool false) rfl ?_);show wpAny _ _ (field (.ref z) 3 >>= _) _ _ _;refine a9 (dI hz rfl rfl ?_);refine a9 (l6 hI rfl ?_);show wpAny _ _ (Builtin.SmallTypes.ownedTupleIsFree (.ref z) >>= _) _ _ _
 refine a9 ?_;unfold Builtin.SmallTypes.ownedTupleIsFree;refine a9 (dI hz rfl rfl (aP ?_))
 simp only[j7];refine a9 (qB ?_);refine a9 (dI hz rfl rfl ?_);refine a9 (pR hz ae λg1 z1 m1=> ?_);replace z1:IsZip g1 z TI TO .ellipsis:=z1
 refine a9 ?_;simp only[List.zipIdx_cons,zY,List.forIn_nil]
 refine a9 (a9<|a05 ?_);show wpAny _ _ (Builtin.SmallTypes.nextOf (.ref i1) >>= _) _ _ _
 refine a9 (bD1 (h1.at λo e=>m1.extBut _ _ D.c e) (hl1.at λo e=>m1.extBut _ _ n1.1 e) hx λg2 p2 m2=>aP ?_)
 have o2:IsPair g2 TO a0 b0:=m2.extBut _ _ D.h (m1.extBut _ _ D.b hO);refine a9 (l6 o2 rfl ?_);refine a9 (aO7 o2 λg3 o3 m3=> ?_);replace o3:IsPair g3 TO x b0:=o3
 refine a9 (wpAny_letGo<|aP ?_)
 refine a9 (a9<|a05 ?_);show wpAny _ _ (Builtin.SmallTypes.nextOf (.ref i2) >>= _) _ _ _
 refine a9 (bD1 (s:={s with heap:=g3}) (h2.at λo e=>m3.extBut _ _ D.i.symm (m2.extBut _ _ D.j.symm<|m1.extBut _ _ D.d e)) (hl2.at λo e=>m3.extBut _ _ n2.2.2.1 (m2.extBut _ _ n2.2.2.2.1<|m1.extBut _ _ n2.1 e)) hy λg4 p4 m4=>aP ?_)
 have o4:IsPair g4 TO x b0:=m4.extBut _ _ D.i o3;refine a9 (l6 o4 rfl ?_);refine a9 (aO7 o4 λg5 o5 m5=> ?_);replace o5:IsPair g5 TO x y:=o5
 refine a9 (wpAny_letGo<|aP<|aP ?_)
 refine a9 (l6 o5 rfl ?_);refine a9 (wpAny_newTuple ?_)
 have sz:g5.objs.size=s.heap.objs.size:=by rw[m5.1,m4.1,m3.1,m2.1,m1.1]
 have z5:IsZip g5 z TI TO .ellipsis:=m5.extBut _ _ D.b.symm (m4.extBut _ _ D.d.symm<|m3.extBut _ _ D.b.symm<|m2.extBut _ _ D.c.symm z1);have keep5: ∀c o,c≠z->c≠TO->c≠i1->c≠i2->s.heap.get? c=some o->g5.get? c=some o:=λc o c1 c2 c3 c4 e=>m5.extBut _ _ c2 (m4.extBut _ _ c4<|m3.extBut _ _ c2<|m2.extBut _ _ c3<|m1.extBut _ _ c1 e)
 have q1:vS T1 g5 i1 l1 (k+1):=p2.at λo e=>m5.extBut _ _ D.h.symm (m4.extBut _ _ D.j<|m3.extBut _ _ D.h.symm e)
 have q2:vS T2 g5 i2 l2 (k+1):=p4.at λo e=>m5.extBut _ _ D.i.symm e
 have zl:z<g5.objs.size:=aW z5;show wpAny _ _ (Builtin.SmallTypes.ownedTupleHandOut (.ref z) (.ref g5.objs.size) >>= _) _ _ _;refine a9 ?_;unfold Builtin.SmallTypes.ownedTupleHandOut;have z6:IsZip (g5.push {cls:= .type "tuple",data:= .seq #[x,y]}) z TI TO .ellipsis:=aV _ z5;refine a9 (pR z6 ae λg7 z7 m7=> ?_);replace z7:IsZip g7 z TI TO (rawInt g5.objs.size):=z7
 refine pR z7 ae λg8 z8 m8=> ?_;replace z8:IsZip g8 z TI TO (rawInt g5.objs.size):=z8
 have up: ∀c o,c≠z->g5.get? c=some o->g8.get? c=some o:=λc o c1 e=>m8.extBut _ _ c1 (m7.extBut _ _ c1<|aV _ e)
 have t8:IsPair g8 g5.objs.size x y:=m8.extBut _ _ (pX zl) (m7.extBut _ _ (pX zl)<|cD _ rfl);rw[sz]at z8 t8;refine aP ⟨_,rfl,?_⟩;rw[sz];refine hQ g8 ⟨z8,up _ _ D.a<|keep5 _ _ D.a D.e D.f D.g hI,⟨x,y,up _ _ D.b o5⟩,q1.at λo e=>up _ _ D.c e,q2.at λo e=>up _ _ D.d e⟩ t8 λc o nc e=> ?_
 simp only[bB,fF,eI,not_or]at nc;exact up c o nc.1 (keep5 c o nc.1 nc.2.2.1 nc.2.2.2.1 nc.2.2.2.2 e)
theorem d22 {Q:Fin->Shared->Prop}(hh:A.handled=none)(D:ZAp z TI TO i1 i2)(n1:l1 ∉ [z,TI,TO,i1,i2])(n2:l2 ∉ [z,TI,TO,i1,i2])(st:ZSt T1 T2 z TI TO i1 i2 l1 l2 .none k s.heap)
  (hl1:vR T1 s.heap l1 xs) (hl2:vR T2 s.heap l2 ys) (hend:xs[k]? =none\/ys[k]? =none)
  (hE: ∀h' e,(∀c o,c ∉ [z,TI,TO,i1,i2]->s.heap.get? c=some o->h'.get? c=some o)->(∃o,h'.get? e=some o/\o.cls= .type "StopIteration")->E (.ref e) {s with heap:=h'}) :
  wpAny (model prog w) A (Builtin.«zip.__next__» ⟨[.ref z],[]⟩) Q E s:=by
 obtain⟨hz,hI,⟨a0,b0,hO⟩,h1,h2⟩:=st;simp only[bB,eI,not_or]at n1 n2;have nin: ∀c,c ∉ [z,TI,TO,i1,i2]->c≠z/\c≠TI/\c≠TO/\c≠i1/\c≠i2:=λc h=>by simpa only[bB,fF,eI,not_or]using h
 show wpAny _ _ (field (.ref z) 2 >>= _) _ _ _;refine a9 (dI hz rfl (x:= .bool false) rfl ?_)
 show wpAny _ _ (field (.ref z) 3 >>= _) _ _ _;refine a9 (dI hz rfl rfl ?_)
 refine a9 (l6 hI rfl ?_);show wpAny _ _ (Builtin.SmallTypes.ownedTupleIsFree (.ref z) >>= _) _ _ _
 refine a9 ?_;unfold Builtin.SmallTypes.ownedTupleIsFree;refine a9 (dI hz rfl rfl (aP ?_))
 simp only[j7];refine a9 (qB ?_);refine a9 (dI hz rfl rfl ?_);refine a9 (pR hz ae λg1 z1 m1=> ?_);replace z1:IsZip g1 z TI TO .ellipsis:=z1
 refine a9 ?_;simp only[List.zipIdx_cons,zY,List.forIn_nil]
 refine a9 (a9<|a05 ?_);show wpAny _ _ (Builtin.SmallTypes.nextOf (.ref i1) >>= _) _ _ _
 cases hx:xs[k]? with
 | none=>
  refine a9 (bG3 hh (h1.at λo e=>m1.extBut _ _ D.c e) (hl1.at λo e=>m1.extBut _ _ n1.1 e) hx λg2 e m2 he=> ?_)
  obtain⟨oe,hoe,hce⟩:=he;have z2:IsZip g2 z TI TO .ellipsis:=m2 _ _ D.c.symm z1;have ez:e≠z:=λq=>by subst q;rw[z2]at hoe;cases hoe;simp at hce
  refine pR z2 ae λg3 _ m3=>hE g3 e (λc o nc q=> ?_) ⟨oe,m3.extBut _ _ ez hoe,hce⟩
  obtain⟨c1,c2,c3,c4,c5⟩:=nin c nc;exact m3.extBut _ _ c1 (m2 _ _ c4<|m1.extBut _ _ c1 q)
 | some x=>
  have hy:ys[k]? =none:=by rcases hend with q|q;(rw[hx]at q;cases q);exact q
  refine a9 (bD1 (h1.at λo e=>m1.extBut _ _ D.c e) (hl1.at λo e=>m1.extBut _ _ n1.1 e) hx λg2 p2 m2=>aP ?_)
  have o2:IsPair g2 TO a0 b0:=m2.extBut _ _ D.h (m1.extBut _ _ D.b hO);refine a9 (l6 o2 rfl ?_);refine a9 (aO7 o2 λg3 o3 m3=> ?_)
  refine a9 (wpAny_letGo<|aP ?_);refine a9 (a9<|a05 ?_);show wpAny _ _ (Builtin.SmallTypes.nextOf (.ref i2) >>= _) _ _ _
  refine a9 (bG3 hh (h2.at λo e=>m3.extBut _ _ D.i.symm (m2.extBut _ _ D.j.symm<|m1.extBut _ _ D.d e)) (hl2.at λo e=>m3.extBut _ _ n2.2.2.1 (m2.extBut _ _ n2.2.2.2.1<|m1.extBut _ _ n2.1 e)) hy λg4 e m4 he=> ?_)
  obtain⟨oe,hoe,hce⟩:=he;have z4:IsZip g4 z TI TO .ellipsis:=m4 _ _ D.d.symm (m3.extBut _ _ D.b.symm<|m2.extBut _ _ D.c.symm z1);have ez:e≠z:=λq=>by subst q;rw[z4]at hoe;cases hoe;simp at hce
  refine pR z4 ae λg5 _ m5=>hE g5 e (λc o nc q=> ?_) ⟨oe,m5.extBut _ _ ez hoe,hce⟩
  obtain⟨c1,c2,c3,c4,c5⟩:=nin c nc;exact m5.extBut _ _ c1 (m4 _ _ c5<|m3.extBut _ _ c3<|m2.extBut _ _ c4<|m1.extBut _ _ c1 q)
end
nonrec def Itz (K:Frag)(T1 T2:Bool)(l1 l2:Addr):It where
 go:=λi H=> ∃xs ys x y,SqV K T1 H l1 xs/\SqV K T2 H l2 ys/\xs[i]? =some x/\ys[i]? =some y
 yld:=λi H v H'=> ∃T x y,v= .ref T/\H T=none/\H'=upd H T (.tup [x,y])/\(∀xs,SqV K T1 H l1 xs->xs[i]? =some x)/\ ∀ys,SqV K T2 H l2 ys->ys[i]? =some y
 stop:=λi H=> ∃xs ys,SqV K T1 H l1 xs/\SqV K T2 H l2 ys/\(xs.length<=i\/ys.length<=i)
theorem ZSt.objs {z TI TO i1 i2:Addr}{f0:Value}(st:ZSt T1 T2 z TI TO i1 i2 l1 l2 f0 i h): ∀b∈[z,TI,TO,i1,i2],∃o,h.get? b=some o/\ ∀v,o.data≠ .cell v:=λb hb=>by
 obtain⟨hz,hI,⟨a,c,hO⟩,h1,h2⟩:=st;simp only[bB,fF,eI]at hb;rcases hb with rfl|rfl|rfl|rfl|rfl
 .exact⟨_,hz,λv q=>by cases q⟩
 .exact⟨_,hI,λv q=>by cases q⟩
 .exact⟨_,hO,λv q=>by cases q⟩
 .exact h1.rec'
 .exact h2.rec'
theorem cC7:2<=sizeLine:=ac
theorem dB8 {z TI TO i1 i2:Addr}(D:ZAp z TI TO i1 i2)(n1:l1 ∉ [z,TI,TO,i1,i2])(n2:l2 ∉ [z,TI,TO,i1,i2]) :
  cA6 P w K (.Tuple elts kt tp) (Itz K T1 T2 l1 l2) [z,TI,TO,i1,i2] z (ZSt T1 T2 z TI TO i1 i2 l1 l2 .none) where
 mem:=ae
 obj:=λi h st b hb=>st.objs b hb
 keep:=λi h h' st k=>by
  obtain⟨hz,hI,⟨a,c,hO⟩,h1,h2⟩:=st;exact⟨k z ae _ hz,k TI ae _ hI,⟨a,c,k TO ae _ hO⟩,h1.at λo e=>k i1 ae o e,h2.at λo e=>k i2 ae o e⟩
 item:=by
  intro X hP hw hK hc i pins s σ H E I hf st hg;subst hP hw hK;obtain⟨xs,ys,x,y,q1,q2,e1,e2⟩:=hg;obtain⟨is1,r1,p1,_⟩:=I.sq q1;obtain⟨is2,r2,p2,_⟩:=I.sq q2;obtain⟨u1,hu1,ru1⟩:=r1.get e1;obtain⟨u2,hu2,ru2⟩:=r2.get e2;have hT:s.TypeIs (.ref z) "zip":=⟨_,st.hz,rfl⟩
  refine a9 (uF<|kR hT zO<|iX zO hT PySem.F.entry_zip_next (dB7 D n1 n2 st p1 p2 (by exists hu1) (by exists hu2) λh' st' ht k=>aP ?_)<|PySem.F.args_zip_next_1 _)
  refine⟨_,rfl,wpAny_letOwnedTupleGo_zip st'.hz λh2 hz2 m=> ?_⟩
  have kk: ∀b u,b ∉ [z,TI,TO,i1,i2]->s.heap.get? b=some u->h2.get? b=some u:=λb u nb e=>m.extBut _ _ (λq=>nb (by simp[q])) (k b u nb e)
  have hne:s.heap.objs.size≠z:=pX (aW st.hz);have ht2:IsPair h2 s.heap.objs.size u1 u2:=m.extBut _ _ hne ht;obtain⟨a',c',hO'⟩:=st'.hO;refine⟨.ref s.heap.objs.size,upd H s.heap.objs.size<|.tup [x,y],I.turnedNew kk hf (aK _) ⟨cC7,[u1,u2],.cons ru1<|.cons ru2 .nil,⟨_,ht2,rfl,_,rfl⟩⟩,rfl,
   ⟨_,x,y,rfl,I.hok.fresh<|aK _,rfl,λxs' q=>by rw[I.sq_inj q q1];exact e1,λys' q=>by rw[I.sq_inj q q2];exact e2⟩,⟨hz2,m.extBut _ _ D.a st'.hI,⟨a',c',m.extBut _ _ D.b hO'⟩,st'.h1.at λo e=>m.extBut _ _ D.c e,st'.h2.at λo e=>m.extBut _ _ D.d e⟩,λb hb=> ?_⟩
  obtain⟨o,ho,_⟩:=st.objs b hb;rw[cM<|bM<|aW ho];exact(hf b hb).1
 done:=by
  intro X hP hw hK hc i pins s σ H E I hf st hg;subst hP hw hK;obtain⟨xs,ys,q1,q2,hs⟩:=hg;obtain⟨is1,r1,p1,_⟩:=I.sq q1;obtain⟨is2,r2,p2,_⟩:=I.sq q2;have l1':=r1.length;have l2':=r2.length;have hT:s.TypeIs (.ref z) "zip":=⟨_,st.hz,rfl⟩;refine a9 (uF<|kR hT zO<|iX zO hT PySem.F.entry_zip_next (d22 (I.ok.hd hc) D n1 n2 st p1 p2 (by simp;omega) λh' e k he=> ?_)<|PySem.F.args_zip_next_1 _)
  obtain⟨o,ho,hc'⟩:=he;exact a9 (wpAny_isInstance ⟨o,ho,hc'⟩ isSubtype_stop<|aP ⟨rfl,I.turnedL k hf⟩)
 self:=λ_ _ _ _ _ st h=>wpAny_pyIter_zip st.hz h
noncomputable abbrev zg1 (T1:Bool)(h:Heap)(l1:Addr):Heap:=h.push (aA9 T1 l1)
noncomputable abbrev zg2 (T1 T2:Bool)(h:Heap)(l1 l2:Addr):Heap:=(zg1 T1 h l1).push (aA9 T2 l2)
noncomputable abbrev zg3 (T1 T2:Bool)(h:Heap)(l1 l2:Addr):Heap:=(zg2 T1 T2 h l1 l2).push {cls:= .type "tuple",data:= .seq #[.ref h.objs.size,.ref (zg1 T1 h l1).objs.size]}
noncomputable abbrev zg4 (T1 T2:Bool)(h:Heap)(l1 l2:Addr):Heap:=(zg3 T1 T2 h l1 l2).push {cls:= .type "tuple",data:= .seq #[.none,.none]}
noncomputable abbrev zg5 (T1 T2:Bool)(h:Heap)(l1 l2:Addr):Heap:=(zg4 T1 T2 h l1 l2).push {cls:= .type "zip",data:= .fields #[.none,.bool false,.bool false,.ref (zg2 T1 T2 h l1 l2).objs.size,.ref (zg3 T1 T2 h l1 l2).objs.size]}
theorem dS8 (T1 T2:Bool)(l1 l2:Addr)(xs ys:Array Value):Meets (Builtin.«zip.__new__» ⟨[.type "zip",.ref l1,.ref l2],[]⟩) (λ_ R s=>vR T1 s.heap l1 xs/\vR T2 s.heap l2 ys/\
  R (.ok<|.ret<|.ref (zg4 T1 T2 s.heap l1 l2).objs.size) {s with heap:=zg5 T1 T2 s.heap l1 l2}):= .of_wp λprog w A R s h=>by
 obtain⟨hp,g,d,tk,os⟩:=s;obtain⟨hl1,hl2,h⟩:=h;have hsub:=sub_zip;have e1:vR T1 (Shared.heap ⟨hp,g,d,tk,os⟩) l1 xs:=hl1;have e2:vR T2 (Shared.heap ⟨hp.push<|aA9 T1 l1,g,d,tk,os⟩) l2 ys:=hl2.at λo e=>aV _ e
 wp_walk using aH6 e1,aH6 e2
 exact⟨_,rfl,h⟩
section
variable {prog:Program}{w:World}{A:Around}{E:Value->Shared->Prop}{s:Shared}
theorem dB9 {ys:Array Value}(hl1:vR T1 s.heap l1 xs)(hl2:vR T2 s.heap l2 ys)
  (h: ∀h' z TI TO i1 i2,ZAp z TI TO i1 i2->(∀b∈[z,TI,TO,i1,i2],s.heap.objs.size<=b)->ZSt T1 T2 z TI TO i1 i2 l1 l2 .none 0 h'->(∀c o,s.heap.get? c=some o->h'.get? c=some o)->Q (.ref z) {s with heap:=h'}) :
  wpAny (model prog w) A (call (.type "zip") [.ref l1,.ref l2]) Q E s:=by
 refine callType_new PySem.F.called_zip ac (PySem.F.typeCall_zip_2 _ _) (PySem.F.newCall_zip_2 _ _) (λobj=>PySem.F.args_object_init_3 obj _ _) PySem.F.entry_zip_new (dS8 T1 T2 l1 l2 xs ys) ⟨hl1,hl2,?_⟩
 have z1:(zg1 T1 s.heap l1).objs.size=s.heap.objs.size+1:=iY ..;have z2:(zg2 T1 T2 s.heap l1 l2).objs.size=s.heap.objs.size+2:=by rw[iY,z1]
 have z3:(zg3 T1 T2 s.heap l1 l2).objs.size=s.heap.objs.size+3:=by rw[iY,z2]
 have z4:(zg4 T1 T2 s.heap l1 l2).objs.size=s.heap.objs.size+4:=by rw[iY,z3]
 have g5:(zg5 T1 T2 s.heap l1 l2).get? (zg4 T1 T2 s.heap l1 l2).objs.size=some _:=cD _ rfl;have g4:(zg5 T1 T2 s.heap l1 l2).get? (zg3 T1 T2 s.heap l1 l2).objs.size=some _:=aV _ (cD _ rfl);have g3:(zg5 T1 T2 s.heap l1 l2).get? (zg2 T1 T2 s.heap l1 l2).objs.size=some _:=aV _ (aV _<|cD _ rfl)
 have s2:vS T2 (zg5 T1 T2 s.heap l1 l2) (zg1 T1 s.heap l1).objs.size l2 0:=(vS.new (zg1 T1 s.heap l1) l2).at λo e=>aV _ (aV _<|aV _ e)
 have s1:vS T1 (zg5 T1 T2 s.heap l1 l2) s.heap.objs.size l1 0:=(vS.new s.heap l1).at λo e=>aV _ (aV _<|aV _<|aV _ e)
 have ap:ZAp (zg4 T1 T2 s.heap l1 l2).objs.size (zg2 T1 T2 s.heap l1 l2).objs.size (zg3 T1 T2 s.heap l1 l2).objs.size s.heap.objs.size (zg1 T1 s.heap l1).objs.size:=by
  rw[z1,z2,z3,z4];have k: ∀n a b:Nat,a≠b->n+a≠n+b:=λn a b h=>aa
  exact⟨k _ 2 4 ac,k _ 3 4 ac,k _ 0 4 ac,k _ 1 4 ac,k _ 2 3 ac,k _ 2 0 ac,k _ 2 1 ac,k _ 3 0 ac,k _ 3 1 ac,k _ 0 1 ac⟩
 refine⟨⟨_,g5,rfl⟩,h _ _ _ _ _ _ ap (λb hb=> ?_) ⟨g5,g3,⟨_,_,g4⟩,s1,s2⟩ λc o e=>aV _ (aV _<|aV _<|aV _<|aV _ e)⟩
 simp only[bB,fF,eI]at hb;rcases hb with rfl|rfl|rfl|rfl|rfl<;>omega
end
section
variable {X:Cx}
def iZip (K:Frag)(ta:TA):TI:=λσ H R=>ta σ H λvs H1=> ∃l1 l2 T1 T2 xs ys,vs=[.ref l1,.ref l2]/\SqV K T1 H1 l1 xs/\SqV K T2 H1 l2 ys/\R (Itz K T1 T2 l1 l2) H1
theorem pi_zip {a b:Expr}{ta:TA}(hg:Gl X "zip")(hm:X.mg "zip"=none)(ha:PA X [a,b] ta)(hs:↥(starEach [a,b] X.env=[(false,eval a X.env),(false,eval b X.env)]))(hs2:↥(starEach [b] X.env=[(false,eval b X.env)])) :
  PI X (.Tuple elts kt tp) (.Call (.Name "zip" p) [a,b] [] pos) (iZip X.K ta):=by
 intro pins s σ H R I h;refine Call_ (uM I hg hm PyProof.Rows.boot_zip<|jV (thn (ha pos pins s σ H _ I h) λus s1 ⟨vs,H1,I1,r1,q1⟩=> ?_) (by rw[hs,hs2]) (by rw[hs2];rfl))
 obtain⟨l1,l2,T1,T2,xs,ys,e,q1,q2,q⟩:=q1;subst e;obtain⟨u,v,rfl,r,r'⟩:=Vals.two r1;cases r;cases r';obtain⟨is1,_,p1,_⟩:=I1.sq q1;obtain⟨is2,_,p2,_⟩:=I1.sq q2;refine dB9 p1 p2 λh' z TI TO i1 i2 ap fr st k=>wpAny_pyIter_zip st.hz ?_
 have nl: ∀l,l<s1.heap.objs.size->l ∉ [z,TI,TO,i1,i2]:=λl hl hb=>absurd (b9 hl<|fr l hb) (dX _)
 exact⟨z,[z,TI,TO,i1,i2],_,_,H1,rfl,I1.kept k,dB8 ap (nl l1 p1.lt)<|nl l2 p2.lt,st,λb hb=>I1.fpOk (fr b hb) (I1.hok.fresh<|fr b hb),q⟩
end
theorem cC8 {T:Bool}(hh:A.handled=none)(it a:Addr)(hne:a≠it)(xs:Array Value):Draws prog w A it [it,a] xs.size (λi v=>xs[i]? =some v) (λi h=>vS T h it a i/\vR T h a xs) where
 live:=λ_ _ st=>let ⟨o,ho,_⟩:=st.1.rec';⟨o,ho⟩
 frame:=λ_ _ _ st k=>⟨st.1.at λo e=>k it ae o e,st.2.at λo e=>k a ae o e⟩
 item:=λi s Q E hi st hQ=>bD1 st.1 st.2 (x:=xs[i]) (by simp[hi]) λh' hit' m=>hQ _ h' s.toks (by simp[hi]) ⟨hit',st.2.at λo e=>m.extBut _ _ hne e⟩ m
 done:=λs Q E st hE=>bG3 hh st.1 st.2 ae hE
nonrec def Ite (K:Frag)(T:Bool)(l:Addr):It where
 go:=λi H=> ∃xs x,SqV K T H l xs/\xs[i]? =some x
 yld:=λi H v H'=> ∃Tn x,v= .ref Tn/\H Tn=none/\H'=upd H Tn (.tup [.int (i:Int),x])/\ ∀xs,SqV K T H l xs->xs[i]? =some x
 stop:=λi H=> ∃xs,SqV K T H l xs/\xs.length=i
def ESt (T:Bool)(e it l:Addr)(i:Nat)(h:Heap):Prop:=(∃old,IsEnum h e it i old)/\vS T h it l i
theorem ESt.objs {T:Bool}{e:Addr}(st:ESt T e it l i h): ∀b∈[e,it],∃o,h.get? b=some o/\ ∀v,o.data≠ .cell v:=λb hb=>by
 obtain⟨⟨old,he⟩,h1⟩:=st;simp only[bB,fF,eI]at hb;rcases hb with rfl|rfl
 .exact⟨_,he,λv q=>by cases q⟩
 .exact h1.rec'
theorem d23 {T:Bool}{e:Addr}(hei:e≠it)(nl:l ∉ [e,it]):cA6 P w K (.Tuple elts kt tp) (Ite K T l) [e,it] e (ESt T e it l) where
 mem:=ae
 obj:=λi h st b hb=>st.objs b hb
 keep:=λi h h' st k=>by
  obtain⟨⟨old,he⟩,h1⟩:=st;exact⟨⟨old,k e ae _ he⟩,h1.at λo q=>k it ae o q⟩
 item:=by
  intro X hP hw hK hc i pins s σ H E I hf st hg;subst hP hw hK;obtain⟨xs,x,q1,e1⟩:=hg;obtain⟨is1,r1,p1,_⟩:=I.sq q1;obtain⟨u1,hu1,ru1⟩:=r1.get e1;simp only[bB,fF,eI,not_or]at nl;obtain⟨⟨old,he⟩,h1⟩:=id st;have hi:i<is1.toArray.size:=by rw[bD];exact(gG.mp hu1).1
  have D:=cC8 (prog:=X.prog) (w:=X.w) (A:=X.A.in1) (T:=T) (I.ok.hd hc) it l nl.2 is1.toArray;refine wpAny_pyNext_enum_itemD D he ⟨h1,p1⟩ hi hei (by simp[hei,Ne.symm nl.1]) λv h' tk hv ho hs' ht hsz k=>⟨_,rfl,wpAny_letOwnedTupleGo_enum ho λh2 he2 m=> ?_⟩
  have ev:v=u1:=by
   have:is1.toArray[i]? =some u1:=by exists hu1
   rw[this]at hv;cases hv;rfl
  subst ev;have hne:s.heap.objs.size≠e:=pX (aW he);have kk: ∀b u,b ∉ [e,it]->s.heap.get? b=some u->h2.get? b=some u:=λb u nb q=>by
   simp only[bB,fF,eI,not_or]at nb;exact m.extBut _ _ nb.1 (k b u nb.1 nb.2 q)
  have ht2:h2.get? s.heap.objs.size=some {cls:= .type "tuple",data:= .seq #[.int i tk,v]}:=m.extBut _ _ hne ht;refine⟨.ref s.heap.objs.size,upd H s.heap.objs.size<|.tup [.int (i:Int),x],I.turnedNew kk hf (aK _) ⟨cC7,[.int i tk,v],.cons ⟨tk,rfl⟩<|.cons ru1 .nil,⟨_,ht2,rfl,_,rfl⟩⟩,rfl,
   ⟨_,x,rfl,I.hok.fresh<|aK _,rfl,λxs' q=>by rw[I.sq_inj q q1];exact e1⟩,⟨⟨_,by exists he2⟩,hs'.1.at λo q=>m.extBut _ _ (Ne.symm hei) q⟩,λb hb=> ?_⟩
  obtain⟨o,ho',_⟩:=st.objs b hb;rw[cM<|bM<|aW ho'];exact(hf b hb).1
 done:=by
  intro X hP hw hK hc i pins s σ H E I hf st hg;subst hP hw hK;obtain⟨xs,q1,hl⟩:=hg;obtain⟨is1,r1,p1,_⟩:=I.sq q1;have l1':=r1.length;simp only[bB,fF,eI,not_or]at nl;obtain⟨⟨old,he⟩,h1⟩:=id st;have D:=cC8 (prog:=X.prog) (w:=X.w) (A:=X.A.in1) (T:=T) (I.ok.hd hc) it l nl.2 is1.toArray
  refine wpAny_pyNext_enum_endD D he ⟨by rw[bD,<-l1',hl];exact h1,p1⟩ λh' ex=>⟨rfl,I.turnedL (λb u nb q=>ex b u (λz=>nb (by simp[z])) q) hf⟩
 self:=λ_ _ _ _ _ st h=>by
  obtain⟨⟨old,he⟩,_⟩:=st;exact wpAny_pyIter_enum he h
theorem d24 (l:Addr)(xs:Array Value):Meets (Builtin.«enumerate.__new__» ⟨[.type "enumerate",.ref l],[]⟩) (λ_ R s=>s.heap.IsTuple l xs/\
  R (.ok<|.ret<|.ref (s.heap.push<|aA9 true l).objs.size) {s with heap:=(s.heap.push<|aA9 true l).push {cls:= .type "enumerate",data:= .fields #[.none,.bool false,.ref s.heap.objs.size,rawInt 0,.none,.none]}}):= .of_wp λprog w A R s h=>by
 obtain⟨hp,g,d,tk,os⟩:=s;obtain⟨hl,h⟩:=h;obtain⟨⟨c,dct,dt,sl⟩,hg,hc,n,hd⟩:=id hl
 replace hc:c= .type "tuple":=hc
 replace hd:dt= .seq xs n:=hd
 subst hc hd;have hsub:=sub_enumerate;have e1:vR true (Shared.heap ⟨hp,g,d,tk,os⟩) l xs:=hl
 wp_walk using aN3 hg
 refine wpAny_stack_any λst=>aP ?_
 split
 .rename_i c _ _ _ _ _
  cases (c==Value.type "enumerate")<;>(wp_walk using aN3 hg,aH6 e1;exact⟨_,rfl,h⟩)
 .wp_walk using aN3 hg,aH6 e1
  exact⟨_,rfl,h⟩
section
variable {prog:Program}{w:World}{A:Around}{E:Value->Shared->Prop}{s:Shared}
theorem d25 {T:Bool}{l:Addr}{xs:Array Value}{Q:Value->Shared->Prop}(hl:vR T s.heap l xs)
  (h: ∀h' e it,e≠it->s.heap.objs.size<=e->s.heap.objs.size<=it->ESt T e it l 0 h'->(∀c o,s.heap.get? c=some o->h'.get? c=some o)->Q (.ref e) {s with heap:=h'}) :
  wpAny (model prog w) A (call (.type "enumerate") [.ref l]) Q E s:=by
 cases T with
 | false=>exact call_enumerate_list hl λh' he hit hsz k=>h h' _ _ aa aa aa ⟨⟨_,he⟩,hit⟩ k
 | true=>
  refine callType_new PySem.F.called_enumerate ac (PySem.F.typeCall_enumerate_1 _) (PySem.F.newCall_enumerate_1 _) (λobj=>PySem.F.args_object_init_2 obj _) PySem.F.entry_enumerate_new (d24 l xs) ⟨hl,?_⟩
  have z1:(s.heap.push<|aA9 true l).objs.size=s.heap.objs.size+1:=iY ..;have he:IsEnum ((s.heap.push<|aA9 true l).push {cls:= .type "enumerate",data:= .fields #[.none,.bool false,.ref s.heap.objs.size,rawInt 0,.none,.none]}) (s.heap.push<|aA9 true l).objs.size s.heap.objs.size 0 .none:=cD _ rfl
  have hi:vS true ((s.heap.push<|aA9 true l).push {cls:= .type "enumerate",data:= .fields #[.none,.bool false,.ref s.heap.objs.size,rawInt 0,.none,.none]}) s.heap.objs.size l 0:=(vS.new s.heap l).at λo e=>aV _ e
  exact⟨⟨_,he,rfl⟩,h _ _ _ (by rw[z1];omega) (by rw[z1];omega) (aK _) ⟨⟨_,he⟩,hi⟩ λc o e=>aV _ (aV _ e)⟩
end
section
variable {X:Cx}
def iEnum (K:Frag)(ta:TA):TI:=λσ H R=>ta σ H λvs H1=> ∃l T xs,vs=[.ref l]/\SqV K T H1 l xs/\R (Ite K T l) H1
theorem dS9 {a:Expr}{ta:TA}(hg:Gl X "enumerate")(hm:X.mg "enumerate"=none)(ha:PA X [a] ta)(hs:↥(starEach [a] X.env=[(false,eval a X.env)])) :
  PI X (.Tuple elts kt tp) (.Call (.Name "enumerate" p) [a] [] pos) (iEnum X.K ta):=by
 intro pins s σ H R I h;refine Call_ (uM I hg hm PyProof.Rows.boot_enumerate<|jV (thn (ha pos pins s σ H _ I h) λus s1 ⟨vs,H1,I1,r1,q1⟩=> ?_) hs rfl)
 obtain⟨l,T,xs,e,q1,q⟩:=q1;subst e;obtain⟨u,rfl,r⟩:=vals1 r1;cases r;obtain⟨is1,_,p1,_⟩:=I1.sq q1;refine d25 p1 λh' e it ne f1 f2 st k=> ?_
 obtain⟨⟨old,he⟩,_⟩:=id st;refine wpAny_pyIter_enum he ?_;have lt:=p1.lt;have fr: ∀b∈[e,it],s1.heap.objs.size<=b:=λb hb=>by
  simp only[bB,fF,eI]at hb;rcases hb with rfl|rfl
  .exact f1
  .exact f2
 exact⟨e,[e,it],_,_,H1,rfl,I1.kept k,d23 ne λhb=>absurd (b9 lt<|fr l hb) (dX _),st,λb hb=>I1.fpOk (fr b hb) (I1.hok.fresh<|fr b hb),q⟩
end
theorem bA7:isSubtype (.type "range_iterator") (.type "reversed")=pure false:=by rw[pV];kernel_rfl
theorem bG4 {n:Int}(h1: -(2^31)<=n)(h2:n<2^31):Builtin.Range.rangeFitsLong n=true:=by
 simp[Builtin.Range.rangeFitsLong]
 lia
nonrec def aW0 (n:Int):Obj:={cls:= .type "range_iterator",data:= .fields #[rawInt<|(n.toNat:Int)-1,rawInt (n.toNat:Int),rawInt<|-1]}
theorem bQ2 (r:Addr)(a b c:Int)(t u v:Tok)(hc0: ¬(!(Builtin.Range.rangeFitsLong a&&Builtin.Range.rangeFitsLong b&&Builtin.Range.rangeFitsLong c&&Builtin.Range.rangeFitsLong (-c)&&Builtin.Range.rangeFitsLong (a-c)&&Builtin.Range.rangeFitsLong (Builtin.Range.rangeSize a b c)))=true) :
  Meets (Builtin.«range.__reversed__» ⟨[.ref r],[]⟩) (λ_ R s=>s.heap.get? r=some {cls:= .type "range",dict:=none,data:= .fields #[.int a t,.int b u,.int c v],slots:= #[]}/\
  R (.ok<|.ret<|Value.ref s.heap.objs.size) {s with heap:=s.heap.push {cls:=Value.type (if(Builtin.Range.rangeFitsLong a&&Builtin.Range.rangeFitsLong b&&Builtin.Range.rangeFitsLong c&&Builtin.Range.rangeFitsLong (-c)&&Builtin.Range.rangeFitsLong (a-c)&&Builtin.Range.rangeFitsLong (Builtin.Range.rangeSize a b c))=true then "range_iterator" else "longrange_iterator"),data:=Data.fields #[rawInt<|a+(Builtin.Range.rangeSize a b c-1)*c,rawInt<|Builtin.Range.rangeSize a b c,rawInt<|-c]},toks:=s.toks}):= .of_wp λprog w A R s h=>by
 obtain⟨hl,h⟩:=h
 wp_walk
 exact⟨_,rfl,h⟩
theorem bA8 (r:Addr)(n:Int)(t u v:Tok)(h1: -(2^31)<=n)(h2:n<2^31):Meets (Builtin.«range.__reversed__» ⟨[.ref r],[]⟩) (λ_ R s=>IsRange s.heap r 0 n 1 t u v/\
  R (.ok<|.ret<|.ref s.heap.objs.size) {s with heap:=s.heap.push (aW0 n)}):=by
 have e0:Builtin.Range.rangeSize 0 n 1=(n.toNat:Int):=by rw[rangeSize_one];split<;>lia
 have sm:(Builtin.Range.rangeFitsLong 0&&Builtin.Range.rangeFitsLong n&&Builtin.Range.rangeFitsLong 1&&Builtin.Range.rangeFitsLong (-1)&&Builtin.Range.rangeFitsLong (0-1)&&Builtin.Range.rangeFitsLong (Builtin.Range.rangeSize 0 n 1))=true:=by
  rw[e0,bG4 h1 h2,bG4 ac ac,bG4 ac ac,bG4 ac ac,bG4 (n:=(n.toNat:Int)) ad ad]
  rfl
 have G:=bQ2 r 0 n 1 t u v (by rw[sm];decide)
 intro prog w A R s h;refine G prog w A R s ⟨h.1,?_⟩;rw[sm,e0];have e1:(0:Int)+((n.toNat:Int)-1)*1=(n.toNat:Int)-1:=ad
 rw[e1];exact h.2
section
variable {prog:Program}{w:World}{A:Around}{E:Value->Shared->Prop}{s:Shared}
theorem cC9 {r:Addr}{n:Int}{t u v:Tok}{Q₁:Value->Shared->Prop}(hr:IsRange s.heap r 0 n 1 t u v)(h1: -(2^31)<=n)(h2:n<2^31)
  (h:Q₁ (.ref s.heap.objs.size) {s with heap:=s.heap.push (aW0 n)}) :
  codeAny (model prog w) A (.call (.builtin "reversed.__new__") ⟨[.type "reversed",.ref r],[]⟩) (wants Q₁ E) s:=by
 have hT:s.TypeIs (.ref r) "range":=⟨_,hr,rfl⟩;refine codeAny_of_tree ?_;refine a9 (k7 (PySem.F.newCall_reversed_1 _)<|aP ⟨plainId_quiet PySem.F.plain_reversed_new _,codeAny_builtin PySem.F.entry_reversed_new ?_⟩);refine a9 (k7 (newClass_reversed _) ?_);try right
 refine a9 (k7 (by first|rfl|kernel_rfl) ?_);refine a9 (k7 (by first|rfl|kernel_rfl) ?_);try right
 refine a9 (wpAny_specialOf hT PySem.F.slot_range_reversed.lookup ?_);try right
 refine a9 (k7 (PySem.F.slot_range_reversed.bind _) ?_);try right
 first
 | rw[a7<|show ¬((Value.builtin "range.__reversed__"==Value.none)=true)from cK]
 | (show wpAny _ _ (if(Value.builtin "range.__reversed__"==Value.none)=true then _ else _) _ _ _;rw[a7<|show ¬((Value.builtin "range.__reversed__"==Value.none)=true)from cK])
 refine a9 (m:=runValue (.call (.builtin "range.__reversed__") ⟨[.ref r],[]⟩)) (show wpAny _ _ (call (.builtin "range.__reversed__") [.ref r]) _ _ _ from j6 PySem.F.slot_range_reversed hT PySem.F.entry_range_reversed (PySem.F.args_range_reversed_1 _) (bA8 r n t u v h1 h2) ⟨hr,?_⟩)
 first
 | exact aP h
 | exact a9 (aP<|aP h)
theorem dT0 {r:Addr}{n:Int}{t u v:Tok}(hr:IsRange s.heap r 0 n 1 t u v)(h1: -(2^31)<=n)(h2:n<2^31)(h:Q (.ref s.heap.objs.size) {s with heap:=s.heap.push (aW0 n)}) :
  wpAny (model prog w) A (call (.type "reversed") [.ref r]) Q E s:=by
 refine callType_other (Q₁:=λobj s₁=>obj= .ref s.heap.objs.size/\s₁={s with heap:=s.heap.push (aW0 n)}) af PySem.F.create_reversed ⟨_,_,PySem.F.mro_reversed⟩ PySem.F.made_reversed bA7 (PySem.F.typeCall_reversed_1 _) (cC9 hr h1 h2 ⟨rfl,rfl⟩) ?_
 rintro obj s₁ ⟨rfl,rfl⟩;exact⟨⟨_,cD _ rfl,rfl⟩,h⟩
end
section
variable {X:Cx}{tg:Expr}
def iRevR (ta:TA):TI:=λσ H R=>ta σ H λvs H1=> ∃j:Int,vs=[.int j]/\ -(2^31)<=j/\j<2^31/\R (Itd ((j.toNat:Int)-1) j.toNat) H1
theorem cD0 {a:Expr}{ta:TA}{pos2:Pos}(hg:Gl X "reversed")(hm:X.mg "reversed"=none)(hg2:Gl X "range")(hm2:X.mg "range"=none)(ha:PA X [a] ta)(hs:↥(starEach [a] X.env=[(false,eval a X.env)]))
  (hs2:↥(starEach [.Call (.Name "range" p2) [a] [] pos2] X.env=[(false,eval (.Call (.Name "range" p2) [a] [] pos2) X.env)])) :
  PI X tg (.Call (.Name "reversed" p) [.Call (.Name "range" p2) [a] [] pos2] [] pos) (iRevR ta):=by
 intro pins s σ H R I h;refine Call_ (uM I hg hm PyProof.Rows.boot_reversed<|jV ?_ hs2 rfl);show wpAny _ _ (spliced ((false,eval (.Call (.Name "range" p2) [a] [] pos2) X.env)::[])) _ _ s;refine Calls.spliced_cons (Call_<|uM I hg2 hm2 boot_range<|jV (thn (ha pos2 pins s σ H _ I h) λus s1 ⟨vs,H1,I1,r1,q1⟩=> ?_) hs rfl)
 obtain⟨j,e,q1,q2,q⟩:=q1;subst e;obtain⟨u,rfl,t,rfl⟩:=vals1 r1;refine call_range_1 (Calls.spliced_nil ?_);have I2:Inv X pins σ H1 {s1 with heap:=s1.heap.push {cls:= .type "range",data:= .fields #[.int 0 s1.toks,.int j t,.int 1<|s1.toks+1]},toks:=s1.toks+1+1}:=I1.kept λb o e=>aV _ e
 refine dT0 (IsRange.new ..) q1 q2 ?_
 have hi:IsRangeIter (((s1.heap.push {cls:= .type "range",data:= .fields #[.int 0 s1.toks,.int j t,.int 1<|s1.toks+1]})).push<|aW0 j) (s1.heap.push {cls:= .type "range",data:= .fields #[.int 0 s1.toks,.int j t,.int 1<|s1.toks+1]}).objs.size ((j.toNat:Int)-1) (j.toNat:Int) (-1):=cD _ rfl;refine aN8 hi ?_
 refine⟨_,[(s1.heap.push {cls:= .type "range",data:= .fields #[.int 0 s1.toks,.int j t,.int 1<|s1.toks+1]}).objs.size],_,_,H1,rfl,I2.kept λb o e=>aV _ e,bV8 _ ((j.toNat:Int)-1) j.toNat,?_,λb hb=> ?_,q⟩
 .show IsRangeIter _ _ (((j.toNat:Int)-1)+((0:Nat):Int)*(-1)) ((j.toNat:Int)-((0:Nat):Int)) (-1)
  have e1:((j.toNat:Int)-1)+((0:Nat):Int)*(-1)=(j.toNat:Int)-1:=ae
  have e2:(j.toNat:Int)-((0:Nat):Int)=(j.toNat:Int):=ae
  rw[e1];exact hi
 .have e:b=(s1.heap.push {cls:= .type "range",data:= .fields #[.int 0 s1.toks,.int j t,.int 1<|s1.toks+1]}).objs.size:=by exists hb
  subst e;exact I2.fpOk (aK _) (I2.hok.fresh<|aK _)
theorem dC0:PGet X (rIxL X.K):=by
 intro pins s σ H o i ov iv Q I ro ri h;obtain⟨p,xs,k,z,rfl,rfl,hq,he,q⟩:=h;cases ro;obtain⟨t,rfl⟩:=ri;obtain⟨its,r,pl,hz⟩:=I.list hq;obtain⟨j,h1,h2,h3,h4,h5⟩:=bC9 he;obtain⟨w,ew,rw'⟩:=r.get h2;have hl:=r.length;have hn:=b20;have fin:EP X pins σ Q w s:=⟨z,H,I,rw',q⟩
 by_cases h0:0<=k
 .have hj:k.toNat=j:=by
   rw[a13 h0 h5]at h1;exact eG h1
  exact wpAny_getItem_list pl.isList h0 ad (by rw[hj];exists ew) fin
 .have hj:(k+(its.toArray.size:Int)).toNat=j:=by
   rw[a10 ad h4]at h1
   rw[bD,<-hl];exact eG h1
  exact wpAny_getItem_list_neg pl.isList ad (by rw[bD]<;>lia) ad (by rw[hj];exists ew) fin
end
end L2
namespace HT
open PySem PyProof.Rows
section
variable {prog:Program}{w:World}{A:Around}{E:Value->Shared->Prop}{s:Shared}
theorem getItem_tuple_whole {lo:Option Int}(ht:IsTup s.heap t items)(hs:s.heap.IsSliceOf sl vl vu .none)(pl:IsPart vl lo)(pu:IsPart vu hi)
  (hw:sIx items.size 0 lo=0/\sIx items.size items.size hi=items.size) (h:Q (.ref t) s):wpAny (model prog w) A (getItem (.ref t)<|.ref sl) Q E s:=by
 obtain⟨os,hos,hcs,hds⟩:=id hs;have hTs:s.TypeIs (.ref sl) "slice":=⟨os,hos,hcs⟩;unfold getItem;try with_reducible refine iZ ?_
 first|refine a9 (aP ?_)|skip
 refine a9 (wpAny_sequenceKey ht.typeIs ac ?_)
 refine a9 (kR (name:=Str.ofString "__getitem__") ht.typeIs zI<|iX zI ht.typeIs entry_tuple_getitem ?_<|args_tuple_getitem _ _)
 show wpAny _ _ (Builtin.Tuple.tupleItemsOf (.ref t) >>= _) _ _ s
 refine a9 (tupleItemsOf_ ht ?_)
 refine a9 (a09 hTs ?_)
 rw[aA ac]
 refine a9 (yL hs pl pu ?_)
 have hyes:(((sIx items.size 0 lo:Nat):Int)==0&&(1:Int)==1&&(sIx items.size items.size hi-sIx items.size 0 lo)==items.size)=true:=by
  rw[hw.1,hw.2];simp
 show wpAny _ _ (if(((sIx items.size 0 lo:Nat):Int)==0&&(1:Int)==1&&(sIx items.size items.size hi-sIx items.size 0 lo)==items.size)=true then _ else _) _ _ s
 rw[aA hyes];show wpAny _ _ (Builtin.Tuple.tupleIsExact (.ref t) >>= _) _ _ s;unfold Builtin.Tuple.tupleIsExact;refine a9 (a9<|a09 ht.typeIs<|aP ?_);show wpAny _ _ (if(Value.type "tuple"==Value.type "tuple")=true then _ else _) _ _ s;rw[aA ac]
 refine a9 (qB ?_)
 first
  | exact aP ⟨_,rfl,aP h⟩
  | exact a9 (aP<|aP ⟨_,rfl,aP h⟩)
  | exact a9 (aP ⟨_,rfl,aP h⟩)
end
end HT
namespace L2
section
variable {X:Cx}
def rSlW (K:Frag):V->Option Int->Option Int->Hp->VK->Prop:=λx lo hi H Q=> ∃a xs,x= .ref a/\SqT K H a xs/\(HT.sIx xs.length 0 lo=0/\HT.sIx xs.length xs.length hi=xs.length)/\Q (.ref a) H
theorem dC1:SlR X (rSlW X.K):=by
 intro pins s σ H x v vl vu lo hi sl Q I rx hs pl pu h;obtain⟨a,xs,rfl,hx,hw,q⟩:=h;cases rx;obtain⟨its,r,ht,hz⟩:=I.tuple hx;have hlen:its.toArray.size=xs.length:=by rw[bD];exact r.length.symm
 exact⟨"tuple",_,PyProof.Rows.slot_tuple_getitem.lookup,ht.typeIs,HT.getItem_tuple_whole ht hs pl pu (by rw[hlen];exact hw) ⟨.ref a,H,I,rfl,q⟩⟩
end
end L2
namespace M
section
variable {X:Cx}{K:Frag}{A:AS}{H:Hp}{e a b:Expr}{te ti:UE}{pos p2:Pos}{C:C0}{ρ ρ':Ev}{σ:L2.St}
def gSlT (d:D)(lo hi:Option Int)(Q:B->Prop):Prop:=match d with
 | .tup l=>Q (.pu<|.tup<|cutD l lo hi)
 | .lst l=>Q (.ow<|cutD l lo hi)
 | .rol l=>Q (.ow<|cutD l lo hi)
 | _=>False
def dC2 (t:UE)(tl th:UO):UE:=λρ Q=>t ρ λb0 ρ1=>tl ρ1 λlo ρ2=>th ρ2 λhi ρ3=>gSlT b0.d lo hi λb=>Q b ρ3
theorem d26 (l:List D)(lo hi:Option Int)(h:HT.sIx l.length 0 lo=0/\HT.sIx l.length l.length hi=l.length):cutD l lo hi=l:=by
 unfold cutD;rw[h.1,h.2];simp
theorem b33 {tl th:UO}{lo hi:Option Expr}(he:PU X e te)(hl:PUO X lo tl)(hu:PUO X hi th):PU X (.Subscript e (.Slice lo hi none p2) pos) (dC2 te tl th):=
 jA (cB2 ((cV7.or d94).or dC1) he hl hu) λσ H Q ⟨C,ρ,Q0,I,h,k⟩=>⟨C,ρ,_,I,h,λb0 ρ1 v H1 q f s r=>by
  have I1:=(I.frz f).same s;have rr:=r.rep λa z=>I.avF f z
  refine⟨C,ρ1,_,I1,q,λl2 ρ2 H2 q2 f2 s2=> ?_⟩
  have I2:=(I1.frz f2).same s2;refine⟨C,ρ2,_,I2,q2,λh3 ρ3 H3 q3 f3 s3=> ?_⟩
  have I3:=(I2.frz f3).same s3;have s13:=s2.trans s3;have sAll:=s.trans s13;have fAll:=f.trans (f2.trans f3);have r':Rep X.K (Av C ρ3 σ) H3 b0.d v:=rr.mono (.sub s13 λa z=>f2.av (f3.av z))
  generalize b0.d=d at r' q3;cases d with
  | tup l=>
   have r2:=r';obtain⟨a,vs,rfl,c,rs⟩:=r';have hlen:=rs.length
   by_cases hw:HT.sIx l.length 0 l2=0/\HT.sIx l.length l.length h3=l.length
   .refine .inr ⟨a,vs,rfl,c.imp cT id,by rw[<-hlen];exact hw,k _ ρ3 _ _ q3 fAll sAll ?_⟩
    rw[d26 l l2 h3 hw];exact r2
   .exact .inl (.inr ⟨a,vs,rfl,c.imp cT id,by rw[<-hlen];exact hw,λp n=>k _ ρ3 _ _ q3 fAll (sAll.trans<|eS n _) (iR (λa z=>I3.avSome z) n<|rs.cut l2 h3)⟩)
  | lst l=>
   obtain⟨a,vs,rfl,n0,c,rs⟩:=r';exact .inl (.inl ⟨a,vs,rfl,SqL.of c,λp n=>k _ ρ3 _ _ q3 fAll (sAll.trans<|eS n _) (hX sAll n<|rs.cut l2 h3)⟩)
  | rol l=>
   obtain⟨a,vs,rfl,c,rs⟩:=r';exact .inl (.inl ⟨a,vs,rfl,c.imp cT id,λp n=>k _ ρ3 _ _ q3 fAll (sAll.trans<|eS n _) (hX sAll n<|rs.cut l2 h3)⟩)
  | _=>exact(show False from q3).elim⟩
def dC3 (i:Nat)(f:Int->Int->Int)(ti te:UE):US:=λD ρ=>jS ρ i λ_=>ti ρ λj ρ1=>jS ρ1 i λl1=> ∃k n x,j.d= .int k/\ixN l1.length k=some n/\l1[n]? =some (.int x)/\
 te ρ1 λb ρ2=>jS ρ2 i λl=> ∃y,b.d= .int y/\D.nx (ρ2.set i<|some<|.ow<|l.set n<|.int<|f x y)
theorem dT1 {op:Operator}{f:Int->Int->Int}(i:Nat)(hx:PE X (.Name x p) (yK i))(hi:PU X ix ti)(he:PU X e te)(hp:PIp X op (ipI f))
  (ha: ∀ov iv new,augStore ix ov iv new=(do holding [new,ov,iv] (setItem ov iv new);release [new,ov,iv] [];pure .next):=by intros;rfl):PUS X (.AugAssign (.Subscript (.Name x p) ix tpos) op e pos) (dC3 i f ti te):=
 mI (dP8 hx hi dC0 he hp aV4 ha) λD σ H ⟨C,ρ,D0,I,h,k⟩=>by
  obtain⟨l,hl,h⟩:=i9 h;obtain⟨a,vs,h1,h2,h3,h4⟩:=I.ow i l hl;refine⟨.ref a,h1,C,ρ,_,I,h,λj ρ1 w H1 q f1 s1 r1=> ?_⟩
  obtain⟨l1,hl1,kk,n,x0,ej,en,ex,q⟩:=i9 q;have e1:=f1.ow hl1;rw[hl]at e1;cases e1;have I1:=(I.frz f1).same s1;obtain⟨a1,vs1,g1,g2,g3,g4⟩:=I1.ow i l hl1;rw[h1]at g1;cases g1;have rj:=r1.rep λa z=>I.avF f1 z
  rw[ej]at rj;have:=bL rj;subst this;obtain⟨v0,ev0,rv0⟩:=g4.get ex;have:=bL rv0;subst this;have hat:L2.atI vs1 kk=some (.int x0):=by unfold L2.atI;rw[<-g4.length,en];exact ev0
  refine⟨a,vs1,kk,_,rfl,rfl,SqL.of g2,hat,C,ρ1,_,I1,q,λb ρ2 w2 H2 q2 f2 s2 r2=> ?_⟩
  obtain⟨l2,hl2,y,eb,q2⟩:=i9 q2;have e2:=f2.ow hl2;rw[hl1]at e2;cases e2;have I2:=(I1.frz f2).same s2;obtain⟨a2,vs2,k1,k2,k3,k4⟩:=I2.ow i l hl2;rw[h1]at k1;cases k1;have rb:=r2.rep λa z=>I1.avF f2 z
  rw[eb]at rb;have:=bL rb;subst this;exact⟨x0,y,rfl,rfl,a,vs2,kk,n,rfl,rfl,k2,by rw[<-k4.length];exact en,k.nx _ _ _ q2<|I2.write hl2 h1<|k4.set n<|show Rep _ _ _ _ _ by simp only[Rep]⟩
mutual
noncomputable def pd:D->Option PyData
 | .non=>some .none
 | .bl b=>some (.bool b)
 | .int i=>some (.int i)
 | .tup l=>(pdL l).map .tuple
 | .lst l=>(pdL l).map .list
 | .rol l=>(pdL l).map .list
 | .str s=>if PyData.canLay0 (.str s)=true then some (.str s)else none
 | .ty _=>none
 | .obj _ _ _=>none
 | .adr _=>none
 | .xob _ _ _ _=>none
noncomputable def pdL:List D->Option (List PyData)
 | []=>some []
 | d::r=>(pd d).bind λx=>(pdL r).map (x::·)
end
theorem cD1 {d:D}{r:List D}{xs:List PyData}(h:pdL (d::r)=some xs): ∃x ys,xs=x::ys/\pd d=some x/\pdL r=some ys:=by
 simp only[pdL]at h;cases e:pd d with
 | none=>rw[e]at h;cases h
 | some x=>
  rw[e]at h;cases e2:pdL r with
  | none=>rw[e2]at h;cases h
  | some ys=>rw[e2]at h;cases h;exact⟨x,ys,rfl,rfl,rfl⟩
theorem tO {α β:Type}{o:Option α}{f:α->β}{y:β}(h:o.map f=some y): ∃x,o=some x/\y=f x:=by
 cases o with
 | none=>cases h
 | some x=>cases h;exact⟨x,rfl,rfl⟩
mutual
theorem cO3: ∀(d:D) {x:PyData},pd d=some x->x.canLay0=true
 | .non,x,h=>by simp only[pd]at h;cases h;rfl
 | .bl b,x,h=>by simp only[pd]at h;cases h;rfl
 | .int i,x,h=>by simp only[pd]at h;cases h;rfl
 | .tup l,x,h=>by simp only[pd]at h;obtain⟨xs,e,rfl⟩:=tO h;simp only[PyData.canLay0];exact bD2 l e
 | .lst l,x,h=>by simp only[pd]at h;obtain⟨xs,e,rfl⟩:=tO h;simp only[PyData.canLay0];exact bD2 l e
 | .rol l,x,h=>by simp only[pd]at h;obtain⟨xs,e,rfl⟩:=tO h;simp only[PyData.canLay0];exact bD2 l e
 | .str s,x,h=>by simp only[pd]at h;split at h;(rename_i c;cases h;exact c);cases h
 | .ty _,x,h=>by simp only[pd]at h;cases h
 | .obj _ _ _,x,h=>by simp only[pd]at h;cases h
 | .adr _,x,h=>by simp only[pd]at h;cases h
 | .xob _ _ _ _,x,h=>by simp only[pd]at h;cases h
theorem bD2: ∀(l:List D) {xs:List PyData},pdL l=some xs->PyData.canLayAll0 xs=true
 | [],xs,h=>by simp only[pdL]at h;cases h;rfl
 | d::r,xs,h=>by
  obtain⟨x,ys,rfl,e1,e2⟩:=cD1 h;simp only[PyData.canLayAll0,cQ];exact⟨cO3 d e1,bD2 r e2⟩
end
section
variable {pins:List (Addr×Obj)}{s:Shared}
mutual
theorem b34 (I:Inv X pins σ H s): ∀(d:D) {x:PyData} {v:V} {u:Value},pd d=some x->Rep X.K A H d v->RelV v u-> ∃as,Reads s.heap u x as
 | .non,x,v,u,h,r,q=>by simp only[pd]at h;cases h;simp only[Rep]at r;subst r;cases q;exact⟨_,.none⟩
 | .bl b,x,v,u,h,r,q=>by simp only[pd]at h;cases h;simp only[Rep]at r;subst r;cases q;exact⟨_,.bool b⟩
 | .int i,x,v,u,h,r,q=>by simp only[pd]at h;cases h;simp only[Rep]at r;subst r;obtain⟨t,rfl⟩:=q;exact⟨_,.int i t⟩
 | .tup l,x,v,u,h,r,q=>by
  simp only[pd]at h;obtain⟨xs,e,rfl⟩:=tO h;simp only[Rep]at r;obtain⟨a,vs,rfl,c,rs⟩:=r;cases q;obtain⟨its,rv,⟨o,ho,hc,n,hd⟩,hz⟩:=I.tuple (c.imp cT id);obtain⟨as,ra⟩:=a18 I l e rs rv;exact⟨_,.tuple ho hc hd<|by exists ra⟩
 | .lst l,x,v,u,h,r,q=>by
  simp only[pd]at h;obtain⟨xs,e,rfl⟩:=tO h;simp only[Rep]at r;obtain⟨a,vs,rfl,n0,c,rs⟩:=r;cases q;obtain⟨its,rv,p,hz⟩:=I.list (SqL.of c);obtain⟨o,ho,hc,n,hd⟩:=p.isList;obtain⟨as,ra⟩:=a18 I l e rs rv;exact⟨_,.list ho hc hd<|by exists ra⟩
 | .rol l,x,v,u,h,r,q=>by
  simp only[pd]at h;obtain⟨xs,e,rfl⟩:=tO h;simp only[Rep]at r;obtain⟨a,vs,rfl,c,rs⟩:=r;cases q;obtain⟨its,rv,p,hz⟩:=I.list (c.imp cT id);obtain⟨o,ho,hc,n,hd⟩:=p.isList;obtain⟨as,ra⟩:=a18 I l e rs rv;exact⟨_,.list ho hc hd<|by exists ra⟩
 | .str i,x,v,u,h,r,q=>by simp only[pd]at h;split at h<;>cases h;simp only[Rep]at r;subst r;obtain⟨t,rfl⟩:=q;exact⟨_,.str i t⟩
 | .ty _,x,v,u,h,r,q=>by simp only[pd]at h;cases h
 | .obj _ _ _,x,v,u,h,r,q=>by simp only[pd]at h;cases h
 | .adr _,x,v,u,h,r,q=>by simp only[pd]at h;cases h
 | .xob _ _ _ _,x,v,u,h,r,q=>by simp only[pd]at h;cases h
theorem a18 (I:Inv X pins σ H s): ∀(l:List D) {xs:List PyData} {vs:List V} {us:List Value},pdL l=some xs->bX X.K A H l vs->Vals vs us-> ∃as,ReadsAll s.heap us xs as
 | [],xs,vs,us,h,r,q=>by simp only[pdL]at h;cases h;have:=r.unnil;subst this;cases q;exact⟨_,.nil⟩
 | d::l,xs,vs,us,h,r,q=>by
  obtain⟨x,ys,rfl,e1,e2⟩:=cD1 h;obtain⟨v,vr,rfl,r1,rs⟩:=r.uncons;cases q with
  | cons q1 q2=>
   obtain⟨as,h1⟩:=b34 I d e1 r1 q1;obtain⟨bs,h2⟩:=a18 I l e2 rs q2;exact⟨_,.cons h1 h2⟩
end
end
def cO4 (neg:Bool)(d e:D)(Q:B->Prop):Prop:= ∃p q,pd d=some p/\pd e=some q/\p.depth<=60/\Q (.pu<|.bl<|neg ^^ p.eqv q)
theorem cO5 (hu:X.A.units+64<cLine):OpU X (compareOp .Eq) (cO4 false):=by
 intro A H d e v w Q0 Q hA r1 r2 g k;obtain⟨p,q,e1,e2,hd,g⟩:=g;refine⟨λx y H Q=> ∃(A:AS) (d e:D) (p q:PyData),Rep X.K A H d x/\Rep X.K A H e y/\pd d=some p/\pd e=some q/\p.depth<=60/\Q (.bl<|p.eqv q) H,?_,A,d,e,p,q,r1,r2,e1,e2,hd,k _ _ H g (.refl _) (by rw[l4];exact l9)⟩
 rintro pins s σ H x y v u Q I rx ry ⟨A,d,e,p,q,r1,r2,e1,e2,hd,h⟩;obtain⟨as,ra⟩:=b34 I d e1 r1 rx;obtain⟨bs,rb⟩:=b34 I e e2 r2 ry;exact SeqAt.compareEq_reads ra rb (cO3 d e1) (cO3 e e2) ad ⟨.bl _,H,I,rfl,h⟩
def SqA (K:Frag)(A:AS)(H:Hp)(T:Bool)(a:Addr)(vs:List V):Prop:=match T with
 | false=>(¬A a/\Rd H a (.lst vs))\/KL K a vs
 | true=>(¬A a/\Rd H a (.tup vs))\/KT K a vs
theorem SqA.sqv {T:Bool}{a':Addr}{vs:List V}{A':AS}{H':Hp}(c:SqA K A H T a' vs)(P:kO A H A' H'):SqV K T H' a' vs:=by
 cases T<;>(rcases c with⟨n,c⟩|c;exact .inl (Rd.pres P n c).2;exact .inr c)
theorem kO.self:kO A H A H:=λ_ _ n e=>⟨n,e⟩
theorem Rep.sq {d:D}{v:V}{l:List D}(r:Rep K A H d v)(h:oG d=some l): ∃T a vs,v= .ref a/\SqA K A H T a vs/\bX K A H l vs:=by
 cases d with
 | tup l'=>cases h;simp only[Rep]at r;obtain⟨a,vs,e,c,r⟩:=r;exact⟨true,a,vs,e,c,r⟩
 | lst l'=>cases h;simp only[Rep]at r;obtain⟨a,vs,e,n,c,r⟩:=r;exact⟨false,a,vs,e,.inl ⟨n,.inl c⟩,r⟩
 | rol l'=>cases h;simp only[Rep]at r;obtain⟨a,vs,e,c,r⟩:=r;exact⟨false,a,vs,e,c,r⟩
 | _=>cases h
theorem bX.at {l:List D}{vs:List V}(r:bX K A H l vs)(hi:i<l.length): ∃x,vs[i]? =some x/\Rep K A H (l.getD i .non) x:=r.get (by rw[aO,aS hi];rfl)
theorem dC4 {vs ws:List V}{l m:List D}(c1:SqA K A H T1 l1 vs)(c2:SqA K A H T2 l2 ws)(r1:bX K A H l vs)(r2:bX K A H m ws) :
  cC1 K A H (Itz K T1 T2 l1 l2) (min l.length m.length) (λi=> .tup [l.getD i .non,m.getD i .non]):=by
 have k1:=r1.length;have k2:=r2.length;refine⟨λA' H' i P hi=> ?_,λA' H' i x H'' P hA hi y=> ?_,λA' H' P=>⟨vs,ws,c1.sqv P,c2.sqv P,ad⟩⟩
 .obtain⟨x,e1,_⟩:=r1.at (i:=i) ad
  obtain⟨y,e2,_⟩:=r2.at (i:=i) ad
  exact⟨vs,ws,x,y,c1.sqv P,c2.sqv P,e1,e2⟩
 .obtain⟨x1,e1,q1⟩:=r1.at (i:=i) ad
  obtain⟨y1,e2,q2⟩:=r2.at (i:=i) ad
  obtain⟨T,a,b,rfl,hT,rfl,ha,hb⟩:=y;have ea:=ha vs (c1.sqv P);have eb:=hb ws (c2.sqv P);rw[e1]at ea;cases ea;rw[e2]at eb;cases eb;exact⟨eS hT _,iR hA hT<|.cons (q1.mono P)<|.cons (q2.mono P) .nil⟩
theorem d27 {T:Bool}{vs:List V}{l:List D}(c1:SqA K A H T l1 vs)(r1:bX K A H l vs):cC1 K A H (Ite K T l1) l.length (λi=> .tup [.int (i:Int),l.getD i .non]):=by
 have k1:=r1.length;refine⟨λA' H' i P hi=> ?_,λA' H' i x H'' P hA hi y=> ?_,λA' H' P=>⟨vs,c1.sqv P,k1.symm⟩⟩
 .obtain⟨x,e1,_⟩:=r1.at hi;exact⟨vs,x,c1.sqv P,e1⟩
 .obtain⟨x1,e1,q1⟩:=r1.at hi;obtain⟨T,a,rfl,hT,rfl,ha⟩:=y;have ea:=ha vs (c1.sqv P);rw[e1]at ea;cases ea;exact⟨eS hT _,iR hA hT<|.cons (show Rep _ _ _ _ _ by simp only[Rep])<|.cons (q1.mono P) .nil⟩
def dC5 (ta:UA):UI:=λρ Q=>ta ρ λds ρ1=>match ds with
 | [d,e]=>(match oG d,oG e with
  | some l,some m=>Q (min l.length m.length) (λi=> .tup [l.getD i .non,m.getD i .non]) ρ1
  | _,_=>False)
 | _=>False
theorem cO6 {ta:UA}(hg:Gl X "zip")(hm:X.mg "zip"=none)(ha:PUA X [a,b] ta)(hs:↥(starEach [a,b] X.env=[(false,eval a X.env),(false,eval b X.env)]))(hs2:↥(starEach [b] X.env=[(false,eval b X.env)])) :
  PUI X (.Tuple elts kt tp) (.Call (.Name "zip" p) [a,b] [] pos) (dC5 ta):=
 b78 (pi_zip hg hm ha hs hs2) λσ H R ⟨C,ρ,Q0,I,h,k⟩=>⟨C,ρ,_,I,h,λds ρ1 vs H1 q f s r=>by
  split at q
  .rename_i d e
   obtain⟨v,vr,rfl,rv,rr⟩:=r.uncons;obtain⟨w,wr,rfl,rw',rr'⟩:=rr.uncons;have:=rr'.unnil;subst this;split at q
   .rename_i l m e1 e2
    obtain⟨T1,a1,us,rfl,c1,s1⟩:=rv.sq e1;obtain⟨T2,a2,ws,rfl,c2,s2⟩:=rw'.sq e2;exact⟨a1,a2,T1,T2,us,ws,rfl,c1.sqv .self,c2.sqv .self,k _ _ ρ1 _ H1 q f s<|dC4 c1 c2 s1 s2⟩
   .exact q.elim
  .exact q.elim⟩
def dC6 (ta:UA):UI:=λρ Q=>ta ρ λds ρ1=>match ds with
 | [d]=>(match oG d with
  | some l=>Q l.length (λi=> .tup [.int (i:Int),l.getD i .non]) ρ1
  | none=>False)
 | _=>False
theorem dT2 {ta:UA}(hg:Gl X "enumerate")(hm:X.mg "enumerate"=none)(ha:PUA X [a] ta)(hs:↥(starEach [a] X.env=[(false,eval a X.env)])) :
  PUI X (.Tuple elts kt tp) (.Call (.Name "enumerate" p) [a] [] pos) (dC6 ta):=
 b78 (dS9 hg hm ha hs) λσ H R ⟨C,ρ,Q0,I,h,k⟩=>⟨C,ρ,_,I,h,λds ρ1 vs H1 q f s r=>by
  split at q
  .rename_i d
   obtain⟨v,vr,rfl,rv,rr⟩:=r.uncons;have:=rr.unnil;subst this;split at q
   .rename_i l e1
    obtain⟨T1,a1,us,rfl,c1,s1⟩:=rv.sq e1;exact⟨a1,T1,us,rfl,c1.sqv .self,k _ _ ρ1 _ H1 q f s<|d27 c1 s1⟩
   .exact q.elim
  .exact q.elim⟩
def cW3 (ta:UA):UI:=λρ Q=>ta ρ λds ρ1=>match ds with
 | [.int j]=>(-(2^31)<=j/\j<2^31)/\Q j.toNat (λk=> .int ((j.toNat:Int)-1-k)) ρ1
 | _=>False
theorem cW4 {ta:UA}{q2 pos2:Pos}(hg:Gl X "reversed")(hm:X.mg "reversed"=none)(hg2:Gl X "range")(hm2:X.mg "range"=none)(ha:PUA X [a] ta)(hs:↥(starEach [a] X.env=[(false,eval a X.env)]))
  (hs2:↥(starEach [.Call (.Name "range" q2) [a] [] pos2] X.env=[(false,eval (.Call (.Name "range" q2) [a] [] pos2) X.env)])) :
  PUI X tg (.Call (.Name "reversed" p) [.Call (.Name "range" q2) [a] [] pos2] [] pos) (cW3 ta):=
 b78 (cD0 hg hm hg2 hm2 ha hs hs2) λσ H R ⟨C,ρ,Q0,I,h,k⟩=>⟨C,ρ,_,I,h,λds ρ1 vs H1 q f s r=>by
  split at q
  .rename_i j
   obtain⟨v,vr,rfl,rv,rr⟩:=r.uncons;have:=rr.unnil;subst this;have:=bL rv;subst this;obtain⟨⟨h1,h2⟩,q⟩:=q;exact⟨j,rfl,h1,h2,k _ _ ρ1 _ H1 q f s bW0⟩
  .exact q.elim⟩
end
section
variable {X:Cx}{a b c e:Expr}{ta tb tc te:UE}{pos:Pos}
def cO7 (g g':D->D->(B->Prop)->Prop)(ta tb tc:UE):UE:=λρ Q=>ta ρ λx ρ1=>tb ρ1 λy ρ2=>g x.d y.d λb=>isB (λk ρ3=>if k=true then tc ρ3 λz ρ4=>g' y.d z.d λb'=>Q b' ρ4 else Q (.pu<|.bl false) ρ3) b ρ2
theorem dC7 {op':CmpOp}{g g':D->D->(B->Prop)->Prop}(ho:OpU X (compareOp op) g)(ho':OpU X (compareOp op') g')(ha:PU X a ta)(hb:PU X b tb)(hc:PU X c tc)
  (hm:lastMarks [op,op'] [b,c]=false:=by with_unfolding_all rfl):PU X (.Compare a [op,op'] [b,c] pos) (cO7 g g' ta tb tc):=
 jA (d85 cB5 cB5 ha hb hc hm) λσ H Q ⟨C,ρ,Q0,I,h,k⟩=>⟨C,ρ,_,I,h,λx ρ1 v H1 q1 f1 s1 r1=>by
  have I1:=(I.frz f1).same s1;refine⟨C,ρ1,_,I1,q1,λy ρ2 w H2 q2 f2 s2 r2=> ?_⟩
  have I2:=(I1.frz f2).same s2;have rx:Rep X.K (Av C ρ2 σ) H2 x.d v:=(r1.rep λa z=>I.avF f1 z).mono (.sub s2 λa=>f2.av)
  have ry:Rep X.K (Av C ρ2 σ) H2 y.d w:=r2.rep λa z=>I1.avF f2 z
  refine ho (Av C ρ2 σ) H2 x.d y.d v w _ _ (λa z=>I2.avSome z) rx ry q2 λb v' H3 q3 s3 r3=> ?_
  obtain⟨kk,rfl,q3⟩:=c19 q3 r3;refine⟨kk,rfl,?_⟩;have I3:=I2.same s3;cases kk with
  | false=>
   rw[a7 cK]at q3⊢;exact k _ _ _ _ q3 (f1.trans f2) (s1.trans<|s2.trans s3) l9
  | true=>
   rw[aA rfl]at q3⊢;refine⟨C,ρ2,_,I3,q3,λz ρ4 w' H4 q4 f4 s4 r4=> ?_⟩
   have I4:=(I3.frz f4).same s4;have ry4:Rep X.K (Av C ρ4 σ) H4 y.d w:=ry.mono (.sub (s3.trans s4) λa=>f4.av)
   exact ho' (Av C ρ4 σ) H4 y.d z.d w w' _ Q (λa z=>I4.avSome z) ry4 (r4.rep λa z=>I3.avF f4 z) q4 λb' v'' H5 q5 s5 r5=>k b' ρ4 v'' H5 q5 (f1.trans<|f2.trans f4) (s1.trans<|s2.trans<|s3.trans<|s4.trans s5) (r5.from<|s1.trans<|s2.trans<|s3.trans s4)⟩
end
end M
end
section
namespace L2
theorem b35:fillsNumberSlot (.type "tuple") "mul"=pure false:=
 PySem.fillsNumberSlot_seq PySem.F.slot_tuple_mul.lookup af PySem.F.slot_tuple_rmul.lookup af
theorem c29:seqRepeat? (.type "tuple")=pure (some<|.builtin "tuple.__mul__"):=by
 unfold seqRepeat?;rw[PySem.seqSlot_of (T:="tuple") (name:="__mul__") (id:="tuple.__mul__") PySem.F.slot_tuple_mul.lookup af,PySem.seqSlot_of (name:="__rmul__") PySem.F.slot_tuple_rmul.lookup af]
 rfl
theorem bG5 (a:Int)(t:Tok)(l:Addr)(items:Array Value)(n:Nat)(dd:Option Addr)(sl:Array (Option Value)) :
  Meets (Builtin.«int.__rmul__» ⟨[.int a t,.ref l],[]⟩) (λ_ R s=>s.heap.get? l=some {cls:= .type "tuple",dict:=dd,data:= .seq items n,slots:=sl}/\R (.ok<|.ret Value.notImplemented) s):=
 .of_wp λprog w A R s h=>by obtain⟨hp,g,d,tk,os⟩:=s;obtain⟨hl,h⟩:=h;wp_walk using kX hl;exact⟨_,rfl,h⟩
theorem dC8 (l:Addr)(items:Array Value)(n:Nat)(dd:Option Addr)(sl:Array (Option Value))(u:Tok) :
  Meets (Builtin.«tuple.__mul__» ⟨[.ref l,.int 1 u],[]⟩) (λ_ R s=>s.heap.get? l=some {cls:= .type "tuple",dict:=dd,data:= .seq items n,slots:=sl}/\R (.ok<|.ret<|.ref l) s):=
 .of_wp λprog w A R s h=>by
  obtain⟨hp,g,d,tk,os⟩:=s;obtain⟨hl,h⟩:=h
  wp_walk using kX hl
  exact⟨_,rfl,h⟩
theorem dC9 (l:Addr)(items:Array Value)(n:Nat)(dd:Option Addr)(sl:Array (Option Value))(k:Int)(u:Tok)(h1: ¬(k< -(2^63)||k≥2^63)=true)(hne: ¬(items.isEmpty||k==1)=true)(h0:(k<=0||items.isEmpty)=true) :
  Meets (Builtin.«tuple.__mul__» ⟨[.ref l,.int k u],[]⟩) (λ_ R s=>s.heap.get? l=some {cls:= .type "tuple",dict:=dd,data:= .seq items n,slots:=sl}/\R (.ok<|.ret<|.ref s.heap.objs.size) {s with heap:=s.heap.push {cls:= .type "tuple",data:= .seq #[]}}):=
 .of_wp λprog w A R s h=>by
  obtain⟨hp,g,d,tk,os⟩:=s;obtain⟨hl,h⟩:=h
  wp_walk using kX hl
  rw[a7 h1]
  wp_walk using kX hl
  exact⟨_,rfl,h⟩
theorem dD0 (l:Addr)(items:Array Value)(n:Nat)(dd:Option Addr)(sl:Array (Option Value))(k:Int)(u:Tok)(h1: ¬(k< -(2^63)||k≥2^63)=true)(hne: ¬(items.isEmpty||k==1)=true)(h0: ¬(k<=0||items.isEmpty)=true)
  (h2: ¬items.size*k>(2^63-1)/8) (h3: ¬Builtin.Tuple.tupleTooMany (items.size*k)=true) (hz:(foldl (λx1 x2=>x1++x2) #[] (replicate k.toNat items)).size<=sizeLine) :
  Meets (Builtin.«tuple.__mul__» ⟨[.ref l,.int k u],[]⟩) (λ_ R s=>s.heap.get? l=some {cls:= .type "tuple",dict:=dd,data:= .seq items n,slots:=sl}/\R (.ok<|.ret<|.ref s.heap.objs.size) {s with heap:=s.heap.push {cls:= .type "tuple",data:= .seq (foldl (λx1 x2=>x1++x2) #[] (replicate k.toNat items))}}):=
 .of_wp λprog w A R s h=>by
  obtain⟨hp,g,d,tk,os⟩:=s;obtain⟨hl,h⟩:=h
  wp_walk using kX hl
  rw[a7 h1]
  wp_walk using kX hl
  rw[a7 h2]
  wp_walk using kX hl
  all_goals first
   | exact⟨_,rfl,h⟩
   | (refine wpAny_ite_false (eF<|Nat.not_lt.mpr hz) ?_
      exact⟨_,rfl,h⟩)
section
variable {X:Cx}
theorem dT3:OpR X (binaryOp .Mult) (λx y H Q=> ∃a k xs,x= .ref a/\y= .int k/\SqT X.K H a xs/\xs≠[]/\ -(2^63)<=k/\k<2^63/\xs.length*k.toNat<=sizeLine/\(k=1->Q (.ref a) H)/\(k≠1-> ∀p,H p=none->Q (.ref p) (upd H p<|.tup (replicate k.toNat xs).flatten))):=by
 intro pins s σ H x y v u Q I rx ry h;obtain⟨a,k,xs,rfl,rfl,ha,hn,h1,h2,hz,q1,q2⟩:=h;cases rx;obtain⟨t,rfl⟩:=ry;obtain⟨its,r,p1,_⟩:=I.tuple ha;have hl:=r.length;obtain⟨⟨cls,dd,data,sl⟩,ho,hc,n,hd⟩:=id p1;simp only at hc hd;subst hc hd;have ne:its≠[]:=λz=>hn (tX.mp (by rw[hl,z];rfl))
 have ne2:its.toArray.isEmpty=false:=by cases its with
  | nil=>exact absurd rfl ne
  | cons b r'=>rfl
 have hb: ¬(decide (k< -(2^63))||decide (k≥2^63))=true:=by simp;omega
 have f0: ∀m:Nat,foldl (λx1 x2=>x1++x2) #[] (replicate m its.toArray)=(replicate m its).flatten.toArray:=λm=>by
  have:=foldl_rep its m [];rw[aR0]at this;exact this
 refine wpAny_binaryOp_repeat_ref (T:="tuple") (U:="int") ac ⟨_,ho,rfl⟩ (λs'=>qC s' k t) b35 PySem.F.fills_int_mul PySem.F.slot_int_rmul c29 PySem.F.slot_int_index.lookup
  (j6 PySem.F.slot_int_rmul (qC s k t) PySem.F.entry_int_rmul (PySem.F.args_int_rmul_2 _ _) (bG5 k t a its.toArray n dd sl) ⟨ho,rfl,⟨_,ho,rfl⟩,?_⟩)
 by_cases k1:k=1
 .subst k1;exact j6 aO2 ⟨_,ho,rfl⟩ aN6 (aN4 _ _) (dC8 a its.toArray n dd sl t) ⟨ho,.ref a,H,I,rfl,q1 rfl⟩
 have hne: ¬(its.toArray.isEmpty||k==1)=true:=by rw[ne2];exists k1
 by_cases k0:k<=0
 .have e0:k.toNat=0:=aa
  refine j6 aO2 ⟨_,ho,rfl⟩ aN6 (aN4 _ _) (dC9 a its.toArray n dd sl k t hb hne<|by simp[k0]) ⟨ho,?_⟩
  have q:=q2 k1;rw[e0]at q;exact⟨.ref _,_,I.laid (t':=s.toks) (o:= .tup []) (λb ob q=>aV _ q) (aK _) ⟨eH _,_,.nil,qD _ _⟩,rfl,q _ I.fresh⟩
 .have ek:k=(k.toNat:Int):=aa
  have em:(its.toArray.size:Int)*k=((its.toArray.size*k.toNat:Nat):Int):=by rw[aR1,<-ek]
  have hs:its.toArray.size*k.toNat<=sizeLine:=by rw[bD,<-hl];exact hz
  have hcap:(sizeLine:Nat)<=(2^63-1)/8:=ac
  refine j6 aO2 ⟨_,ho,rfl⟩ aN6 (aN4 _ _) (dD0 a its.toArray n dd sl k t hb hne (by rw[ne2];simp;omega) (by rw[em];omega) (by rw[em];unfold Builtin.Tuple.tupleTooMany;rw[fY];omega) (by rw[f0,bD,c17,mul_comm];exists hs)) ⟨ho,?_⟩
  rw[f0];exact⟨.ref _,_,I.laid (t':=s.toks) (o:= .tup (replicate k.toNat xs).flatten) (λb ob q=>aV _ q) (aK _) ⟨by rw[c17,mul_comm];exact hz,_,r.rep k.toNat,qD _ _⟩,rfl,q2 k1 _ I.fresh⟩
end
theorem dD1:typeLookup (.type "tuple") "__reversed__"=pure none:=by rw[zZ,zP];kernel_rfl
theorem sub_tuple_dict:isSubtype (.type "tuple") (.type "dict")=pure false:=by rw[pV];kernel_rfl
theorem bW1:Manifest.owners.lookup (String.ofList ['d','e','s','r','e','v','e','r'].reverse)=some Manifest.sig_reversed:=by kernel_rfl
theorem mV:Slot "reversed" "__next__" "reversed.__next__":=
 .of (owner:="reversed") (n:="__next__") (by rw[zZ,zP];kernel_rfl) af af af
  (by first|exact .inl af|exact .inr af) (by rw[pV];kernel_rfl)
theorem aB0:entryFor table "reversed.__next__"=some Builtin.«reversed.__next__» :=entryFor_of_tree (by kernel_rfl)
theorem a79 (a:Value):argsOk "reversed.__next__" ⟨[a],[]⟩:=by
 unfold argsOk;rw[signature?_of (n:=['_','_','t','x','e','n','_','_']) (by kernel_rfl) bW1];kernel_rfl
theorem aK7:Slot "reversed" "__iter__" "reversed.__iter__":=
 .of (owner:="reversed") (n:="__iter__") (by rw[zZ,zP];kernel_rfl) af af af
  (by first|exact .inl af|exact .inr af) (by rw[pV];kernel_rfl)
theorem bA9 (a:Value):argsOk "reversed.__iter__" ⟨[a],[]⟩:=by
 unfold argsOk;rw[signature?_of (n:=['_','_','r','e','t','i','_','_']) (by kernel_rfl) bW1];kernel_rfl
theorem bG6:entryFor table "reversed.__iter__"=some Builtin.«dict_keyiterator.__iter__» :=
 entryFor_alias (id':="dict_keyiterator.__iter__") (by kernel_rfl) (by first|rfl|decide +kernel| (unfold String.splitOn;simp +decide [String.splitOnAux])) af (by kernel_rfl)
theorem bQ3:Slot "reversed" "__init__" "object.__init__":=
 .of (owner:="object") (n:="__init__") (by rw[zZ,zP];kernel_rfl) af af af
  (by first|exact .inl af|exact .inr af) (by rw[pV];kernel_rfl)
theorem cO8:TypeCalled "reversed" "reversed.__new__" "object.__init__":=
 ⟨af,af,⟨_,_,PySem.F.mro_reversed⟩,PySem.F.made_reversed,af,by rw[pV];kernel_rfl,bQ3⟩
theorem dT4 (l:Addr)(items:Array Value)(hfit:(items.size:Int)<2^63) :
  Meets (Builtin.«reversed.__new__» ⟨[.type "reversed",.ref l],[]⟩) (λ_ R s=>s.heap.IsTuple l items/\R (.ok<|.ret<|.ref s.heap.objs.size) {s with heap:=s.heap.push {cls:= .type "reversed",data:= .fields #[.ref l,rawInt<|(items.size:Int)-1]},toks:=s.toks+1+1}):=
 .of_wp λprog w A R s h=>by
  obtain⟨hp,g,d,tk,os⟩:=s;obtain⟨ht,h⟩:=h;obtain⟨⟨c,dct,dt,sl⟩,hl,hc,n,hd⟩:=id ht
  replace hc:c= .type "tuple":=hc
  replace hd:dt= .seq items n:=hd
  subst hc hd;have f1:=PySem.F.sub_reversed_self;have f2:=dD1;have f4:=PySem.F.slot_tuple_getitem.lookup;have f5:=sub_tuple_dict;have e1:IsTup (Shared.heap ⟨hp,g,d,tk,os⟩) l items:=ht
  wp_walk using kX hl,PyProof.Rows.len_tuple e1 hfit
  exact⟨_,rfl,h⟩
def uR (h:Heap)(a l:Addr)(i:Int):Prop:= ∃o,h.get? a=some o/\o.cls= .type "reversed"/\o.data= .fields #[.ref l,rawInt i]
theorem uR.at {i:Int}(x:uR h a l i)(e: ∀o,h.get? a=some o->h'.get? a=some o):uR h' a l i:=let ⟨o,ho,r⟩:=x;⟨o,e _ ho,r⟩
section
variable {prog:Program}{w:World}{A:Around}{E:Value->Shared->Prop}{s:Shared}
theorem uR.typeIs {i:Int}(x:uR s.heap a l i):s.TypeIs (.ref a) "reversed":=let ⟨o,ho,hc,_⟩:=x;⟨o,ho,hc⟩
theorem dD2 (hl:s.heap.IsTuple l items)(hfit:(items.size:Int)<2^63)
  (h:Q (.ref s.heap.objs.size) {s with heap:=s.heap.push {cls:= .type "reversed",data:= .fields #[.ref l,rawInt<|(items.size:Int)-1]},toks:=s.toks+1+1}) :
  wpAny (model prog w) A (call (.type "reversed") [.ref l]) Q E s:=
 callType_new cO8 ac (PySem.F.typeCall_reversed_1 _) (PySem.F.newCall_reversed_1 _) (λobj=>PySem.F.args_object_init_2 obj _) PySem.F.entry_reversed_new (dT4 l items hfit) ⟨hl,⟨_,cD _ rfl,rfl⟩,h⟩
theorem bG7 {i:Int}(hit:uR s.heap it l i)(h:Q (.ref it) s):wpAny (model prog w) A (pyIter<|.ref it) Q E s:=by
 refine wpAny_pyIter_slot hit.typeIs aK7 (iX aK7 hit.typeIs bG6 ?_<|bA9 _)
 exact aP ⟨_,rfl,"reversed",_,hit.typeIs,mV.lookup,h⟩
theorem dD3 {x:Value}{Q:Option Value->Shared->Prop}(hit:uR s.heap it l (i:Int))(hl:s.heap.IsTuple l items)(hx:items[i]? =some x)(hfit:(i:Int)<2^63)
  (hQ: ∀h' tk,uR h' it l ((i:Int)-1)->SameBut it s.heap h'->Q (some x) {s with heap:=h',toks:=tk}):wpAny (model prog w) A (pyNext<|.ref it) Q E s:=by
 obtain⟨o,ho,hc,hd⟩:=id hit;have hlt:i<items.size:=(Array.getElem?_eq_some_iff.mp hx).1;have hi:seqIndex? (i:Int) items.size=some i:=by
  unfold seqIndex?;simp
  lia
 have tl:s.TypeIs (.ref l) "tuple":=hl.typeIs;refine a9 (uF (kR hit.typeIs mV
  (iX mV hit.typeIs aB0 ?_<|a79 _)))
 refine a9 (k7 rfl ?_)
 refine a9 (dI ho hd rfl ?_)
 refine a9 (dI ho hd rfl ?_)
 refine a9 (wpAny_specialOf tl PySem.F.slot_tuple_getitem.lookup ?_)
 refine a9 (wpAny_mkInt ?_)
 have ht:IsTup s.heap l items:=hl;refine a9 (uF<|PyProof.Rows.getItem_tuple ht ad hfit hi hx ?_)
 refine a9 (dI ho hd rfl ?_)
 refine a9 (uE ho hd ae ?_)
 refine aP ⟨x,rfl,aP<|hQ _ _ ?_<|u4 ..⟩
 exact⟨_,pK _ ho<|aO4<|pQ hd _,(Obj.cls_mapFields ..).trans hc,by
  rw[pQ hd];simp⟩
theorem dT5 {it l:Addr}{Q:Option Value->Shared->Prop}(hh:A.handled=none)(hit:uR s.heap it l (-1))
  (hQ: ∀h',ExtBut it s.heap h'->Q none {s with heap:=h'}):wpAny (model prog w) A (pyNext<|.ref it) Q E s:=by
 obtain⟨o,ho,hc,hd⟩:=id hit;refine a9 (uF (kR hit.typeIs mV
  (iX mV hit.typeIs aB0 ?_<|a79 _)))
 refine a9 (k7 rfl ?_)
 refine a9 (dI ho hd rfl ?_)
 refine a9 (dI ho hd rfl ?_)
 refine a9 (qB ?_)
 refine a9 ?_
 refine a9 (uE ho hd ae ?_)
 refine uE (pK _ ho<|aO4<|pQ hd _) (pQ hd _) ae ?_
 first
 | show wpAny _ _ (newExc (.type "StopIteration") [] >>= _) _ _ _
 | (refine a9 ?_;show wpAny _ _ (newExc (.type "StopIteration") [] >>= _) _ _ _)
 refine a9 ?_
 refine a9 (m:=firstArgMember _ _) (k7 (by first|rfl| (simp only[firstArgMember];rfl)) ?_)
 refine jX ?_ (by size_fits)
 refine a9 (wpAny_handled ?_)
 first|rw[show A.in1.handled=none from hh]|rw[hh]
 refine a9 (aP<|wpAny_throw ?_)
 refine a9 (wpAny_isInstance ⟨_,cD _ rfl,rfl⟩ isSubtype_stop ?_)
 refine aP (hQ _ ?_)
 exact((((u4 ..).trans<|u4 ..).extBut.push _).push _)
end
nonrec def Itv (K:Frag)(l:Addr)(n:Nat):It where
 go:=λi H=>i<n/\ ∃xs,SqT K H l xs/\xs.length=n
 yld:=λi H v H'=>H'=H/\ ∀xs,SqT K H l xs->xs[n-1-i]? =some v
 stop:=λi H=>i=n
theorem dD4 (n:Nat)(hz:n<=sizeLine):cA6 P w K tg (Itv K l n) [it] it (λi h=>uR h it l ((n:Int)-1-(i:Int))) where
 mem:=ae
 obj:=λi h st b hb=>by
  have e:b=it:=by exists hb
  subst e;obtain⟨o,ho,_,hd⟩:=st;exact⟨o,ho,λv z=>by rw[hd]at z;cases z⟩
 keep:=λi h h' st k=>st.at λo e=>k it ae _ e
 item:=by
  intro X hP hw hK hc i pins s σ H E I hf st hg;subst hP hw hK;obtain⟨f0,f1,f2,f3,f4,f5⟩:=hf it ae
  obtain⟨hi,xs,hq,hl⟩:=hg;obtain⟨its,r,p,_⟩:=I.tuple hq;have hx:xs[n-1-i]? =some (xs[n-1-i]'ad):=aS ad
  obtain⟨u1,hu1,ru1⟩:=r.get hx;have e1:(n:Int)-1-(i:Int)=((n-1-i:Nat):Int):=ad
  have st':=st;rw[e1]at st';have big:(sizeLine:Int)<2^63:=ac
  refine dD3 (items:=its.toArray) st' p (by exists hu1) ad λh' tk hr m=> ?_
  have I1:Inv X pins σ H {s with heap:=h',toks:=tk}:=I.turned (λb o hb e=>m.extBut _ _ (by exists hb) e) f0 f1 f3 f4 f5
  have e2:((n-1-i:Nat):Int)-1=(n:Int)-1-((i+1:Nat):Int):=ad
  rw[e2]at hr;obtain⟨o,ho,hoc,hod⟩:=id hr;exact⟨_,rfl,cA7 ho hoc hod ac ⟨xs[n-1-i]'ad,H,I1,ru1,⟨rfl,λys hy=>by rw[I.tuple_inj hy hq];exact hx⟩,hr,λb hb=>(hf b hb).1⟩⟩
 done:=by
  intro X hP hw hK hc i pins s σ H E I hf st hg;obtain⟨f0,f1,f2,f3,f4,f5⟩:=hf it ae
  have hg':i=n:=hg;have st':=st;rw[hg',show(n:Int)-1-(n:Int)= -1 by lia]at st'
  exact dT5 (I.ok.hd hc) st' λh' eb=>⟨rfl,I.turned (λb o hb e=>eb b o hb e) f0 f1 f3 f4 f5⟩
 self:=λ_ _ _ _ _ st h=>bG7 st h
section
variable {X:Cx}{tg:Expr}
def iRevT (K:Frag)(ta:TA):TI:=λσ H R=>ta σ H λvs H1=> ∃l xs,vs=[.ref l]/\SqT K H1 l xs/\R (Itv K l xs.length) H1
theorem dT6 {a:Expr}{ta:TA}(hg:Gl X "reversed")(hm:X.mg "reversed"=none)(ha:PA X [a] ta)(hs:↥(starEach [a] X.env=[(false,eval a X.env)])) :
  PI X tg (.Call (.Name "reversed" p) [a] [] pos) (iRevT X.K ta):=by
 intro pins s σ H R I h;refine Call_ (uM I hg hm PyProof.Rows.boot_reversed<|jV (thn (ha pos pins s σ H _ I h) λus s1 ⟨vs,H1,I1,r1,q1⟩=> ?_) hs rfl)
 obtain⟨l,xs,e,q1,q⟩:=q1;subst e;obtain⟨u,rfl,r⟩:=vals1 r1;cases r;obtain⟨its,rv,p1,hz⟩:=I1.tuple q1;have hl:=rv.length;have big:(sizeLine:Int)<2^63:=ac
 refine dD2 p1 (by rw[bD];lia) ?_
 have hi:uR (s1.heap.push {cls:= .type "reversed",data:= .fields #[.ref l,rawInt<|(its.toArray.size:Int)-1]}) s1.heap.objs.size l ((xs.length:Int)-1-((0:Nat):Int)):=⟨_,cD _ rfl,rfl,by
  rw[hl];simp⟩
 refine bG7 hi ?_
 refine⟨_,[s1.heap.objs.size],_,_,H1,rfl,I1.kept λb o e=>aV _ e,dD4 xs.length hz,hi,λb hb=> ?_,q⟩
 have e:b=s1.heap.objs.size:=by exists hb
 subst e;exact I1.fpOk (aK _) (I1.hok.fresh<|aK _)
end
end L2
namespace M
section
variable {X:Cx}{A:AS}{H:Hp}{K:Frag}{pos:Pos}{a:Expr}
theorem d28 {vs:List V}{l:List D}(c1:SqA K A H true l1 vs)(r1:bX K A H l vs):cC1 K A H (Itv K l1 vs.length) l.length (λi=>l.getD (l.length-1-i) .non):=by
 have k1:=r1.length;refine⟨λA' H' i P hi=>⟨aa,vs,c1.sqv P,rfl⟩,λA' H' i x H'' P hA hi y=> ?_,λA' H' P=>k1⟩
 obtain⟨x1,e1,q1⟩:=r1.at (i:=l.length-1-i) aa
 obtain⟨e,ha⟩:=y;subst e;have ea:=ha vs (c1.sqv P);rw[<-k1,e1]at ea;cases ea;exact⟨.refl _,q1.mono P⟩
def cW5 (ta:UA):UI:=λρ Q=>ta ρ λds ρ1=>match ds with
 | [.tup l]=>Q l.length (λi=>l.getD (l.length-1-i) .non) ρ1
 | _=>False
theorem cW6 {ta:UA}(hg:Gl X "reversed")(hm:X.mg "reversed"=none)(ha:PUA X [a] ta)(hs:↥(starEach [a] X.env=[(false,eval a X.env)])) :
  PUI X tg (.Call (.Name "reversed" p) [a] [] pos) (cW5 ta):=
 b78 (dT6 hg hm ha hs) λσ H R ⟨C,ρ,Q0,I,h,k⟩=>⟨C,ρ,_,I,h,λds ρ1 vs H1 q f s r=>by
  split at q
  .rename_i l
   obtain⟨v,vr,rfl,rv,rr⟩:=r.uncons;have:=rr.unnil;subst this;obtain⟨a1,us,rfl,c1,s1⟩:=rv;have c2:SqA _ _ _ true a1 us:=c1;exact⟨a1,us,rfl,c2.sqv .self,k _ _ ρ1 _ H1 q f s<|d28 c2 s1⟩
  .exact q.elim⟩
def cW7 (d e:D)(Q:B->Prop):Prop:=match d,e with
 | .tup l,.int k=>(l≠[]/\ -(2^63)<=k/\k<2^63/\l.length*k.toNat<=sizeLine)/\Q (.pu<|.tup (replicate k.toNat l).flatten)
 | _,_=>False
theorem dT7:OpU X (binaryOp .Mult) cW7:=by
 intro A H d e v w Q0 Q hA r1 r2 g k;unfold cW7 at g;split at g
 .rename_i l kk
  have:=bL r2;subst this;obtain⟨a,vs,rfl,c1,rs1⟩:=r1;obtain⟨⟨h0,h1,h2,h3⟩,g⟩:=g;refine⟨_,dT3,a,kk,vs,rfl,rfl,c1.imp cT id,λz=>h0 ?_,h1,h2,by rw[<-rs1.length];exact h3,λz=> ?_,λz p n=>k _ _ _ g (eS n _) (iR hA n<|rs1.rep _)⟩
  .have:=rs1.length;rw[z]at this;exact tX.mp this
  .subst z;refine k _ _ H g (.refl _) ?_;exact⟨a,vs,rfl,c1,by exists rs1⟩
 .exact g.elim
end
section
variable {X:Cx}
theorem bG8 {K:Frag}{A:AS}{H:Hp}: ∀r:List Int,bX K A H (r.map D.int) (r.map V.int)
 | []=> .nil
 | a::r=> .cons (by simp only[Rep]) (bG8 r)
theorem dT8 {r:List Int}(hg:Gl X x)(hm:X.mg x=some (.ref a))(hk:KT X.K a (r.map V.int))(hd:⇑(x∪0)):PU X (.Name x p) (uC<|.tup<|r.map .int):=
 c18 (cV0 (v:= .ref a) hg hm rfl hd) λA H=>by
  simp only[Rep];exact⟨a,r.map V.int,rfl,.inr hk,bG8 r⟩
theorem kt_of {its:Array Value}{sl:Array (Option Value)}{vs:List V}(hl:K.lookup a=some ⟨.type "tuple",od,.seq its n,sl⟩)(hz:its.size<=sizeLine)(hv:Vals vs its.toList):KT K a vs:=
 ⟨_,its,n,hl,rfl,rfl,hz,hv⟩
end
end M
end
section
namespace L2
section
variable {X:Cx}
theorem cO9 (hc:X.calm=true):oE X (.builtin "any") (λxs H Q=> ∃(p:Addr) (bs:List Bool),xs=[.ref p]/\SqL X.K H p (bs.map V.bl)/\Q (.bl<|bs.any id) H):=by
 intro pins s σ H xs us Q I r h;obtain⟨p,bs,rfl,hq,q⟩:=h;obtain⟨u,rfl,rx⟩:=vals1 r;cases rx;obtain⟨its,rv,pl,hz⟩:=I.list hq;have ba:=cW1 rv;refine call_any_walk (zU pl.isList ?_);have hne:p≠s.heap.objs.size:=by
  obtain⟨o,n,e,_⟩:=pl;exact bM (aW e)
 refine⟨s.heap.objs.size,_,_,_,_,_,λi=>(bs[i]?).getD false,rfl,Walks.list (A:=X.A.in1) (I.ok.hd hc) s.heap.objs.size p (λz=>hne z) its.toArray,⟨⟨_,cD _ rfl,rfl,rfl⟩,pl.isList.push _⟩,?_,λh' tk hk=> ?_⟩
 .intro i v s' Q' E' hP hQ;obtain⟨b,hb,rfl⟩:=ba.get i v (by exists hP)
  refine kU ?_
  dsimp only at hQ;rw[hb]at hQ;exact hQ
 .have e:=LSm.range_any bs;have hl:=ba.length;have e2:its.toArray.size=bs.length:=by rw[bD,hl]
  rw[e2,e];exact⟨.bl<|bs.any id,H,I.kept λb o e=>hk b o (by simpa using bM (aW e)) (aV _ e),rfl,q⟩
end
end L2
namespace M
section
variable {X:Cx}
nonrec def dD5:List D->(B->Prop)->Prop:=g1 λd Q=>match d with
 | .lst l=>(match wO l with
  | some bs=>Q (.pu<|.bl<|bs.any id)
  | none=>False)
 | _=>False
theorem cP0 (hc:X.calm=true):uN X (.builtin "any") dD5:=by
 intro A H ds vs Q0 Q hA r g k;obtain⟨d,v,rfl,rfl,rv,g⟩:=a16 g r;cases d with
 | lst l=>
  dsimp only at g;cases e:wO l with
  | none=>rw[e]at g;exact g.elim
  | some bs=>
   rw[e]at g;simp only[Rep]at rv;obtain⟨a,vs,rfl,n,c,rs⟩:=rv;rw[aR6 e rs]at c;exact⟨_,cO9 hc,a,bs,rfl,SqL.of c,k _ _ H g (.refl _) l9⟩
 | _=>exact(show False from g).elim
theorem bG9:bootBuiltins "any"=some (.builtin "any"):=af
end
end M
end
section
namespace L2
end L2
namespace M
section
variable {X:Cx}{a:Expr}{pos:Pos}{ta:UE}
nonrec def D.isN:D->Bool
 | .non=>true
 | _=>false
theorem cW8 {K:Frag}{A:AS}{H:Hp}: ∀{d:D} {v:V},Rep K A H d v->decide (v= .non)=d.isN
 | .non,v,h=>by simp only[Rep]at h;subst h;rfl
 | .bl _,v,h=>by simp only[Rep]at h;subst h;rfl
 | .int _,v,h=>by simp only[Rep]at h;subst h;rfl
 | .str _,v,h=>by simp only[Rep]at h;subst h;rfl
 | .ty _,v,h=>by simp only[Rep]at h;subst h;rfl
 | .tup _,v,h=>by simp only[Rep]at h;obtain⟨a,vs,rfl,_⟩:=h;rfl
 | .lst _,v,h=>by simp only[Rep]at h;obtain⟨a,vs,rfl,_⟩:=h;rfl
 | .rol _,v,h=>by simp only[Rep]at h;obtain⟨a,vs,rfl,_⟩:=h;rfl
 | .obj _ _ _,v,h=>by simp only[Rep]at h;obtain⟨a,dx,vs,rfl,_⟩:=h;rfl
 | .adr _,v,h=>by simp only[Rep]at h;subst h;rfl
 | .xob _ _ _ _,v,h=>by simp only[Rep]at h;obtain⟨vs,rfl,_⟩:=h;rfl
def bQ4 (neg:Bool)(t:UE):UE:=λρ Q=>t ρ λb ρ1=>Q (.pu<|.bl<|neg ^^ b.d.isN) ρ1
theorem lIsN (σ:L2.St)(H:Hp)(Q:VK)(h:lE X.K (bQ4 false ta) σ H Q):tIsN (lE X.K ta) σ H Q:=by
 obtain⟨C,ρ,Q0,I,h,k⟩:=h;refine⟨C,ρ,_,I,h,λb ρ' v H' q f s r=> ?_⟩
 have e:=cW8 (r.rep λa z=>I.avF f z)
 refine k _ ρ' _ H' q f s ?_
 show Rep _ _ _ _ _
 simp only[Rep,l4];rw[e]
theorem lNotN (σ:L2.St)(H:Hp)(Q:VK)(h:lE X.K (bQ4 true ta) σ H Q):e12 (lE X.K ta) σ H Q:=by
 obtain⟨C,ρ,Q0,I,h,k⟩:=h;refine⟨C,ρ,_,I,h,λb ρ' v H' q f s r=> ?_⟩
 have e:=cW8 (r.rep λa z=>I.avF f z)
 refine k _ ρ' _ H' q f s ?_
 show Rep _ _ _ _ _
 simp only[Rep,pW];rw[e]
theorem c30 {j pos'}(ha:PU X a ta):PUT X (.Compare a [.Is] [.Constant .none j pos'] pos) (cU<|bQ4 false ta):=cB4 (d75<|pc_isN ha) λσ H Q h=>lIsN σ H _ (dR3 σ H Q h)
theorem cD2 {j pos'}(ha:PU X a ta):PUT X (.Compare a [.IsNot] [.Constant .none j pos'] pos) (cU<|bQ4 true ta):=cB4 (d75<|dP4 ha) λσ H Q h=>lNotN σ H _ (dR3 σ H Q h)
end
mutual
noncomputable def D.nl:D->Bool
 | .tup l=>D.nls l
 | .lst _=>false
 | .rol _=>false
 | .obj _ _ _=>false
 | .adr _=>false
 | .xob _ _ _ _=>false
 | .non=>true
 | .bl _=>true
 | .int _=>true
 | .str _=>true
 | .ty _=>true
noncomputable def D.nls:List D->Bool
 | []=>true
 | d::l=>d.nl&&D.nls l
end
section
variable {K:Frag}{A A':AS}{H H':Hp}
mutual
theorem Rep.nl (p: ∀a vs,¬A a->Rd H a (.tup vs)-> ¬A' a/\Rd H' a (.tup vs)): ∀{d:D} {v:V},d.nl=true->Rep K A H d v->Rep K A' H' d v
 | .non,_,_,h=>h
 | .bl _,_,_,h=>h
 | .int _,_,_,h=>h
 | .str _,_,_,h=>h
 | .ty _,_,_,h=>h
 | .tup l,v,q,h=>by
  simp only[Rep]at h⊢;obtain⟨a,vs,e,c,r⟩:=h;simp only[D.nl]at q;refine⟨a,vs,e,?_,bX.nl p q r⟩;rcases c with⟨n,c⟩|c
  .exact .inl (p a vs n c)
  .exact .inr c
 | .lst _,_,q,_=>by simp only[D.nl]at q;cases q
 | .rol _,_,q,_=>by simp only[D.nl]at q;cases q
 | .obj _ _ _,_,q,_=>by simp only[D.nl]at q;cases q
 | .adr _,_,q,_=>by simp only[D.nl]at q;cases q
 | .xob _ _ _ _,_,q,_=>by simp only[D.nl]at q;cases q
theorem bX.nl (p: ∀a vs,¬A a->Rd H a (.tup vs)-> ¬A' a/\Rd H' a (.tup vs)): ∀{l:List D} {vs:List V},D.nls l=true->bX K A H l vs->bX K A' H' l vs
 | [],_,_,h=>by simp only[bX]at h ⊢; exact h
 | d::ds,vs,q,h=>by
  simp only[bX]at h⊢;simp only[D.nls,cQ]at q;obtain⟨v,vr,e,r,rs⟩:=h;exact⟨v,vr,e,Rep.nl p q.1 r,bX.nl p q.2 rs⟩
end
end
nonrec def ltL:List Int->List Int->Bool
 | [],[]=>false
 | [],_::_=>true
 | _::_,[]=>false
 | a::x,b::y=>if a=b then ltL x y else decide (a<b)
section
variable {prog:Program}{w:World}{A:Around}{E:Value->Shared->Prop}{s:Shared}
theorem dD6 {lt:Bool}{P:PySem.Fin->Shared->Prop}(ho:s.heap.get? a=some (seqObj "list" [u,v].toArray n))
  (hy: ∀h':Heap,(∀b o,b≠a->s.heap.get? b=some o->h'.get? b=some o)-> ∃κ:SortKind,
   (∀Q:SortKind->Shared->Prop,Q κ {s with heap:=h'}->wpAny (model prog w) A (keyKind' [u,v].toArray) Q (λ_ _=>False) {s with heap:=h'})/\
   (∀Q:Bool->Shared->Prop,Q lt {s with heap:=h'}->wpAny (model prog w) A (keyLt' κ v u) Q (λ_ _=>False) {s with heap:=h'}))
  (fi:P (.done<|.ret .none) {s with heap:=sortedHeap s.heap a [u,v] (if lt=true then [v,u].toArray else [u,v].toArray)}) :
  wpAny (model prog w) A (Builtin.«list.sort» ⟨[.ref a],[]⟩) P E s:=by
 rw[list_sort_plain];have la:a<s.heap.objs.size:=aW ho;refine a9 (listItems_at ho rfl ?_);refine a9 (listUpdate_at ho rfl ?_ (show 2<=sizeLine by decide) (eH _))
 obtain⟨c1,h1⟩: ∃c1,(s.heap.update a<|Obj.mapSeq λ_=> #[]).get? a=some (seqObj "list" #[] c1):=⟨_,get?_update_seq ho λ_=> #[]⟩
 refine a9 (seqEpoch_at h1 rfl ?_)
 refine a9 (wpAny_newTuple ?_<|show 2<=sizeLine by decide)
 refine a9 (wpAny_newList ?_<|eH _)
 refine iZ ?_
 have h6:(((s.heap.update a<|Obj.mapSeq λ_=> #[]).push<|seqObj "tuple" [u,v].toArray 0).push<|seqObj "list" #[] 0).get? a=some (seqObj "list" #[] c1):=by
  rw[pS _ _ _ (by rw[size_push',uA];exact bM (kW la))]
  rw[pS _ _ _ (by rw[uA];exact bM la)]
  exact h1
 have kp: ∀b o,b≠a->s.heap.get? b=some o->(((s.heap.update a<|Obj.mapSeq λ_=> #[]).push<|seqObj "tuple" [u,v].toArray 0).push<|seqObj "list" #[] 0).get? b=some o:=λb o ne q=>by
  have lb:b<s.heap.objs.size:=aW q;rw[pS _ _ _ (by rw[size_push',uA];exact bM (kW lb))]
  rw[pS _ _ _ (by rw[uA];exact bM lb),zR _ _ _ _ ne]
  exact q
 obtain⟨κ,y1,y2⟩:=hy _ kp;right;refine a9 (bW (y1 (λk s'=>k=κ/\s'={s with heap:=((s.heap.update a<|Obj.mapSeq λ_=> #[]).push<|seqObj "tuple" [u,v].toArray 0).push (seqObj "list" #[] 0)}) ⟨rfl,rfl⟩) ?_ λ_ _ z=>z.elim)
 rintro k s' ⟨rfl,rfl⟩;refine a9 (bW (PySem.W.kat_run (Q:=λst' s'=>s'={s with heap:=((s.heap.update a<|Obj.mapSeq λ_=> #[]).push<|seqObj "tuple" [u,v].toArray 0).push (seqObj "list" #[] 0)}/\failedOf st'=none/\(arrOf st').map (·.2)=(if lt=true then [v,u].toArray else [u,v].toArray))
  (G:=λp s'=>s'={s with heap:=((s.heap.update a<|Obj.mapSeq λ_=> #[]).push<|seqObj "tuple" [u,v].toArray 0).push (seqObj "list" #[] 0)}/\p=(if lt=true then #[1,0]else #[0,1]))
  rfl (show 2<=2 by decide) (show 2<64 by decide) (λp st' s' _ e2 e3 ⟨e4,e5⟩=>⟨e4,e3,?_⟩) ?_) ?_ λ_ _ z=>z)
 .rw[PySem.W.kat_snds rfl e2,e5];cases lt<;>rfl
 .show wpAny (model prog w) A (keyLt' k v u) _ (λ_ _=>False) _
  refine y2 _ ?_
  cases lt
  .exact⟨rfl,rfl⟩
  .refine⟨rfl,?_⟩
   dsimp only[List.length_cons]
   decide +kernel
 .rintro⟨⟨⟩,st'⟩ s' ⟨rfl,e3,e4⟩;rw[e4];refine a9 (seqEpoch_at h6 rfl ?_);refine a9 (listUpdate_at h6 rfl ?_ (eH _) (by cases lt<;>exact(show 2<=sizeLine+1 by decide)))
  rw[e3];simp only[bne_self_eq_false,fZ];exact aP fi
theorem cP1 {lt:Bool}(hl:s.heap.IsList l [u,v].toArray)
  (hy: ∀(h':Heap) (A:Around),(∀b o,s.heap.get? b=some o->h'.get? b=some o)-> ∃κ:SortKind,
   (∀Q:SortKind->Shared->Prop,Q κ {s with heap:=h'}->wpAny (model prog w) A (keyKind' [u,v].toArray) Q (λ_ _=>False) {s with heap:=h'})/\
   (∀Q:Bool->Shared->Prop,Q lt {s with heap:=h'}->wpAny (model prog w) A (keyLt' κ v u) Q (λ_ _=>False) {s with heap:=h'}))
  (fi:Q (.ref<|s.heap.objs.size+1) {s with heap:=sortedAll s.heap [u,v] (if lt=true then [v,u].toArray else [u,v].toArray)}) :
  wpAny (model prog w) A (call (.builtin "sorted") [.ref l]) Q E s:=by
 refine Calls.call_function_entry kind_sorted plain_sorted entry_sorted (args_sorted1 _) ?_
 refine a9 (aP ?_)
 refine a9 (collect_list hl ?_<|show 2<=sizeLine by decide)
 refine a9 (wpAny_newList ?_<|show 2<=sizeLine by decide)
 have hz:((s.heap.push<|seqObj "list" #[] 0).update s.heap.objs.size (Obj.mapSeq (· ++[u,v].toArray))).objs.size=s.heap.objs.size+1:=by rw[uA,size_push']
 have hL:(((s.heap.push<|seqObj "list" #[] 0).update s.heap.objs.size (Obj.mapSeq (· ++[u,v].toArray))).push<|seqObj "list" [u,v].toArray 0).get? (s.heap.objs.size+1)=some (seqObj "list" [u,v].toArray 0):=by
  rw[<-hz];exact cD _ rfl
 have kp: ∀b o,s.heap.get? b=some o->(((s.heap.push<|seqObj "list" #[] 0).update s.heap.objs.size (Obj.mapSeq (· ++[u,v].toArray))).push<|seqObj "list" [u,v].toArray 0).get? b=some o:=λb o q=>by
  have lb:b<s.heap.objs.size:=aW q;rw[pS _ _ _ (by rw[hz];exact bM (kW lb))]
  rw[zR _ _ _ _<|bM lb,pS _ _ _<|bM lb];exact q
 rw[hz];refine a9 (iZ<|iX slot_list_sort ⟨_,hL,rfl⟩ entry_list_sort (dD6 (lt:=lt) hL (λh' k=> ?_) ⟨_,rfl,?_⟩)<|args_list_sort _)
 .exact hy h' _ λb o q=>k b o (bM<|kW<|aW q) (kp b o q)
 .exact aP ⟨_,rfl,fi⟩
theorem cD3 {Q:Bool->Shared->Prop}{fin:Bool}: ∀(us ws:List Int) (x y:List Value) (i:Nat),Vals (us.map V.int) x->Vals (ws.map V.int) y->fin=decide (us.length<ws.length)->Q (ltL us ws) s->PySem.W.KatLex prog w A true fin Q (x.zip y) i s
 | [],[],x,y,i,hx,hy,hf,q=>by
  cases hx;cases hy;rw[hf];exact q
 | [],b::ws,x,y,i,hx,hy,hf,q=>by
  cases hx;rw[hf];exact q
 | a::us,[],x,y,i,hx,hy,hf,q=>by
  cases hx;cases hy;rw[hf];exact q
 | a::us,b::ws,x,y,i,hx,hy,hf,q=>by
  cases hx with
  | cons r1 hx=>
   cases hy with
   | cons r2 hy=>
    obtain⟨t1,rfl⟩:=r1;obtain⟨t2,rfl⟩:=r2;refine PySem.W.kat_cons (wpAny_eqBool_int ?_)
    by_cases c:a=b
    .subst c;rw[aQ6];refine PySem.W.kat_yes (cD3 us ws _ _ (i+1) hx hy (by rw[hf];simp) ?_)
     unfold ltL at q;rw[aA rfl]at q;exact q
    .rw[show(a==b)=false by simpa using c]
     refine PySem.W.kat_no ?_
     unfold ltL at q;rw[a7 c]at q;cases e:(true&&i==0)
     .exact PySem.W.kat_one _ _ (lt_int q)
     .exact oneLt_int q
end
section
variable {X:Cx}
theorem cP2:oE X (.builtin "sorted") (λxs H Q=> ∃(p a1 a2:Addr) (i j:Int) (us ws:List Int),xs=[.ref p]/\SqL X.K H p [.ref a1,.ref a2]/\SqT X.K H a1 ((i::us).map V.int)/\SqT X.K H a2 ((j::ws).map V.int)/\
  ∀l,H l=none->Q (.ref l) (upd H l<|.lst<|if ltL (j::ws) (i::us)=true then [.ref a2,.ref a1]else [.ref a1,.ref a2])):=by
 intro pins s σ H xs us' Q I r h;obtain⟨p,a1,a2,i,j,us,ws,rfl,hq,t1,t2,q⟩:=h;obtain⟨u,rfl,rx⟩:=vals1 r;cases rx;obtain⟨its,rv,pl,hz⟩:=I.list hq;obtain⟨x1,r1,k1,z1⟩:=I.tuple t1;obtain⟨x2,r2,k2,z2⟩:=I.tuple t2;cases rv with
 | cons g1 rv=>
 cases rv with
 | cons g2 rv=>
 cases rv;cases g1;cases g2;refine cP1 (lt:=ltL (j::ws) (i::us)) pl.isList (λh' A kp=> ?_) ?_
 .obtain⟨o1,ho1,hc1,n1,hd1⟩:=k1;obtain⟨o2,ho2,hc2,n2,hd2⟩:=k2;cases r1 with
  | cons f1 r1=>
  cases r2 with
  | cons f2 r2=>
  have v1:Vals ((i::us).map V.int) _:= .cons f1 r1;have v2:Vals ((j::ws).map V.int) _:= .cons f2 r2;obtain⟨t1,rfl⟩:=f1;obtain⟨t2,rfl⟩:=f2;refine⟨tuples'<|Value.type "int" != Value.type "tuple",λQ' q'=> ?_,λQ' q'=> ?_⟩
  .refine PySem.W.kat_kind (.cons (kp _ _ ho1) hc1 hd1 rfl (.cons (kp _ _ ho2) hc2 hd2 rfl .nil)) (bQ _) (λv hv=> ?_) ac q'
   rcases bB.mp hv with rfl|hv
   .exact .now
   .rw[fE.mp hv];exact .now
  .have e:(Value.type "int" != Value.type "tuple")=true:=ac
   refine PySem.W.kat_lt (kp _ _ ho2) hd2 (kp _ _ ho1) hd1 (cD3 _ _ _ _ 0 (by exists v2) (by exists v1) ?_ q')
   have l1:=v1.length;have l2:=v2.length;simp only[aG]at l1 l2;simp only[bD];rw[<-l1,<-l2]
 .refine⟨.ref<|s.heap.objs.size+1,_,?_,rfl,q (s.heap.objs.size+1)<|I.hok.fresh<|qA _⟩
  obtain⟨c,hc⟩:=sortedAll_at s.heap [Value.ref a1,Value.ref a2] (if ltL (j::ws) (i::us)=true then [Value.ref a2,Value.ref a1].toArray else [Value.ref a1,Value.ref a2].toArray);refine I.laid (λb o e=>sortedAll_old e) (qA _) ?_
  by_cases e:ltL (j::ws) (i::us)=true
  .rw[aA e]at hc⊢;exact⟨show 2<=sizeLine by decide,[.ref a2,.ref a1],c,.cons rfl (.cons rfl .nil),by rw[aA e];exact hc⟩
  .rw[a7 e]at hc⊢;exact⟨show 2<=sizeLine by decide,[.ref a1,.ref a2],c,.cons rfl (.cons rfl .nil),by rw[a7 e];exact hc⟩
nonrec def cP3:List D->(B->Prop)->Prop:=g1 λd Q=> ∃(i j:Int) (us ws:List Int),d= .lst [.tup<|(i::us).map D.int,.tup<|(j::ws).map D.int]/\
 Q (.ow<|if ltL (j::ws) (i::us)=true then [.tup<|(j::ws).map D.int,.tup<|(i::us).map D.int]else [.tup<|(i::us).map D.int,.tup<|(j::ws).map D.int])
theorem dD7:uN X (.builtin "sorted") cP3:=by
 intro A H ds vs Q0 Q hA r g k;obtain⟨d,v,rfl,rfl,rv,i,j,us,ws,rfl,g'⟩:=a16 g r;obtain⟨p,xs,rfl,np,hp,rl⟩:=rv;obtain⟨y1,yr,rfl,s1,rl⟩:=rl.uncons;obtain⟨y2,yr,rfl,s2,rl⟩:=rl.uncons;have:=rl.unnil;subst this;have s1':=s1;have s2':=s2;obtain⟨a1,w1,rfl,c1,q1⟩:=s1;obtain⟨a2,w2,rfl,c2,q2⟩:=s2;have e1:=bX.unints q1;have e2:=bX.unints q2;subst e1 e2
 refine⟨_,cP2,p,a1,a2,i,j,us,ws,rfl,.inl<|.inl hp,c1.imp cT id,c2.imp cT id,λl hl=>k _ _ _ g' (eS hl _) ?_⟩
 cases ltL (j::ws) (i::us)
 .exact hX (.refl _) hl (.cons s1'<|.cons s2' .nil)
 .exact hX (.refl _) hl (.cons s2'<|.cons s1' .nil)
end
end M
end
section
namespace L2
end L2
namespace M
end M
end
section
namespace L2
end L2
namespace M
end M
end
section
namespace L2
end L2
namespace M
section
variable {X:Cx}{e:Expr}{es:List Expr}{pos:Pos}{te:UE}
theorem ilB (h:Nat.ble (i+1) X.N.length=true): ∀pins σ H s,Inv X pins σ H s->i<σ.length:=il rfl (Nat.le_of_ble_eq_true h)
theorem aJ (i:Nat){pos:Pos}(h:PE X (.Name x pos) (yK i):=by exact pv _):PU X (.Name x pos) (aC i):=eR i h
theorem bG (i:Nat){pos:Pos}(h:PE X (.Name x pos) (yK i):=by exact pv _):PUV X (.Name x pos) (aT i):=mK i h
theorem qH (i:Nat)(hN:X.N.Nodup)(he:PU X e te)(hi:↥(X.N[i]? =some x))(hx:Loc X.env.scope x:=by walk_at "z")(hs:↥(swapsWith e (some<|.Name x pos') pos.line X.env=pure false))(hf:X.fn x=true\/X.env.scope.names.lookup x=some .local:=by walk_at "z")
  (hl: ∀pins σ H s,Inv X pins σ H s->i<σ.length:=by exact ilB rfl):PUS X (.Assign [.Name x pos'] e pos) (bJ i te):=sC i hN hi hx he hs hf hl
theorem us_g {op:Operator}{g:D->D->(B->Prop)->Prop}(i:Nat)(hN:X.N.Nodup)(he:PU X e te)(ho:IpU X op g)(hi:↥(X.N[i]? =some x))(hx:Loc X.env.scope x:=by walk_at "z")(hf:X.fn x=true\/X.env.scope.names.lookup x=some .local:=by walk_at "z")
  (hl: ∀pins σ H s,Inv X pins σ H s->i<σ.length:=by exact ilB rfl):PUS X (.AugAssign (.Name x pos') op e pos) (cC0 i g te):=dA2 i hN hi hx he ho hf hl
theorem bO {a b:Expr}{ti:UE}{t:UV}(ha:PUV X a t)(hb:PU X b ti)(hs:a15 b:=by exact λ_ _=>rfl):PU X (.Subscript a b pos) (uIx t ti):=a77 ha hb hs
theorem d4 {ps:List Str}{t:UA}(F:Fn X.prog X.w X.K X.mg X.base x ps k φ)(hr:i8 k' X.A)(ha:PUA X (e::es) t)(hk:⇑(k<=k'))(hg:↥(Gl X x))(hdb:⇑(x∪0))
  (he:↥(starEach (e::es) X.env=(false,eval e X.env)::starEach es X.env)) (hpl:↥((backTo pos<|starEach es X.env).any (·.1)=false)):PU X (.Call (.Name x p) (e::es) [] pos) (aR φ t):=aK4 F hr hk hg ha hdb he hpl
end
section
variable {X:Cx}{es:List Expr}{t:UA}
theorem bY {i:Int}{j}(h:PUA X es t):PUA X (.Constant (.int i) j p::es) (a8 (uC<|.int i) t):=aE aD h rfl
theorem sR {fs:List Expr}{j}{ta:UE}(a:PU X (.Tuple fs j p) ta)(h:PUA X es t):PUA X (.Tuple fs j p::es) (a8 ta t):=aE a h rfl
theorem sS {o:UnaryOp}{ta:UE}(a:PU X (.UnaryOp o e p) ta)(h:PUA X es t):PUA X (.UnaryOp o e p::es) (a8 ta t):=aE a h rfl
theorem aQ (i:Nat)(h:PUA X es t)(a:PE X (.Name x p) (yK i):=by exact pv _):PUA X (.Name x p::es) (a8 (aC i) t):=aE (eR i a) h rfl
structure WA (X:Cx)(es:List Expr)(t:UA):Prop where
 out:PUA X es t
theorem oJ:WA X [] aL:=⟨aB⟩
theorem gZ {i:Int}{j}(h:WA X es t):WA X (.Constant (.int i) j p::es) (a8 (uC<|.int i) t):=⟨bY h.out⟩
theorem d29 {i:Int}{j}{q:Pos}(h:WA X es t):WA X (.UnaryOp .USub (.Constant (.int i) j p) q::es) (a8 (mM<|uC<|.int i) t):=⟨sS (gX aD) h.out⟩
theorem cP4 {fs:List Expr}{j}{tf:UA}(a:WA X fs tf)(h:WA X es t):WA X (.Tuple fs j p::es) (a8 (jG tf) t):=⟨sR (fM a.out) h.out⟩
structure WS (X:Cx)(sts:List Stmt)(t:US):Prop where
 out:qE X sts t
theorem dD8 {u:US}(h:qE X sts u):WS X sts u:=⟨h⟩
theorem ws_lw {u:US}(h:WA X es t)(r:WS X sts u)(hN:X.N.Nodup)(hi:↥(X.N[i]? =some x))(hx:Loc X.env.scope x:=by walk_at "z")(hf:X.fn x=true\/X.env.scope.names.lookup x=some .local:=by walk_at "z")
  (hl: ∀pins σ H s,Inv X pins σ H s->i<σ.length:=by exact ilB rfl):WS X (.Assign [.Name x pos'] (.List es p) pos::sts) (aU (bJ i<|fL t) u):=⟨bH (sC i hN hi hx (cH h.out) rfl hf hl) r.out⟩
theorem ws_lx {q:Pos}{ti:UE}{u:US}(h:WA X es t)(a:PU X ix ti)(r:WS X sts u)(hN:X.N.Nodup)(hs:a15 ix:=by exact λ_ _=>rfl)(hi:↥(X.N[i]? =some x))(hx:Loc X.env.scope x:=by walk_at "z")(hf:X.fn x=true\/X.env.scope.names.lookup x=some .local:=by walk_at "z")
  (hl: ∀pins σ H s,Inv X pins σ H s->i<σ.length:=by exact ilB rfl):WS X (.Assign [.Name x pos'] (.Subscript (.List es p) ix q) pos::sts) (aU (bJ i<|uIx (uV<|fL t) ti) u):=⟨bH (sC i hN hi hx (a77 (gM<|cH h.out) a hs) rfl hf hl) r.out⟩
end
abbrev GL:=List (Addr×List Int)
def GL.has (g:GL)(x:Addr):Prop:= ∃l,(x,l)∈g
def inH (H0:Hp)(g:GL)(x:Addr)(o:HO):Prop:=(∃l,(x,l)∈g/\o= .lst (l.map V.int))\/(¬g.has x/\H0 x=some o)
open Classical in
nonrec def cP5 (H0:Hp) (g:GL):Hp:=λx=>if h: ∃o,inH H0 g x o then some h.choose else none
structure GOk (g:GL)(H0:Hp):Prop where
 nd:(g.map Prod.fst).Nodup
 new: ∀x,g.has x->H0 x=none
theorem dD9: ∀{g:GL},(g.map Prod.fst).Nodup-> ∀{x:Addr} {l l':List Int},(x,l)∈g->(x,l')∈g->l=l'
 | [],_,_,_,_,h,_=>by cases h
 | p::g,nd,x,l,l',h,h'=>by
  rw[dY,uD]at nd;rcases bB.mp h with e|h1
  .rcases bB.mp h' with e'|h2
   .rw[<-e]at e';cases e';rfl
   .exact absurd (bU.mpr ⟨_,h2,rfl⟩) (by rw[<-e]at nd;exact nd.1)
  .rcases bB.mp h' with e'|h2
   .exact absurd (bU.mpr ⟨_,h1,rfl⟩) (by rw[<-e']at nd;exact nd.1)
   .exact dD9 nd.2 h1 h2
section
variable {K:Frag}{C C':C0}{ρ ρ':Ev}{σ σ':L2.St}{H H' H0:Hp}{g g':GL}{r:Nat}
theorem dC (nd:(g.map Prod.fst).Nodup){x:Addr}{o:HO}:cP5 H0 g x=some o↔inH H0 g x o:=by
 have uniq: ∀o o',inH H0 g x o->inH H0 g x o'->o=o':=λo o' h h'=>by
  rcases h with⟨l,m,rfl⟩| ⟨n,e⟩
  .rcases h' with⟨l',m',rfl⟩| ⟨n',_⟩
   .rw[dD9 nd m m']
   .exact absurd ⟨l,m⟩ n'
  .rcases h' with⟨l',m',_⟩| ⟨_,e'⟩
   .exact absurd ⟨l',m'⟩ n
   .rw[e]at e';cases e';rfl
 unfold cP5;constructor
 .intro h;split at h
  .rename_i hx
   cases h;exact hx.choose_spec
  .cases h
 .intro h;rw[dif_pos ⟨o,h⟩,uniq _ _ (Exists.choose_spec (⟨o,h⟩: ∃o,inH H0 g x o)) h]
theorem o7 (nd:(g.map Prod.fst).Nodup){x:Addr}(h:cP5 H0 g x=none): ¬g.has x/\H0 x=none:=by
 have no: ∀o,¬inH H0 g x o:=λo q=>by rw[(dC nd).mpr q]at h;cases h
 have n: ¬g.has x:=λ⟨l,m⟩=>no _ (.inl ⟨l,m,rfl⟩)
 refine⟨n,?_⟩
 cases e:H0 x with
 | none=>rfl
 | some o=>exact absurd (.inr ⟨n,e⟩) (no o)
nonrec def C0.inn (C:C0) (g:GL):C0:=⟨cP5 C.H0 g,λx=>C.A0 x\/g.has x⟩
def k8 (l:List Int):D:= .lst (l.map .int)
def b81 (g:GL):List D:=g.map λp=>k8 p.2
def jB (g:GL):List D:=g.map λp=> .adr p.1
def dE0 (ρ:Ev):Prop:= ∀(i:Nat) (l:List D),ρ[i]? ≠some (some<|.bo l)
structure oZ (K:Frag)(C:C0)(r:Nat)(g:GL)(ρ:Ev)(σ:L2.St)(H:Hp):Prop where
 sl:ρ[r]? =some (some<|.ow<|b81 g)
 gok:GOk g C.H0
 nb:dE0 ρ
 a0: ∀a,C.A0 a->C.H0 a≠none
 ok:EOk K (C.inn g) (ρ.set r<|some<|.ow<|jB g) σ H
def cP6 (K:Frag)(C:C0)(r:Nat)(ρ:Ev)(σ:L2.St)(H:Hp):Prop:= ∃g,oZ K C r g ρ σ H
theorem oZ.lt (I:oZ K C r g ρ σ H):r<ρ.length:=(gG.mp I.sl).1
theorem oZ.at_r (I:oZ K C r g ρ σ H):(ρ.set r<|some<|.ow<|jB g)[r]? =some (some<|.ow<|jB g):=dB I.lt
theorem qI: ∀{g:GL} {A:AS} {vs:List V},bX K A H (jB g) vs->vs=g.map λp=>V.ref p.1
 | [],_,_,h=>h.unnil
 | p::g,A,vs,h=>by
  obtain⟨v,vr,rfl,rv,rr⟩:=bX.uncons h;have:v= .ref p.1:=by simpa only[Rep]using rv
  rw[this,qI rr];rfl
theorem a19 {A:AS}: ∀g:GL,bX K A H (jB g) (g.map λp=>V.ref p.1)
 | []=> .nil
 | p::g=> .cons (d:= .adr p.1) (by simp only[Rep]) (a19 g)
theorem bH0 {A:AS}: ∀l:List Int,bX K A H (l.map D.int) (l.map V.int)
 | []=> .nil
 | i::l=> .cons (by simp only[Rep]) (bH0 l)
theorem aK8 {A:AS}: ∀{l:List Int} {vs:List V},bX K A H (l.map D.int) vs->vs=l.map V.int
 | [],_,h=>h.unnil
 | i::l,vs,h=>by
  obtain⟨v,vr,rfl,rv,rr⟩:=h.uncons;rw[bL rv,aK8 rr];rfl
theorem oZ.inner (I:oZ K C r g ρ σ H){x:Addr}{l:List Int}(h:(x,l)∈g):H x=some (.lst<|l.map V.int):=I.ok.ext x _ ((dC I.gok.nd).mpr<|.inl ⟨l,h,rfl⟩)
theorem oZ.own (I:oZ K C r g ρ σ H)(h:Own ρ σ a):Own (ρ.set r<|some<|.ow<|jB g) σ a:=by
 obtain⟨i,l,h1,h2⟩:=h
 by_cases e:r=i
 .subst e;exact⟨r,_,I.at_r,h2⟩
 .exact⟨i,l,by rw[get_set_ne e];exact h1,h2⟩
theorem oZ.notOwn (I:oZ K C r g ρ σ H)(h:g.has a): ¬Own (ρ.set r<|some<|.ow<|jB g) σ a:=by
 rintro⟨i,l,h1,h2⟩;obtain⟨a',vs,h3,h4,h5,_⟩:=I.ok.ow i l h1;rw[h2]at h3;cases h3;exact(o7 I.gok.nd h5).1 h
theorem oZ.av (I:oZ K C r g ρ σ H)(h:Av C ρ σ a):Av (C.inn g) (ρ.set r<|some<|.ow<|jB g) σ a:=h.imp .inl I.own
theorem oZ.free (I:oZ K C r g ρ σ H)(h:g.has a): ¬Av C ρ σ a:=by
 rintro(z|z)
 .exact I.a0 a z (I.gok.new a h)
 .exact I.notOwn h (I.own z)
theorem bW2 (I:oZ K C r g ρ σ H): ∀{g':GL},(∀p∈g',p∈g)->bX K (Av C ρ σ) H (b81 g') (g'.map λp=>V.ref p.1)
 | [],_=> .nil
 | p::g',h=>by
  refine .cons (d:=k8 p.2) ?_ (bW2 I λq hq=>h q (fB _ hq))
  have hp:=h p (kT ..);exact⟨p.1,p.2.map V.int,rfl,I.free ⟨p.2,hp⟩,I.inner hp,bH0 _⟩
theorem oZ.out (I:oZ K C r g ρ σ H):EOk K C ρ σ H:=by
 have sub: ∀a,Av C ρ σ a->Av (C.inn g) (ρ.set r<|some<|.ow<|jB g) σ a:=λa z=>I.av z
 refine⟨by have:=I.ok.len;rw[cZ]at this;exact this,λi d h=> ?_,λi l h=> ?_,λi j l l' a h1 h2 h3 h4=> ?_,λi l h=>absurd h (I.nb i l),λb o e=> ?_,I.a0⟩
 .have e:r≠i:=λz=>by subst z;rw[I.sl]at h;cases h
  obtain⟨v,h1,h2⟩:=I.ok.pu i d (by rw[get_set_ne e];exact h)
  exact⟨v,h1,h2.mono<|.sub (.refl _) sub⟩
 .by_cases e:r=i
  .subst e;rw[I.sl]at h;cases h;obtain⟨a,vs,h1,h2,h3,h4⟩:=I.ok.ow r _ I.at_r;have ev:=qI h4;subst ev;exact⟨a,_,h1,h2,(o7 I.gok.nd h3).2,bW2 I λ_ h=>h⟩
  .obtain⟨a,vs,h1,h2,h3,h4⟩:=I.ok.ow i l (by rw[get_set_ne e];exact h)
   exact⟨a,vs,h1,h2,(o7 I.gok.nd h3).2,h4.mono<|.sub (.refl _) sub⟩
 .have up: ∀{i:Nat} {l:List D},ρ[i]? =some (some<|.ow l)-> ∃l2,(ρ.set r<|some<|.ow<|jB g)[i]? =some (some<|.ow l2):=λ{i l} h=>by
   by_cases e:r=i
   .subst e;exact⟨_,I.at_r⟩
   .exact⟨l,by rw[get_set_ne e];exact h⟩
  obtain⟨_,q1⟩:=up h1;obtain⟨_,q2⟩:=up h2;exact I.ok.inj i j _ _ a q1 q2 h3 h4
 .refine I.ok.ext b o ((dC I.gok.nd).mpr<|.inr ⟨λz=> ?_,e⟩)
  rw[I.gok.new b z]at e;cases e
theorem oZ.same (I:oZ K C r g ρ σ H)(s:gN H H'):oZ K C r g ρ σ H':=⟨I.sl,I.gok,I.nb,I.a0,I.ok.same s⟩
theorem dT9:C.inn []=C:=by
 obtain⟨H0,A0⟩:=C;have e1:cP5 H0 []=H0:=by
  funext x
  cases e:H0 x with
  | none=>
   cases e2:cP5 H0 [] x with
   | none=>rfl
   | some o=>
    rcases(dC (g:=[]) nodup_nil).mp e2 with⟨l,m,_⟩| ⟨_,h⟩
    .cases m
    .rw[e]at h;cases h
  | some o=>exact(dC (g:=[]) nodup_nil).mpr (.inr ⟨λ⟨l,m⟩=>(by cases m),e⟩)
 have e2:(λx=>A0 x\/GL.has [] x)=A0:=by
  funext x
  exact propext ⟨λh=>h.elim id λ⟨l,m⟩=>(by cases m),.inl⟩
 show C0.mk (cP5 H0 []) (λx=>A0 x\/GL.has [] x)=⟨H0,A0⟩
 rw[e1,e2]
theorem GOk.nil {H0:Hp}:GOk [] H0:=⟨nodup_nil,λx ⟨l,m⟩=>by cases m⟩
theorem EOk.addG {l:List Int}(I:EOk K (C.inn g) ρ σ H)(ok:GOk g C.H0)(s:gN H H')(n:H a=none)(e:H' a=some (.lst<|l.map V.int)) :
  EOk K (C.inn<|g++[(a,l)]) ρ σ H'/\GOk (g++[(a,l)]) C.H0:=by
 have hi: ∀{x:Addr} {o:HO},(C.inn g).H0 x=some o->H x=some o:=λ{x o} h=>I.ext x o h
 have na: ¬g.has a:=λ⟨l',m⟩=>by
  have:=hi ((dC ok.nd).mpr<|.inl ⟨l',m,rfl⟩);rw[n]at this;cases this
 have n0:C.H0 a=none:=by
  cases q:C.H0 a with
  | none=>rfl
  | some o=>
   have:=hi ((dC ok.nd).mpr<|.inr ⟨na,q⟩);rw[n]at this;cases this
 have has': ∀x,GL.has (g++[(a,l)]) x↔g.has x\/x=a:=λx=>by
  constructor
  .rintro⟨l',m⟩;rcases cR.mp m with m|m
   .exact .inl ⟨l',m⟩
   .cases fE.mp m;exact .inr rfl
  .rintro(⟨l',m⟩|rfl)
   .exact⟨l',pL _ m⟩
   .exact⟨l,eZ _<|fE.mpr rfl⟩
 have ok':GOk (g++[(a,l)]) C.H0:=by
  refine⟨?_,λx h=> ?_⟩
  .rw[bT,List.nodup_append];refine⟨ok.nd,ae,λx hx y hy=> ?_⟩
   have:y=a:=by exists hy
   subst this;intro z;subst z;obtain⟨p,hp,rfl⟩:=bU.mp hx;exact na ⟨p.2,hp⟩
  .rcases(has' x).mp h with h|rfl
   .exact ok.new x h
   .exact n0
 have up: ∀{x:Addr} {o:HO},inH C.H0 g x o->H x=some o->inH C.H0 (g++[(a,l)]) x o:=λ{x o} h hx=>by
  rcases h with⟨l',m,rfl⟩| ⟨nh,q⟩
  .exact .inl ⟨l',pL _ m,rfl⟩
  .exact .inr ⟨λz=>((has' x).mp z).elim nh λz=>(by subst z;rw[n]at hx;cases hx),q⟩
 have P:kO (Av (C.inn g) ρ σ) H (Av (C.inn<|g++[(a,l)]) ρ σ) H':=λb o nb q=>⟨by
  rintro((z|z)|z)
  .exact nb (.inl<|.inl z)
  .rcases(has' b).mp z with z|rfl
   .exact nb (.inl<|.inr z)
   .rw[n]at q;cases q
  .exact nb (.inr z),s b o q⟩
 refine⟨⟨I.len,λi d h=> ?_,λi m h=> ?_,I.inj,λi m h=> ?_,λb o q=> ?_,λb h=> ?_⟩,ok'⟩
 .obtain⟨v,h1,h2⟩:=I.pu i d h;exact⟨v,h1,h2.mono P⟩
 .obtain⟨b,vs,h1,h2,h3,h4⟩:=I.ow i m h;refine⟨b,vs,h1,s _ _ h2,?_,h4.mono P⟩;cases q:(C.inn<|g++[(a,l)]).H0 b with
  | none=>rfl
  | some o=>
   obtain⟨nh,h0⟩:=o7 ok.nd h3;rcases(dC ok'.nd).mp q with⟨l',mm,_⟩| ⟨_,q'⟩
   .rcases(has' b).mp ⟨l',mm⟩with z|rfl
    .exact absurd z nh
    .rw[n]at h2;cases h2
   .rw[h0]at q';cases q'
 .obtain⟨b,vs,h1,h2,h3,h4⟩:=I.bo i m h;exact⟨b,vs,h1,h2.imp id λz=>(has' b).mpr (.inl z),(dC ok'.nd).mpr<|up ((dC ok.nd).mp h3)<|hi h3,h4.mono P⟩
 .rcases(dC ok'.nd).mp q with⟨l',m,rfl⟩| ⟨nh,q'⟩
  .rcases cR.mp m with m|m
   .exact s _ _ (hi<|(dC ok.nd).mpr<|.inl ⟨l',m,rfl⟩)
   .cases fE.mp m;exact e
  .exact s _ _ (hi<|(dC ok.nd).mpr<|.inr ⟨λz=>nh ((has' b).mpr<|.inl z),q'⟩)
 .intro z;obtain⟨nh,h0⟩:=o7 ok'.nd z;rcases h with h|h
  .cases q:(C.inn g).H0 b with
   | none=>exact I.a0 b (.inl h) q
   | some o=>
    rcases(dC ok.nd).mp q with⟨l',m,_⟩| ⟨_,q'⟩
    .exact nh ((has' b).mpr<|.inl ⟨l',m⟩)
    .rw[h0]at q';cases q'
  .exact nh h
theorem EOk.enter {Dn:Addr}(I:EOk K C ρ σ H)(s:gN H H')(nD:H Dn=none)(eD:H' Dn=some (.lst<|g.map λp=>V.ref p.1))(ok:GOk g H)(hD: ¬g.has Dn)(hg: ∀x l,(x,l)∈g->H' x=some (.lst<|l.map V.int))(nb:dE0 ρ)(hr:r<ρ.length) :
  oZ K C r g (ρ.set r<|some<|.ow<|b81 g) (σ.set r<|some<|.ref Dn) H':=by
 have hr':r<σ.length:=by rw[<-I.len];exact hr
 have n0: ∀{x:Addr},H x=none->C.H0 x=none:=λ{x} h=>by
  cases q:C.H0 x with
  | none=>rfl
  | some o=>rw[I.ext x o q]at h;cases h
 have ok':GOk g C.H0:=⟨ok.nd,λx h=>n0 (ok.new x h)⟩
 have setset:(ρ.set r<|some<|.ow<|b81 g).set r (some<|.ow<|jB g)=ρ.set r (some<|.ow<|jB g):=set_set ..;have sub: ∀a,Own (ρ.set r<|some<|.ow<|jB g) (σ.set r<|some<|.ref Dn) a->Own ρ σ a\/a=Dn:=by
  rintro a ⟨j,l,h1,h2⟩;rcases aX h1 with⟨rfl,h3,_⟩| ⟨ne,h3⟩
  .rw[dB hr']at h2;cases h2;exact .inr rfl
  .rw[get_set_ne ne]at h2;exact .inl ⟨j,l,h3,h2⟩
 have P:kO (Av C ρ σ) H (Av (C.inn g) (ρ.set r<|some<|.ow<|jB g)<|σ.set r<|some<|.ref Dn) H':=λb o nb q=>⟨(by
  rintro((z|z)|z)
  .exact nb (.inl z)
  .rw[ok.new b z]at q;cases q
  .rcases sub b z with z|rfl
   .exact nb (.inr z)
   .rw[nD]at q;cases q),s b o q⟩
 refine⟨dB hr,ok',λi l h=> ?_,I.a0,?_⟩
 .rcases aX h with⟨rfl,h3,_⟩| ⟨ne,h3⟩
  .cases h3
  .exact nb i l h3
 rw[setset];refine⟨by rw[cZ,cZ];exact I.len,λi d h=> ?_,λi m h=> ?_,λj k l l' a h1 h2 h3 h4=> ?_,λi m h=> ?_,λb o q=> ?_,λb h z=> ?_⟩
 .rcases aX h with⟨rfl,h3,_⟩| ⟨ne,h3⟩
  .cases h3
  .obtain⟨v,h1,h2⟩:=I.pu i d h3;exact⟨v,by rw[get_set_ne ne];exact h1,h2.mono P⟩
 .have no: ∀{b:Addr},H b≠none\/b=Dn->C.H0 b=none->(C.inn g).H0 b=none:=λ{b} hb h0=>by
   cases q:(C.inn g).H0 b with
   | none=>rfl
   | some o=>
    rcases(dC ok.nd).mp q with⟨l',mm,_⟩| ⟨_,q'⟩
    .rcases hb with hb|rfl
     .exact absurd (ok.new b ⟨l',mm⟩) hb
     .exact absurd ⟨l',mm⟩ hD
    .rw[h0]at q';cases q'
  rcases aX h with⟨rfl,h3,_⟩| ⟨ne,h3⟩
  .cases h3;exact⟨Dn,_,dB hr',eD,no (.inr rfl)<|n0 nD,a19 g⟩
  .obtain⟨b,vs,h1,h2,h3',h4⟩:=I.ow i m h3;exact⟨b,vs,by rw[get_set_ne ne];exact h1,s _ _ h2,no (.inl (by rw[h2];simp)) h3',h4.mono P⟩
 .have old: ∀{j:Nat} {l:List D},ρ[j]? =some (some<|.ow l)->σ[j]? ≠some (some<|.ref Dn):=λ{j l} h z=>by
   obtain⟨b,vs,h4,h5,_⟩:=I.ow j l h;rw[z]at h4;cases h4;rw[nD]at h5;cases h5
  rcases aX h1 with⟨rfl,z,_⟩| ⟨ne,z⟩
  .rw[dB hr']at h3;cases h3;rcases aX h2 with⟨rfl,z',_⟩| ⟨ne',z'⟩
   .rfl
   .rw[get_set_ne ne']at h4;exact absurd h4 (old z')
  .rw[get_set_ne ne]at h3;rcases aX h2 with⟨rfl,z',_⟩| ⟨ne',z'⟩
   .rw[dB hr']at h4;cases h4;exact absurd h3 (old z)
   .rw[get_set_ne ne']at h4;exact I.inj j k l l' a z z' h3 h4
 .rcases aX h with⟨rfl,h3,_⟩| ⟨ne,h3⟩
  .cases h3
  .exact absurd h3 (nb i m)
 .rcases(dC ok.nd).mp q with⟨l',m,rfl⟩| ⟨_,q'⟩
  .exact hg b l' m
  .exact s b o (I.ext b o q')
 .obtain⟨nh,h0⟩:=o7 ok.nd z;rcases h with h|h
  .exact I.a0 b h h0
  .exact nh h
end
section
variable {X:Cx}{K:Frag}{C C':C0}{ρ ρ':Ev}{σ σ':L2.St}{H H' H0:Hp}{g g':GL}{r:Nat}{st:Stmt}{sts:List Stmt}{e:Expr}{pos:Pos}{t u:US}{te ti:UE}{tc:UT}
structure DOkN (K:Frag)(C:C0)(r:Nat)(D0:UD)(D:b18):Prop where
 nx: ∀ρ σ H,D0.nx ρ->cP6 K C r ρ σ H->D.nx σ H
 rt: ∀b v H,D0.rt b->gN C.H0 H->sB K C.A0 C.H0 H b v->D.rt v H
def lN (K:Frag)(r:Nat)(t:US):TS:=λD σ H=> ∃C ρ D0,cP6 K C r ρ σ H/\t D0 ρ/\DOkN K C r D0 D
def PUN (X:Cx)(r:Nat)(st:Stmt)(t:US):Prop:=PS X st (lN X.K r t)
def cP7 (X:Cx)(r:Nat)(sts:List Stmt)(t:US):Prop:=PSs X sts (lN X.K r t)
theorem un_nil:cP7 X r [] dN:=qF bC4 λD σ H ⟨C,ρ,D0,I,h,k⟩=>k.nx ρ σ H h I
theorem cW9 (h1:PUN X r st t)(h2:cP7 X r sts u):cP7 X r (st::sts) (aU t u):=
 qF (l8 h1 h2) λD σ H ⟨C,ρ,D0,I,h,k⟩=>⟨C,ρ,{D0 with nx:=u D0},I,h,⟨λρ' σ' H' q I'=>⟨C,ρ',D0,I',q,k⟩,k.rt⟩⟩
theorem aR7 (h1:PUN X r st t):cP7 X r [st] t:=bC5 h1
def lEnt (K:Frag)(r:Nat)(t:US):TS:=λD σ H=> ∃C ρ D0,EOk K C ρ σ H/\t D0 ρ/\ ∀ρ' σ' H',D0.nx ρ'->cP6 K C r ρ' σ' H'->D.nx σ' H'
theorem dE1 (h1:PS X st (lEnt X.K r t))(h2:PSs X sts (λD σ H=> ∃C ρ D0,cP6 X.K C r ρ σ H/\u D0 ρ/\DOk X.K C D0 D)):qE X (st::sts) (aU t u):=
 qF (l8 h1 h2) λD σ H ⟨C,ρ,D0,I,h,k⟩=>⟨C,ρ,{D0 with nx:=u D0},I,h,λρ' σ' H' q I'=>⟨C,ρ',D0,I',q,k⟩⟩
def uIfN (c:UT)(t u:US):US:=λD ρ=>c ρ λb _=>if b=true then t D ρ else u D ρ
theorem un_if {a b:List Stmt}(hc:PUT X c tc)(ha:cP7 X r a t)(hb:cP7 X r b u):PUN X r (.If c a b pos) (uIfN tc t u):=
 mI (cA4 hc ha hb) λD σ H ⟨C,ρ,D0,⟨g,I⟩,h,k⟩=>⟨C,ρ,_,I.out,h,λc ρ1 H1 q f s=>by
  have I1:cP6 X.K C r ρ σ H1:=⟨g,I.same s⟩;cases c with
  | true=>
   exact⟨C,ρ,D0,I1,q,k⟩
  | false=>
   exact⟨C,ρ,D0,I1,q,k⟩⟩
def aK9 (r i:Nat)(te:UE):US:=λD ρ=>i≠r/\te ρ λb _=>match b with
 | .pu d=>d.nl=true/\D.nx (ρ.set i<|some<|.pu d)
 | _=>False
theorem oZ.setPu {d:D}{v:V}(I:oZ K C r g ρ σ H)(hd:d.nl=true)(rv:Rep K (Av C ρ σ) H d v)(hi:i<σ.length)(ne:i≠r):oZ K C r g (ρ.set i<|some<|.pu d) (σ.set i<|some v) H:=by
 have rv':Rep K (Av (C.inn g) (ρ.set r<|some<|.ow<|jB g) σ) H d v:=by
  refine Rep.nl (λa vs n c=>⟨?_,c⟩) hd rv
  rintro((z| ⟨l,m⟩)| ⟨j,l,h1,h2⟩)
  .exact n (.inl z)
  .have:=I.inner m;rcases c with c| ⟨o,c⟩<;>(rw[this]at c;cases c)
  .obtain⟨b,ws,g1,g2,_⟩:=I.ok.ow j l h1;rw[h2]at g1;cases g1;rcases c with c| ⟨o,c⟩<;>(rw[g2]at c;cases c)
 refine⟨by rw[get_set_ne ne];exact I.sl,I.gok,λj l h=> ?_,I.a0,?_⟩
 .rcases aX h with⟨rfl,h3,_⟩| ⟨_,h3⟩
  .cases h3
  .exact I.nb j l h3
 .have:=I.ok.store (.refl _) (show sB K _ H H (.pu d) v from rv') hi
  rw[set_comm _ _ ne.symm]at this;exact this
theorem bH1 (i:Nat)(hN:X.N.Nodup)(hi:X.N[i]? =some x)(hx:Loc X.env.scope x)(he:PU X e te)(hs:↥(swapsWith e (some<|.Name x pos') pos.line X.env=pure false))
  (hf:X.fn x=true\/X.env.scope.names.lookup x=some .local:=by walk_at "z") (hl: ∀pins σ H s,Inv X pins σ H s->i<σ.length:=by intro pins σ H s I;rw[I.len];decide) :
  PUN X r (.Assign [.Name x pos'] e pos) (aK9 r i te):=by
 intro pins s σ H D J q;refine d80 hN hi hx he hs hf pins s σ H D J ?_;obtain⟨C,ρ,D0,⟨g,I⟩,⟨ne,h⟩,k⟩:=q;refine⟨C,ρ,_,I.out,h,λb ρ1 v H1 q f s1 rr=> ?_⟩
 cases b with
 | pu d=>
  have I1:=I.same s1;have rv:Rep X.K (Av C ρ σ) H1 d v:=by
   refine Rep.nl (λa vs n c=>⟨?_,c⟩) q.1 (show Rep _ _ _ d v from rr)
   rintro(z| ⟨j,l,h1,h2⟩)
   .exact n (.inl z)
   .obtain⟨b,ws,g1,g2,_⟩:=I1.out.ow j l h1;rw[h2]at g1;cases g1;rcases c with c| ⟨o,c⟩<;>(rw[g2]at c;cases c)
  exact k.nx _ _ _ q.2 ⟨g,I1.setPu q.1 rv (hl pins σ H s J) ne⟩
 | ow l=>exact q.elim
 | bo l=>exact q.elim
end
section
variable {X:Cx}{K:Frag}{C C':C0}{ρ ρ':Ev}{σ σ':L2.St}{H H' H0:Hp}{g g':GL}{r:Nat}{st:Stmt}{sts:List Stmt}{e:Expr}{pos:Pos}{t u:US}{te ti tj:UE}{tc:UT}
theorem cD4 {l:List D}(nb:dE0 ρ):dE0 (ρ.set r<|some<|.ow l):=λi m h=>by
 rcases aX h with⟨rfl,h3,_⟩| ⟨_,h3⟩
 .cases h3
 .exact nb i m h3
theorem bD3 {l:List Int}(h:g[n]? =some (b,l))(x:Addr):GL.has (g.set n (b,l')) x↔g.has x:=by
 have hn:=(gG.mp h).1;constructor
 .rintro⟨m,hm⟩;rcases zL hm with hm|e
  .exact⟨m,hm⟩
  .cases e;exact⟨l,fX h⟩
 .rintro⟨m,hm⟩;obtain⟨i,hi⟩:=List.getElem?_of_mem hm
  by_cases e:n=i
  .subst e;rw[h]at hi;cases hi;exact⟨l',fX<|dB hn⟩
  .exact⟨m,fX (by rw[get_set_ne e];exact hi)⟩
theorem cX0 {l:List Int}(h:g[n]? =some (b,l)):(g.set n (b,l')).map Prod.fst=g.map Prod.fst:=by
 rw[l7];apply pT;intro i
 by_cases e:n=i
 .subst e;rw[dB (by rw[aG];exact(gG.mp h).1),aZ,h]
  rfl
 .rw[get_set_ne e]
theorem oZ.setCell {l:List Int}(I:oZ K C r g ρ σ H)(hb:g[n]? =some (b,l)) :
  oZ K C r (g.set n (b,l')) (ρ.set r<|some<|.ow<|b81<|g.set n (b,l')) σ (upd H b<|.lst<|l'.map V.int):=by
 have hn:=(gG.mp hb).1;have hm:(b,l)∈g:=fX hb;have nd2:((g.set n (b,l')).map Prod.fst).Nodup:=by rw[cX0 hb];exact I.gok.nd
 have ok2:GOk (g.set n (b,l')) C.H0:=⟨nd2,λx h=>I.gok.new x ((bD3 hb x).mp h)⟩
 have ea:jB (g.set n (b,l'))=jB g:=by
  have:=fK (List.map D.adr) (cX0 (l':=l') hb);rw[dZ,dZ]at this;exact this
 have J:=I.ok;have P:kO (Av (C.inn g) (ρ.set r<|some<|.ow<|jB g) σ) H (Av (C.inn<|g.set n (b,l')) (ρ.set r<|some<|.ow<|jB g) σ) (upd H b<|.lst<|l'.map V.int):=λx o nx q=>
  ⟨λz=>nx (z.imp (λz=>z.imp id (bD3 hb x).mp) id),by rw[cM λz=>nx (.inl<|.inr ⟨l,by rw[z];exact hm⟩)];exact q⟩
 refine⟨dB I.lt,ok2,cD4 I.nb,I.a0,?_⟩
 rw[set_set,ea];refine⟨J.len,λi d h=> ?_,λi m h=> ?_,J.inj,λi m h=>absurd h (cD4 I.nb i m),λx o q=> ?_,λx h=> ?_⟩
 .obtain⟨v,h1,h2⟩:=J.pu i d h;exact⟨v,h1,h2.mono P⟩
 .obtain⟨a,vs,h1,h2,h3,h4⟩:=J.ow i m h;obtain⟨nh,h0⟩:=o7 I.gok.nd h3;refine⟨a,vs,h1,?_,?_,h4.mono P⟩
  .rw[cM λz=>nh ⟨l,by rw[z];exact hm⟩];exact h2
  .cases q:(C.inn<|g.set n (b,l')).H0 a with
   | none=>rfl
   | some o=>
    rcases(dC nd2).mp q with⟨l2,mm,_⟩| ⟨_,q'⟩
    .exact absurd ((bD3 hb a).mp ⟨l2,mm⟩) nh
    .rw[h0]at q';cases q'
 .have hb2:(b,l')∈g.set n (b,l'):=fX (dB hn)
  by_cases e:x=b
  .subst e;rcases(dC nd2).mp q with⟨l2,mm,rfl⟩| ⟨nh,_⟩
   .rw[dD9 nd2 mm hb2,iF]
   .exact absurd ⟨l',hb2⟩ nh
  .rw[cM e];rcases(dC nd2).mp q with⟨l2,mm,rfl⟩| ⟨nh,q'⟩
   .rcases zL mm with mm|z
    .exact J.ext _ _ ((dC I.gok.nd).mpr<|.inl ⟨l2,mm,rfl⟩)
    .cases z;exact absurd rfl e
   .exact J.ext _ _ ((dC I.gok.nd).mpr<|.inr ⟨λz=>nh ((bD3 hb x).mpr z),q'⟩)
 .intro z;obtain⟨nh,h0⟩:=o7 nd2 z;exact h.elim (λh=>I.a0 x h h0) nh
theorem aW1: ∀{g:GL} {ls:List (List Int)},b81 g=ls.map k8->g.map Prod.snd=ls
 | [],[],_=>rfl
 | [],_::_,h=>by cases h
 | _::_,[],h=>by cases h
 | p::g,l::ls,h=>by
  have h':k8 p.2::b81 g=k8 l::ls.map k8:=h
  injection h' with h1 h2
  have e:p.2=l:=by
   injection h1 with h1
   have inj: ∀{a b:List Int},a.map D.int=b.map D.int->a=b:=λ{a b}=>by
    induction a generalizing b with
    | nil=>intro h;cases b with|nil=>rfl|cons _ _=>cases h
    | cons x a ih=>
     intro h;cases b with
     | nil=>cases h
     | cons y b=>
      injection h with h1 h2
      injection h1 with h1
      rw[h1,ih h2]
   exact inj h1
  rw[dY,aW1 h2,e]
theorem aW2 (g:GL):b81 g=(g.map Prod.snd).map k8:=by rw[dZ];rfl
theorem aH7 {m:Nat}(h:n<m):ixN m (n:Int)=some n:=by
 unfold ixN;rw[aA aa,aA aa]
 simp
def b36 (r:Nat)(te ti tj:UE):US:=λD ρ=>te ρ λb _=> ∃v:Int,b= .pu (.int v)/\ti ρ λx _=> ∃(n:Nat) (ls:List (List Int)) (row:List Int),x= .pu (.int (n:Int))/\ρ[r]? =some (some<|.ow<|ls.map k8)/\ls[n]? =some row/\tj ρ λy _=> ∃m:Nat,y= .pu (.int (m:Int))/\m<row.length/\D.nx (ρ.set r<|some<|.ow<|(ls.set n<|row.set m v).map k8)
theorem bD4 (hx:PE X (.Name x p) (yK r))(he:PU X e te)(hi:PU X ix ti)(hj:PU X jx tj)(hpi:a15 ix)
  (ha: ∀v,assign (.Subscript (.Subscript (.Name x p) ix p1) jx tpos) X.env v=(do
   let ov<-holding [v] (eval (.Subscript (.Name x p) ix p1) X.env)
   let iv<-holding [v,ov] (eval jx X.env)
   standAt tpos
   holding [v,ov,iv] (setItem ov iv v)
   release [v,ov,iv] []):=by intro _;rfl)
  (hs:↥(swapsWithSole [.Subscript (.Subscript (.Name x p) ix p1) jx tpos] e pos.line X.env=pure false)) (hw:↥(swappedStores [.Subscript (.Subscript (.Name x p) ix p1) jx tpos] e X.env=pure none))
  (h1:↥((assignEach [.Subscript (.Subscript (.Name x p) ix p1) jx tpos] X.env).map (·.2)=[assign (.Subscript (.Subscript (.Name x p) ix p1) jx tpos) X.env])):PUN X r (.Assign [.Subscript (.Subscript (.Name x p) ix p1) jx tpos] e pos) (b36 r te ti tj):=
 mI (cL6 he (cL5 (cV6 bD0 hx hi hpi) hj aV4 ha) hs hw h1) λD σ H ⟨C,ρ,D0,⟨g,I⟩,h,k⟩=>⟨C,ρ,_,I.out,h,λb ρ1 v H1 q f s rb=>by
  obtain⟨v0,rfl,q⟩:=q;have hv:v= .int v0:=bL (K:=X.K) (A:=Av C ρ1 σ) (H:=H1) rb;subst hv;obtain⟨Dn,vs,h1,h2,h3,h4⟩:=I.ok.ow r _ I.at_r;have ev:=qI h4;subst ev;refine⟨.ref Dn,h1,C,ρ,_,(I.same s).out,q,λx1 ρ2 w H2 q2 f2 s2 r2=> ?_⟩
  obtain⟨n,ls,row,rfl,hr,hrow,q2⟩:=q2;have hw:w= .int (n:Int):=bL (K:=X.K) (A:=Av C ρ2 σ) (H:=H2) r2;subst hw;have I2:=(I.same s).same s2;rw[I.sl]at hr;have el:=aW1 (B.ow.inj<|eG<|eG hr);subst el;obtain⟨b,hb⟩: ∃b,g[n]? =some (b,row):=by
   rw[aZ]at hrow;cases q:g[n]? with
   | none=>rw[q]at hrow;cases hrow
   | some p=>rw[q]at hrow;cases hrow;exact⟨p.1,rfl⟩
  refine⟨Dn,_,(n:Int),.ref b,rfl,rfl,SqL.of<|s2 _ _<|s _ _ h2,cG (by rw[aZ,hb];rfl),C,ρ,_,I2.out,q2,λy ρ3 w3 H3 q3 f3 s3 r3=> ?_⟩
  obtain⟨m,rfl,hm,q3⟩:=q3;have hw3:w3= .int (m:Int):=bL (K:=X.K) (A:=Av C ρ3 σ) (H:=H3) r3;subst hw3;have I3:=I2.same s3;refine⟨b,_,(m:Int),m,rfl,rfl,I3.inner<|fX hb,aH7 (by rw[aG];exact hm),k.nx _ _ _ q3 ⟨g.set n (b,row.set m v0),?_⟩⟩
  have:=I3.setCell (l':=row.set m v0) hb;rw[aW2<|g.set n (b,row.set m v0),l7 (f:=Prod.snd),l7 (f:=V.int)]at this;exact this⟩
end
section
variable {X:Cx}{K:Frag}{C C':C0}{ρ ρ':Ev}{σ σ':L2.St}{H H' H0:Hp}{g g':GL}{r:Nat}{st:Stmt}{sts:List Stmt}{e:Expr}{pos:Pos}{t u:US}{te ti tj:UE}{tc:UT}
def c31 (l:List Int):D:= .tup (l.map .int)
def bD5 (r:Nat)(te:UE):US:=λD ρ=>dS te ρ λn it ρ1=>dE0 ρ1/\r<ρ1.length/\ ∃ls:List (List Int),n=(ls.map c31).length/\it=(λi=>(ls.map c31).getD i .non)/\ls.length<=1000/\D.nx (ρ1.set r<|some<|.ow<|ls.map k8)
theorem dE2 {x:Addr}{l:List Int}(J:EOk K (C.inn g) ρ σ H)(nd:(g.map Prod.fst).Nodup)(h:(x,l)∈g):H x=some (.lst<|l.map V.int):=J.ext x _ ((dC nd).mpr<|.inl ⟨l,h,rfl⟩)
theorem cP8 {l:List Int}{x:Option B}{Q:B->Ev->Prop}(h:Q (.ow<|l.map .int) [some<|.pu<|.tup<|l.map .int,x]):aR rE (a8 (aC 0) aL) [some<|.pu<|.tup<|l.map .int,x] Q:=h
theorem dE3 (he0:X.env.scope.names=esc)(hx0:X.N=XN)(lk:tN esc XN N [none,none] scope 1=true)(hc:X.calm=true)(hi:PUI X tg iter (dS te))
  (hg: ∀cl C s H fp pins,PUG (cA X N scope cl C s H fp pins) tg [0]<|bS 0) (he: ∀cl C s H fp pins,PU (cA X N scope cl C s H fp pins) elt<|aR rE<|a8 (aC 0) aL)
  (hy:PG X (.Name y py) (a75 r)) (hsw:↥(swapsWith (.ListComp elt [⟨tg,iter,[],0⟩] scope pos) (some<|.Name y py) spos.line X.env=pure true))
  (hs: ∀x,foldedSetIterable iter X.env x=pure x:=by intro _;rfl):PS X (.Assign [.Name y py] (.ListComp elt [⟨tg,iter,[],0⟩] scope pos) spos) (lEnt X.K r<|bD5 r te):=by
 refine mI (bG1 (g:=lG X.K [0] (bS 0)) (tt:=lT X.K λρ Q=>Q true ρ) (tem:=tPut (lE X.K<|aR rE<|a8 (aC 0) aL)) (λ_ _ _=>rfl) hc hi (eJ.of he0<|hx0▸lk).1 (eJ.of he0<|hx0▸lk).2 hg (λcl C s H fp pins=>cO) (λcl C s H fp pins=>c27 (he cl C s H fp pins)) hy hsw hs) λD σ H ⟨C,ρ,D0,I,h,k⟩=> ?_
 refine⟨C,ρ,_,I,h,λn it ρ1 J H1 q f s ok Dn nD=> ?_⟩
 obtain⟨nb,hr,ls,rfl,rfl,hls,q⟩:=q;rw[aG]at ok;have I1:EOk X.K C ρ1 σ H1:=(I.frz f).same s;have I2:EOk X.K ((⟨H1,Av C ρ1 σ⟩:C0).inn []) [none,some<|.ow<|jB []] (vW σ [none,none] 1 Dn) (upd H1 Dn<|.lst []):=by
  rw[dT9];exact dB1 (cap:=[none,none]) (last:=1) I1 ac nD
 have own0: ∀{g:GL} {ρ':Ev} {σ':L2.St} {H':Hp},GOk g H1->EOk X.K ((⟨H1,Av C ρ1 σ⟩:C0).inn g) ρ' σ' H'->kO (Av C ρ1 σ) H1 (Av ((⟨H1,Av C ρ1 σ⟩:C0).inn g) ρ' σ') H':=λ{g ρ' σ' H'} gok J' b o nb e=>by
  have ng: ¬g.has b:=λz=>by rw[gok.new b z]at e;cases e
  have e':((⟨H1,Av C ρ1 σ⟩:C0).inn g).H0 b=some o:=(dC gok.nd).mpr (.inr ⟨ng,e⟩);refine⟨?_,J'.ext b o e'⟩;rintro((z|z)| ⟨i,l,h1,h2⟩)
  .exact nb z
  .exact ng z
  .obtain⟨a,vs,h3,h4,h5,_⟩:=J'.ow i l h1;rw[h2]at h3;cases h3;rw[h5]at e';cases e'
 have sal:(vW σ [none,none] 1 Dn)[1]? =some (some<|.ref Dn):=rfl;refine⟨λi m σ' H'=>m=ls.length-i/\i<=ls.length/\σ'[1]? =some (some<|.ref Dn)/\ ∃(x:Option B) (g:GL),GOk g H1/\ ¬g.has Dn/\g.map Prod.snd=ls.take i/\EOk X.K ((⟨H1,Av C ρ1 σ⟩:C0).inn g) [x,some<|.ow<|jB g] σ' H',⟨_,rfl,eH _,sal,none,[],GOk.nil,λ⟨l,m⟩=>(by cases m),rfl,I2⟩,?_⟩
 rintro i m σ' H' ⟨rfl,hi,hlast,x,g,gok,nDg,hg',J'⟩;have P:=own0 gok J'
 by_cases hlt:i<ls.length
 .refine .inr ⟨ok.go _ _ i P hlt,λσ2 H2=>σ2[1]? =some (some<|.ref Dn)/\ ∃(x:Option B) (g:GL),GOk g H1/\ ¬g.has Dn/\g.map Prod.snd=ls.take (i+1)/\EOk X.K ((⟨H1,Av C ρ1 σ⟩:C0).inn g) [x,some<|.ow<|jB g] σ2 H2,λσ2 H2 z=>⟨ls.length-(i+1),aa,rfl,hlt,z⟩,λy H2 hy=> ?_⟩
  obtain⟨s2,r2⟩:=ok.yld _ _ i y H2 P (λa z=>J'.avSome z) hlt hy
  have ei:(ls.map c31).getD i .non=c31 ls[i]:=by
   rw[aO,aZ,aS hlt];rfl
  rw[ei]at r2;refine⟨_,[x,some<|.ow<|jB g],.pu<|c31 ls[i],H',λρ3=>ρ3=[some<|.pu<|c31 ls[i],some<|.ow<|jB g],J',s2,r2,⟨bQ _,rfl⟩,λρ3 σ3 H3 q3 J3 same3=> ?_⟩
  subst q3;have l3:σ3[1]? =some (some<|.ref Dn):=(same3 1 ac).trans hlast
  refine⟨_,_,λc ρ4=>c=true/\ρ4=[some<|.pu<|c31 ls[i],some<|.ow<|jB g],J3,⟨rfl,rfl⟩,λc ρ4 H4 q4 f4 s4=> ?_⟩
  obtain⟨rfl,rfl⟩:=q4;have J4:=J3.same s4;refine⟨_,_,λb ρ5=>b= .ow (ls[i].map .int),J4,cP8 rfl,λb ρ5 v H5 q5 f5 s5 r5=> ?_⟩
  subst q5;obtain⟨a,vs,rfl,na,ea,rl⟩:=r5;have ev:=aK8 rl;subst ev;obtain⟨J5,gok5⟩:=J4.addG gok s5 na ea;obtain⟨a',vs,g1,g2,g3,g4⟩:=J5.ow 1 (jB g) rfl;rw[l3]at g1;cases g1;have ev:=qI g4;subst ev;refine⟨_,g2,?_,l3,some<|.pu<|c31 ls[i],g++[(a,ls[i])],gok5,?_,?_,?_⟩
  .rw[aG];have:g.length=(ls.take i).length:=by rw[<-hg',aG]
   rw[this,nJ];exact nF (show _<=1000 by omega) ac
  .rintro⟨l,mm⟩;rcases cR.mp mm with mm|mm
   .exact nDg ⟨l,mm⟩
   .cases fE.mp mm;obtain⟨b',vs',k1,k2,_⟩:=J4.ow 1 (jB g) rfl;rw[l3]at k1;cases k1;rw[na]at k2;cases k2
  .rw[bT,hg',List.take_succ,aS hlt];rfl
  .have:=J5.write rfl l3 (a19<|g++[(a,ls[i])]);rw[bT]at this;exact this
 .have e:i=ls.length:=aa
  subst e;obtain⟨a,vs,g1,g2,g3,g4⟩:=J'.ow 1 (jB g) rfl;rw[hlast]at g1;cases g1;have ev:=qI g4;subst ev;refine .inl ⟨ok.stop _ _ P,k _ _ _ q ⟨g,?_⟩⟩;have sH:gN H1 H':=λb o e=>J'.ext b o ((dC gok.nd).mpr<|.inr ⟨λz=>(by rw[gok.new b z]at e;cases e),e⟩)
  have E:=I1.enter sH nD g2 gok nDg (λx l m=>dE2 J' gok.nd m) nb hr
  rw[aW2,hg',zN<|aK _]at E;exact E
end
end M
end
section
namespace L2
end L2
namespace M
end M
end
section
namespace L2
end L2
namespace M
section
variable {X:Cx}{e a b:Expr}{te ta tb:UE}{t u:US}{sts:List Stmt}{pos:Pos}
theorem eV {g:D->D->(B->Prop)->Prop}(ho:OpU X (compareOp op) g)(ha:PU X a ta)(hb:PU X b tb)(hm:behindInMarks op b=false:=by exact bF2 _):PUT X (.Compare a [op] [b] pos) (cU<|uOp g ta tb):=aV6 ho ha hb hm
theorem bB0 {g:D->D->(B->Prop)->Prop}(ho:OpU X (compareOp op) g)(ha:PU X a ta)(hb:PU X b tb)(hm:behindInMarks op b=false:=by exact bF2 _):PU X (.Compare a [op] [b] pos) (uOp g ta tb):=pu_cmp ho ha hb hm
theorem bP (i:Nat)(hN:X.N.Nodup)(he:PU X e te)(r:qE X sts u)(hi:↥(X.N[i]? =some x))(hx:Loc X.env.scope x:=by walk_at "z")(hs:↥(swapsWith e (some<|.Name x pos') pos.line X.env=pure false))(hf:X.fn x=true\/X.env.scope.names.lookup x=some .local:=by walk_at "z")
  (hl: ∀pins σ H s,Inv X pins σ H s->i<σ.length:=by exact ilB rfl):qE X (.Assign [.Name x pos'] e pos::sts) (aU (bJ i te) u):=bH (qH i hN he hi hx hs hf hl) r
theorem eC (h:PU X e te):qE X [.Return (some e) pos] (d6 te):=b7 (cN3 h)
theorem bQ5 {tc:UT}(hc:PUT X c tc)(ha:qE X sts t):PUS X (.If c sts [] pos) (fU tc t dN):=bV2 hc ha c20
theorem hG {tc:UT}{r:List Stmt}(hc:PUT X c tc)(ha:qE X sts t)(hr:qE X r u):qE X (.If c sts [] pos::r) (aU (fU tc t dN) u):=bH (bQ5 hc ha) hr
theorem kQ {ui:UI}(i:Nat)(hN:X.N.Nodup)(hi:PUI X (.Name x p) iter ui)(hb:qE X sts t)(hp:PassesOwn (model X.prog X.w) X.A X.env X.xe:=by exact iE)(hc:↥(X.calm=true))(hx:↥(X.N[i]? =some x))(hl:Loc X.env.scope x:=by walk_at "z")
  (hs: ∀x,foldedSetIterable iter X.env x=pure x:=by intro _;rfl) (hf:X.fn x=true\/X.env.scope.names.lookup x=some .local:=by walk_at "z"):PUS X (.For (.Name x p) iter sts [] pos) (gW ui (bS i) t):=b24 hp hc hi (rD i<|cV hN hx hl hf) hb hs
theorem iM (N:List Str)(esc:List (Str×NameKind))(XN:List Str){ui:UI}{tt:UT}(hi:PUI X (.Name x p) iter ui)(ht: ∀cl C s H fp pins,PTs (cA X N scope cl C s H fp pins) ifs<|lT X.K tt)(he: ∀cl C s H fp pins,PU (cA X N scope cl C s H fp pins) elt te)
  (he0:↥(X.env.scope.names=esc)) (hx0:↥(X.N=XN)) (lk:tN esc XN N cap scope last=true:=by decide +kernel) (hl:⇑(last<cap.length)) (hT:⇑(last ∉ [i])) (hc:↥(X.calm=true)) (hN:N.Nodup:=by decide +kernel) (hx:↥(N[i]? =some x)) (hy: ∀cl C s H fp pins,Loc (cA X N scope cl C s H fp pins).env.scope x:=by intro _ _ _ _ _ _;first|exact Or.inl rfl|exact Or.inr rfl)
  (hs: ∀x,foldedSetIterable iter X.env x=pure x:=by intro _;rfl) (hf: ∀cl C s H fp pins,(cA X N scope cl C s H fp pins).fn x=true\/(cA X N scope cl C s H fp pins).env.scope.names.lookup x=some .local:=by intro _ _ _ _ _ _;first|exact .inl rfl|exact .inr rfl|assumption):PU X (.ListComp elt [⟨.Name x p,iter,ifs,0⟩] scope pos) (d5 js cap last ui (bS i) tt te):=
 aA8 he0 hx0 lk hl hT hc hi (λ_ _ _ _ _ _=>rD i (cV hN hx (hy ..)<|hf ..)) ht he hs
end
section
variable {X:Cx}{K:Frag}{ρ ρ':Ev}{σ σ':L2.St}{H H':Hp}
variable {o e e2:Expr}{te te2:UE}{x y:Str}{px py py2 apos cpos bpos fpos apos2 cpos2 epos:Pos}
end
end M
end
section
namespace L2
end L2
namespace M
section
variable {X:Cx}{K:Frag}{last:Nat}{ui ui2:UI}{g g2:UG}{T T2:List Nat}{tt tt2:UT}{te:UE}
variable {elt iter tg iter2 tg2:Expr}{ifs ifs2:List Expr}{scope:Scope}{pos spos py:Pos}{y:Str}{esc:List (Str×NameKind)}{N XN:List Str}{js:List Nat}{cap:List (Option Nat)}
end
abbrev GP:=List (Addr×List V)
end M
end
section
namespace L2
end L2
namespace M
end M
namespace L2
end L2
namespace M
end M
end
section
namespace L2
section
variable {X:Cx}
theorem cP9 (hc:X.calm=true):oE X (.builtin "any") (λxs H Q=> ∃(p:Addr) (ns:List Int),xs=[.ref p]/\SqT X.K H p (ns.map V.int)/\Q (.bl (ns.any (· != 0))) H):=by
 intro pins s σ H xs us Q I r h;obtain⟨p,ns,rfl,hq,q⟩:=h;obtain⟨u,rfl,rx⟩:=vals1 r;cases rx;obtain⟨its,rv,tp,hz⟩:=I.tuple hq;have tp':s.heap.IsTuple p its.toArray:=tp;refine call_any_walk (aP6 tp' ?_);have hne:p≠s.heap.objs.size:=by
  obtain⟨o,e,_⟩:=tp;exact bM (aW e)
 have hl:=rv.length;rw[aG]at hl;refine⟨s.heap.objs.size,_,_,_,_,_,λi=>((ns.map (· != 0))[i]?).getD false,rfl,Walks.tuple (A:=X.A.in1) (I.ok.hd hc) s.heap.objs.size p (λz=>hne z) its.toArray,⟨⟨_,cD _ rfl,rfl,rfl⟩,tp'.push _⟩,?_,λh' tk hk=> ?_⟩
 .intro i v s' Q' E' hP hQ;have hP:its[i]? =some v:=by exists hP
  have hi:i<ns.length:=by
   rw[hl];exact(gG.mp hP).1
  obtain⟨w,ew,rw'⟩:=rv.get (i:=i) (x:= .int ns[i]) (by rw[aZ,aS hi];rfl)
  rw[hP]at ew;cases ew;obtain⟨t,rfl⟩:=rw';refine truthy_int ?_;dsimp only at hQ;rw[aZ,aS hi]at hQ;exact hQ
 .have e:=LSm.range_any (ns.map (· != 0));rw[aG]at e;have e2:its.toArray.size=ns.length:=by rw[bD,hl]
  rw[e2,e];refine⟨.bl (ns.any (· != 0)),H,I.kept λb o e=>hk b o (by simpa using bM (aW e)) (aV _ e),?_,q⟩
  show Value.bool _=Value.bool _
  rw[List.any_map];rfl
end
end L2
namespace M
section
variable {X:Cx}{e a b:Expr}{pos:Pos}{te ti:UE}
nonrec def cX1:List D->(B->Prop)->Prop:=g1 λd Q=>match d with
 | .tup l=>(match aK6 l with
  | some ns=>Q (.pu (.bl (ns.any (· != 0))))
  | none=>False)
 | _=>False
theorem cX2 (hc:X.calm=true):uN X (.builtin "any") cX1:=by
 intro A H ds vs Q0 Q hA r g k;obtain⟨d,v,rfl,rfl,rv,g⟩:=a16 g r;cases d with
 | tup l=>
  dsimp only at g;cases e:aK6 l with
  | none=>rw[e]at g;exact g.elim
  | some ns=>
   rw[e]at g;obtain⟨a,vs,rfl,c,rs⟩:=rv;rw[b31 e rs]at c;exact⟨_,cP9 hc,a,ns,rfl,c.imp cT id,k _ _ H g (.refl _) l9⟩
 | _=>exact(show False from g).elim
end
open PySem L2
section
variable {X:Cx}{es:List Expr}{t:UA}
structure WE (X:Cx)(e:Expr)(t:UE):Prop where
 out:PU X e t
theorem dE4 (h:WA X es t):WE X (.List es p) (fL t):=⟨cH h.out⟩
theorem wa_e {f:Expr}{o:Operator}{te:UE}(a:WE X (.BinOp e o f p) te)(h:WA X es t):WA X (.BinOp e o f p::es) (a8 te t):=⟨aE a.out h.out rfl⟩
theorem we_p {te:UE}(h:PU X e te):WE X e te:=⟨h⟩
theorem a91 {i:Int}{j}:WE X (.Constant (.int i) j p) (uC<|.int i):=⟨aD⟩
theorem aJ6 {op:Operator}{g:D->D->(B->Prop)->Prop}{a b:Expr}{ta tb:UE}(ho:OpU X (binaryOp op) g)(x:WE X a ta)(y:WE X b tb):WE X (.BinOp a op b p) (uOp g ta tb):=⟨aI ho x.out y.out⟩
theorem ws_ew {a b:Expr}{op:Operator}{q:Pos}{te:UE}{u:US}(h:WE X (.BinOp a op b q) te)(r:WS X sts u)(hN:X.N.Nodup)(hi:↥(X.N[i]? =some x))(hx:Loc X.env.scope x:=by walk_at "z")(hf:X.fn x=true\/X.env.scope.names.lookup x=some .local:=by walk_at "z")
  (hl: ∀pins σ H s,Inv X pins σ H s->i<σ.length:=by exact ilB rfl):WS X (.Assign [.Name x pos'] (.BinOp a op b q) pos::sts) (aU (bJ i te) u):=⟨bH (sC i hN hi hx h.out rfl hf hl) r.out⟩
end
end M
end
section
namespace L2
section
variable {X:Cx}
nonrec def rInsI:V->List V->Hp->VK->Prop:=λx vs H Q=> ∃(l:Addr) (xs:List V) (k:Nat) (y:V),x= .ref l/\vs=[.int (k:Int),y]/\H l=some (.lst xs)/\k<=xs.length/\xs.length<sizeLine/\Q .non (upd H l<|.lst (xs.take k++y::xs.drop k))
theorem dU0:MtM X "list.insert" rInsI:=by
 intro pins s σ H x vs v us Q I rx rv h;obtain⟨l,xs,k,y,rfl,rfl,hH,hk,hz,q⟩:=h;cases rx;obtain⟨u0,u,rfl,ru0,ru⟩:=rv.two;obtain⟨t,rfl⟩:=ru0;obtain⟨z,its,n,r,hl,e⟩:=I.lstM hH;have big:sizeLine<9223372036854775808:=ac
 have ff:Builtin.List.listFitsIndex (k:Int)=true:=by
  unfold Builtin.List.listFitsIndex;rw[cQ];exact⟨gH<|show(-9223372036854775808:Int)<=(k:Int)by omega,gH<|show(k:Int)<9223372036854775808 by omega⟩
 obtain⟨j,ej⟩: ∃j:Int,j=(k:Int):=⟨_,rfl⟩;rw[<-ej]at ff⊢;have m:=AutoSeq1.list_insert_list_int_val_1 l its.toArray n j t u (by rw[ff];exact cK) (by rw[bD,<-hl];exact z)
 refine j6 F.slot_list_insert ⟨_,e,rfl⟩ F.entry_list_insert (F.args_list_insert_3 _ _ _) m ⟨e,?_⟩
 refine⟨.non,_,I.lset (its':=its.take k++u::its.drop k) hH e ?_ ((r.take k).append<|.cons ru<|r.drop k) ?_,rfl,q⟩
 .have c:(if j<0 then(j+(its.toArray.size:Int)).toNat else min j.toNat its.toArray.size)=k:=by
   rw[a7 aa,bD,ej,bE]
   omega
  right;rw[c];apply Array.toList_inj.mp;simp;exact zN (by rw[nK];omega)
 .rw[cB,dP,nJ,nK];omega
end
end L2
namespace M
section
variable {X:Cx}{K:Frag}{C C':C0}{ρ ρ':Ev}{σ σ':L2.St}{H H' H0:Hp}{g g':GL}{r:Nat}{st:Stmt}{sts a:List Stmt}{c e:Expr}{pos:Pos}{t u ta:US}{te ti tj:UE}{tc:UT}
abbrev UQ:=Bool->US
def d30 (K:Frag)(C:C0)(r:Nat)(m:Bool)(ρ:Ev)(σ:L2.St)(H:Hp):Prop:=(m=true->cP6 K C r ρ σ H)/\(m=false->EOk K C ρ σ H)
theorem d30.out {m:Bool}(I:d30 K C r m ρ σ H):EOk K C ρ σ H:=by
 cases m with
 | true=>obtain⟨g,J⟩:=I.1 rfl;exact J.out
 | false=>exact I.2 rfl
theorem d30.same {m:Bool}(I:d30 K C r m ρ σ H)(s:gN H H'):d30 K C r m ρ σ H':=⟨λe=>by obtain⟨g,J⟩:=I.1 e;exact⟨g,J.same s⟩,λe=>(I.2 e).same s⟩
def lQ (K:Frag)(r:Nat)(t:UQ):TS:=λD σ H=> ∃m C ρ D0,d30 K C r m ρ σ H/\t m D0 ρ/\DOk K C D0 D
def cD5 (X:Cx)(r:Nat)(sts:List Stmt)(t:UQ):Prop:=PSs X sts (lQ X.K r t)
theorem dE5 {t:UQ}(h:cD5 X r sts t):PSs X sts (λD σ H=> ∃C ρ D0,cP6 X.K C r ρ σ H/\t true D0 ρ/\DOk X.K C D0 D):=
 qF h λD σ H ⟨C,ρ,D0,I,q,k⟩=>⟨true,C,ρ,D0,⟨λ_=>I,λe=>by cases e⟩,q,k⟩
theorem dU1 (h:qE X sts t):cD5 X r sts (λ_=>t):=qF h λD σ H ⟨m,C,ρ,D0,I,q,k⟩=>⟨C,ρ,D0,I.out,q,k⟩
def uQs (t:US)(u:UQ):UQ:=λm D ρ=>m=true/\t {D with nx:=u true D} ρ
theorem cQ0 {u:UQ}(h1:PUN X r st t)(h2:cD5 X r sts u):cD5 X r (st::sts) (uQs t u):=
 qF (l8 h1 h2) λD σ H ⟨m,C,ρ,D0,I,⟨e,h⟩,k⟩=>⟨C,ρ,{D0 with nx:=u true D0},I.1 e,h,⟨λρ' σ' H' q I'=>⟨true,C,ρ',D0,⟨λ_=>I',λe=>by cases e⟩,q,k⟩,k.rt⟩⟩
def uoN (c:UT)(t:US)(u:UQ):UQ:=λm D ρ=>c ρ λb _=>if b=true then m=true/\t {D with nx:=u true D} ρ else u m D ρ
theorem d31 {u:UQ}(hc:PUT X c tc)(ha:cP7 X r a ta)(h:cD5 X r sts u):cD5 X r (.If c a [] pos::sts) (uoN tc ta u):=
 qF (l8 (cA4 hc ha bC4) h) λD σ H ⟨m,C,ρ,D0,I,q,k⟩=>⟨C,ρ,_,I.out,q,λc ρ1 H1 q f s=>by
  have I1:=I.same s;cases c with
  | true=>
   exact⟨C,ρ,{D0 with nx:=u true D0},I1.1 q.1,q.2,⟨λρ' σ' H' q I'=>⟨true,C,ρ',D0,⟨λ_=>I',λe=>by cases e⟩,q,k⟩,k.rt⟩⟩
  | false=>
   exact⟨m,C,ρ,D0,I1,q,k⟩⟩
def uoP (c:UT)(t:US)(u:UQ):UQ:=λm D ρ=>c ρ λb _=>if b=true then t {D with nx:=u false D} ρ else u m D ρ
theorem d32 {u:UQ}(hc:PUT X c tc)(ha:qE X a ta)(h:cD5 X r sts u):cD5 X r (.If c a [] pos::sts) (uoP tc ta u):=
 qF (l8 (cA4 hc ha bC4) h) λD σ H ⟨m,C,ρ,D0,I,q,k⟩=>⟨C,ρ,_,I.out,q,λc ρ1 H1 q f s=>by
  have I1:=I.same s;cases c with
  | true=>
   exact⟨C,ρ,{D0 with nx:=u false D0},I1.out,q,⟨λρ' σ' H' q I'=>⟨false,C,ρ',D0,⟨λe=>(by cases e),λ_=>I'⟩,q,k⟩,k.rt,k.bk,k.ct⟩⟩
  | false=>
   exact⟨m,C,ρ,D0,I1,q,k⟩⟩
def dE6 (r:Nat)(ti:UE)(ta:UA):US:=λD ρ=>ti ρ λx _=> ∃(n:Nat) (ls:List (List Int)) (row:List Int),x= .pu (.int (n:Int))/\ρ[r]? =some (some<|.ow<|ls.map k8)/\ls[n]? =some row/\ta ρ λds _=> ∃j:Nat,ds=[.int (j:Int)]/\j<row.length/\j<2^60/\D.nx (ρ.set r<|some<|.ow<|(ls.set n<|row.eraseIdx j).map k8)
theorem aW3: ∀(l:List Int) (j:Nat),(l.map V.int).eraseIdx j=(l.eraseIdx j).map V.int
 | [],_=>rfl
 | _::_,0=>rfl
 | a::l,j+1=>fK (V.int a::·) (aW3 l j)
theorem dU2 {ta:UA}(hx:PE X (.Name x p) (yK r))(hi:PU X ix ti)(ha:PUA X [jx] ta)(hpi:a15 ix)
  (hbase:↥(attributeBase (.Subscript (.Name x p) ix p1) "pop" X.env (eval (.Subscript (.Name x p) ix p1) X.env)=eval (.Subscript (.Name x p) ix p1) X.env))
  (hfew:↥(((backTo cpos<|starEach [jx] X.env).all (λx=> !x.1)&&(backToKw cpos<|keywordEach [] X.env).all (λx=>x.1.isSome)
   &&decide ([jx].length+([]:List Keyword).length+(if([]:List Keyword).isEmpty then 0 else 1)<30))=true))
  (hline:↥((apos.endLine==cpos.line)=true)) (hs:↥(starEach [jx] X.env=(false,eval jx X.env)::starEach [] X.env)) (hplain:↥((backTo cpos<|starEach [] X.env).any (·.1)=false))
  (hw:↥(swapsWith (.Call (.Attribute (.Subscript (.Name x p) ix p1) "pop" apos) [jx] [] cpos) none pos.line X.env=pure false)) :
  PUN X r (.Expr (.Call (.Attribute (.Subscript (.Name x p) ix p1) "pop" apos) [jx] [] cpos) pos) (dE6 r ti ta):=
 mI (aH3 (cV8 zM PySem.F.slot_list_pop PySem.F.type_list_pop cB3 (cV6 bD0 hx hi hpi) ha hbase hfew hline hs hplain) hw) λD σ H ⟨C,ρ,D0,⟨g,I⟩,h,k⟩=>by
  obtain⟨Dn,vs,h1,h2,h3,h4⟩:=I.ok.ow r _ I.at_r;have ev:=qI h4;subst ev;refine⟨.ref Dn,h1,C,ρ,_,I.out,h,λx1 ρ2 w H2 q2 f2 s2 r2=> ?_⟩
  obtain⟨n,ls,row,rfl,hr,hrow,q2⟩:=q2;have hw:w= .int (n:Int):=bL (K:=X.K) (A:=Av C ρ2 σ) (H:=H2) r2;subst hw;have I2:=I.same s2;rw[I.sl]at hr;have el:=aW1 (B.ow.inj<|eG<|eG hr);subst el;obtain⟨b,hb⟩: ∃b,g[n]? =some (b,row):=by
   rw[aZ]at hrow;cases q:g[n]? with
   | none=>rw[q]at hrow;cases hrow
   | some p=>rw[q]at hrow;cases hrow;exact⟨p.1,rfl⟩
  have hin:=I2.inner (fX hb);refine⟨Dn,_,(n:Int),.ref b,rfl,rfl,SqL.of<|s2 _ _ h2,cG (by rw[aZ,hb];rfl),.inl ⟨rfl,_,SqL.of hin⟩,C,ρ,_,I2.out,q2,λds ρ3 us H3 q3 f3 s3 r3=> ?_⟩
  obtain⟨j,rfl,hj,hz,q3⟩:=q3;obtain⟨v0,vr,rfl,rk,rr⟩:=r3.uncons;have:=rr.unnil;subst this;have:=bL rk;subst this;have I3:=I2.same s3;refine⟨b,row.map V.int,(j:Int),j,.int row[j],rfl,rfl,I3.inner<|fX hb,aa,aa,?_,by rw[aZ,aS hj];rfl,k.nx _ _ _ q3 ⟨g.set n (b,row.eraseIdx j),?_⟩⟩
  .exact(bC8<|aH7 (by rw[aG];exact hj)).1
  have:=I3.setCell (l':=row.eraseIdx j) hb;rw[aW2<|g.set n (b,row.eraseIdx j),l7 (f:=Prod.snd),<-aW3]at this;exact this
def dE7 (r:Nat)(ti:UE)(ta:UA):US:=λD ρ=>ti ρ λx _=> ∃(n:Nat) (ls:List (List Int)) (row:List Int),x= .pu (.int (n:Int))/\ρ[r]? =some (some<|.ow<|ls.map k8)/\ls[n]? =some row/\ta ρ λds _=> ∃(j:Nat) (y:Int),ds=[.int (j:Int),.int y]/\j<=row.length/\row.length<sizeLine/\D.nx (ρ.set r<|some<|.ow<|(ls.set n (row.take j++y::row.drop j)).map k8)
theorem dU3 {ex:Expr}{ta:UA}(hx:PE X (.Name x p) (yK r))(hi:PU X ix ti)(ha:PUA X [jx,ex] ta)(hpi:a15 ix)
  (hbase:↥(attributeBase (.Subscript (.Name x p) ix p1) "insert" X.env (eval (.Subscript (.Name x p) ix p1) X.env)=eval (.Subscript (.Name x p) ix p1) X.env))
  (hfew:↥(((backTo cpos<|starEach [jx,ex] X.env).all (λx=> !x.1)&&(backToKw cpos<|keywordEach [] X.env).all (λx=>x.1.isSome)
   &&decide ([jx,ex].length+([]:List Keyword).length+(if([]:List Keyword).isEmpty then 0 else 1)<30))=true))
  (hline:↥((apos.endLine==cpos.line)=true)) (hs:↥(starEach [jx,ex] X.env=(false,eval jx X.env)::starEach [ex] X.env)) (hplain:↥((backTo cpos<|starEach [ex] X.env).any (·.1)=false))
  (hw:↥(swapsWith (.Call (.Attribute (.Subscript (.Name x p) ix p1) "insert" apos) [jx,ex] [] cpos) none pos.line X.env=pure false)) :
  PUN X r (.Expr (.Call (.Attribute (.Subscript (.Name x p) ix p1) "insert" apos) [jx,ex] [] cpos) pos) (dE7 r ti ta):=
 mI (aH3 (cV8 zM PySem.F.slot_list_insert PySem.F.type_list_insert dU0 (cV6 bD0 hx hi hpi) ha hbase hfew hline hs hplain) hw) λD σ H ⟨C,ρ,D0,⟨g,I⟩,h,k⟩=>by
  obtain⟨Dn,vs,h1,h2,h3,h4⟩:=I.ok.ow r _ I.at_r;have ev:=qI h4;subst ev;refine⟨.ref Dn,h1,C,ρ,_,I.out,h,λx1 ρ2 w H2 q2 f2 s2 r2=> ?_⟩
  obtain⟨n,ls,row,rfl,hr,hrow,q2⟩:=q2;have hw:w= .int (n:Int):=bL (K:=X.K) (A:=Av C ρ2 σ) (H:=H2) r2;subst hw;have I2:=I.same s2;rw[I.sl]at hr;have el:=aW1 (B.ow.inj<|eG<|eG hr);subst el;obtain⟨b,hb⟩: ∃b,g[n]? =some (b,row):=by
   rw[aZ]at hrow;cases q:g[n]? with
   | none=>rw[q]at hrow;cases hrow
   | some p=>rw[q]at hrow;cases hrow;exact⟨p.1,rfl⟩
  have hin:=I2.inner (fX hb);refine⟨Dn,_,(n:Int),.ref b,rfl,rfl,SqL.of<|s2 _ _ h2,cG (by rw[aZ,hb];rfl),.inl ⟨rfl,_,SqL.of hin⟩,C,ρ,_,I2.out,q2,λds ρ3 us H3 q3 f3 s3 r3=> ?_⟩
  obtain⟨j,y,rfl,hj,hz,q3⟩:=q3;obtain⟨v0,vr,rfl,rk,rr⟩:=r3.uncons;obtain⟨v1,wr,rfl,rd,rr'⟩:=rr.uncons;have:=rr'.unnil;subst this;have:=bL rk;subst this;have:=bL rd;subst this;have I3:=I2.same s3;refine⟨b,row.map V.int,j,.int y,rfl,rfl,I3.inner<|fX hb,by rw[aG];exact hj,by rw[aG];exact hz,k.nx _ _ _ q3 ⟨g.set n (b,row.take j++y::row.drop j),?_⟩⟩
  have:=I3.setCell (l':=row.take j++y::row.drop j) hb;rw[aW2<|g.set n (b,row.take j++y::row.drop j),l7 (f:=Prod.snd),bT,dY,j3,nP]at this;exact this
def dE8 (i:Nat)(ta:UA):US:=λD ρ=>jS ρ i λ_=>ta ρ λds ρ1=>match ds with
 | [.int k]=>jS ρ1 i λl=>0<=k/\k<l.length/\k<2^60/\D.nx (ρ1.set i<|some<|.ow<|l.eraseIdx k.toNat)
 | _=>False
theorem bX.erase {A:AS}: ∀{l:List D} {vs:List V} (_:bX K A H l vs) (j:Nat),bX K A H (l.eraseIdx j) (vs.eraseIdx j):=λ{l vs} h j=>by
 rw[tU,tU];exact(h.take _).append (h.drop _)
theorem dU4 {k:Expr}{ta:UA}(i:Nat)(hx:PE X (.Name x p) (yK i))(ha:PUA X [k] ta)
  (hbase:↥(attributeBase (.Name x p) "pop" X.env (eval (.Name x p) X.env)=eval (.Name x p) X.env))
  (hfew:↥(((backTo cpos<|starEach [k] X.env).all (λx=> !x.1)&&(backToKw cpos<|keywordEach [] X.env).all (λx=>x.1.isSome)
   &&decide ([k].length+([]:List Keyword).length+(if([]:List Keyword).isEmpty then 0 else 1)<30))=true))
  (hline:↥((apos.endLine==cpos.line)=true)) (hs:↥(starEach [k] X.env=(false,eval k X.env)::starEach [] X.env)) (hplain:↥((backTo cpos<|starEach [] X.env).any (·.1)=false))
  (hw:↥(swapsWith (.Call (.Attribute (.Name x p) "pop" apos) [k] [] cpos) none pos.line X.env=pure false)) :
  PUS X (.Expr (.Call (.Attribute (.Name x p) "pop" apos) [k] [] cpos) pos) (dE8 i ta):=
 mI (aH3 (cV8 zM PySem.F.slot_list_pop PySem.F.type_list_pop cB3 hx ha hbase hfew hline hs hplain) hw) λD σ H ⟨C,ρ,D0,I,h,q0⟩=>by
  obtain⟨l,hl,h⟩:=i9 h;obtain⟨a,vs,h1,h2,h3,h4⟩:=I.ow i l hl;refine⟨.ref a,h1,.inl ⟨rfl,vs,SqL.of h2⟩,C,ρ,_,I,h,λds ρ1 us H1 q f s r=> ?_⟩
  split at q
  .rename_i k
   obtain⟨v0,vr,rfl,rk,rr⟩:=r.uncons;have:=rr.unnil;subst this;have:=bL rk;subst this;obtain⟨l',hl',k0,k1,hz,q⟩:=i9 q;have e:=f.ow hl';rw[hl]at e;cases e;have I1:=(I.frz f).same s;obtain⟨a',vs',g1,g2,g3,g4⟩:=I1.ow i l hl';rw[h1]at g1;cases g1;have hn:k.toNat<vs'.length:=by rw[<-g4.length];omega
   have ek:k=((k.toNat:Nat):Int):=aa
   refine⟨a,vs',k,k.toNat,vs'[k.toNat],rfl,rfl,g2,aa,aa,?_,aS hn,q0.nx _ _ _ q ?_⟩
   .have:=(bC8<|aH7 hn).1;rw[<-ek]at this;exact this
   .exact I1.write hl' h1 (g4.erase _)
  .exact q.elim
def c32 (i:Nat)(ti:UE)(u:UGs):UGs:=λds ρ Q=>match ds with
 | d::ds'=>jS ρ i λ_=>ti ρ λj ρ2=> ∃n:Nat,j= .pu (.int (n:Int))/\jS ρ2 i λl=>n<l.length/\u ds' (ρ2.set i<|some<|.ow<|l.set n d) Q
 | []=>False
theorem cD6 {u:UGs}(i:Nat)(hx:PE X (.Name x p) (yK i))(hi:PU X ix ti)(h2:cB9 X es T u)
  (ha: ∀v,assign (.Subscript (.Name x p) ix tpos) X.env v=(do
   let ov<-holding [v] (eval (.Name x p) X.env)
   let iv<-holding [v,ov] (eval ix X.env)
   standAt tpos
   holding [v,ov,iv] (setItem ov iv v)
   release [v,ov,iv] []):=by intro _;rfl)
  (hs:↥((assignEach (.Subscript (.Name x p) ix tpos::es) X.env).map (·.2)=assign (.Subscript (.Name x p) ix tpos) X.env::(assignEach es X.env).map (·.2))):cB9 X (.Subscript (.Name x p) ix tpos::es) T (c32 i ti u):=
 c21 (cA5 (cL5 hx hi aV4 ha) h2 hs) λvs σ H Q z=>by
  obtain⟨C,ρ,ds,Q0,I,r,g,k⟩:=z;cases ds with
  | nil=>exact(show False from g).elim
  | cons d dr=>
   obtain⟨l,hl,g⟩:=i9 g;obtain⟨v,vr,rfl,rv,rr⟩:=r.uncons;obtain⟨a,vs,h1,h2,h3,h4⟩:=I.ow i l hl;refine⟨v,vr,rfl,.ref a,h1,C,ρ,_,I,g,λj ρ2 w H2 q2 f2 s2 r2=> ?_⟩
   obtain⟨n,rfl,q2⟩:=q2;obtain⟨l',hl',hn,q2⟩:=i9 q2;have e:=f2.ow hl';rw[hl]at e;cases e;have I2:=(I.frz f2).same s2;obtain⟨a',vs',g1,g2,g3,g4⟩:=I2.ow i l hl';rw[h1]at g1;cases g1;have hw:w= .int (n:Int):=bL (K:=X.K) (A:=Av C ρ2 σ) (H:=H2) r2;subst hw;have md: ∀b,Av C ρ2 σ b->Av C ρ σ b:=λb=>f2.av
   refine⟨a,vs',(n:Int),n,rfl,rfl,g2,aH7 (by rw[<-g4.length];exact hn),?_⟩
   have W:=I2.write hl' h1 (g4.set n<|rv.mono<|.sub s2 md);exact⟨C,_,dr,Q0,W,((rr.mono<|.sub s2 md).mono<|.upd<|.inr ⟨i,l,hl',h1⟩).mono (.sub (.refl _) λb z=>by
    rcases z with z| ⟨jj,l2,z1,z2⟩
    .exact .inl z
    .rcases aX z1 with⟨rfl,_,_⟩| ⟨_,z3⟩
     .exact .inr ⟨_,l,hl',z2⟩
     .exact .inr ⟨_,l2,z3,z2⟩),q2,k⟩
def dE9 (n:Nat)(u:UGs):UGs:=λds ρ Q=>ds.length=n/\u ds ρ Q
theorem dU5 {u:UGs}(n:Nat)(h:cB9 X es T u):cB9 X es T (dE9 n u):=c21 h λvs σ H Q z=>by
 obtain⟨C,ρ,ds,Q0,I,r,g,k⟩:=z;exact⟨C,ρ,ds,Q0,I,r,g.2,k⟩
end
end M
end
namespace L2
def Calm (f:Obj->Obj):Prop:= ∀o,(f o).dict=o.dict/\(o.isFreed=false->(f o).isFreed=false)
def pA {α:Type}:Sem α->Prop
 | .pure _=>True
 | .raise _=>True
 | .unsupported _=>True
 | .finish _=>True
 | .rule _ k=>pA (k ())
 | .at _ k=>pA (k ())
 | .load _ _ k=> ∀o,pA (k o)
 | .update _ _ f k=>Calm f/\pA (k ())
 | .alloc _ k=> ∀a,pA (k a)
 | .loadIfAlive _ k=> ∀o,pA (k o)
 | .point _ k=>pA (k ())
 | .register _ _=>True
 | .stack k=> ∀l,pA (k l)
 | _=>False
def DK (h h':Heap):Prop:= ∀b o,h.get? b=some o-> ∃o',h'.get? b=some o'/\o'.dict=o.dict
theorem DK.refl (h:Heap):DK h h:=λb o q=>⟨o,q,rfl⟩
theorem DK.trans {h'':Heap}(a:DK h h')(b:DK h' h''):DK h h'':=λc o q=>by
 obtain⟨o',q',e⟩:=a c o q;obtain⟨o'',q'',e'⟩:=b c o' q';exact⟨o'',q'',e'.trans e⟩
theorem DK.update {f:Obj->Obj}(c:Calm f):DK h (h.update a f):=λb o q=>by
 by_cases e:a=b
 .subst e;exact⟨f o,pK f q<|(c o).2 (Heap.get?_some_iff.mp q).2,(c o).1⟩
 .exact⟨o,(aO1 _ _ e).trans q,rfl⟩
theorem dU6 {α:Type}{M:Model}{Γ:PySem.Ctx}: ∀{t:Sem α} {Q:α->Pos->Shared->Prop} {E:Value->Pos->Shared->Prop} {p:Pos} {s:Shared},pA t->Sem.wp M Γ t Q E p s->Sem.wp M Γ t (λa p' s'=>Q a p' s'/\DK s.heap s'.heap) (λe p' s'=>E e p' s'/\DK s.heap s'.heap) p s:=by
 intro t
 induction t with
 | pure a=>intro Q E p s _ h;exact⟨h,.refl _⟩
 | raise e=>intro Q E p s _ h;exact⟨h,.refl _⟩
 | rule _ k ih=>intro Q E p s t h;exact ih () t h
 | «at» _ k ih=>intro Q E p s t h;exact ih () t h
 | load a _ k ih=>intro Q E p s t ⟨o,q,h⟩;exact⟨o,q,ih o (t o) h⟩
 | update a _ f k ih=>
  intro Q E p s t ⟨q,h⟩;refine⟨q,?_⟩;have:=ih () t.2 h;exact Sem.wp_mono _ _ _ (λa p' s' z=>⟨z.1,(DK.update t.1).trans z.2⟩) (λa p' s' z=>⟨z.1,(DK.update t.1).trans z.2⟩) _ _ this
 | alloc o k ih=>
  intro Q E p s t h;have:=ih _ (t _) h;have pu:DK s.heap (s.heap.push o):=λb o' q=>⟨o',aV _ q,rfl⟩
  exact Sem.wp_mono _ _ _ (λa p' s' z=>⟨z.1,pu.trans z.2⟩) (λa p' s' z=>⟨z.1,pu.trans z.2⟩) _ _ this
 | loadIfAlive a k ih=>intro Q E p s t h;exact ih _ (t _) h
 | point _ k ih=>intro Q E p s t h;exact ih () t h
 | stack k ih=>intro Q E p s t h;exact ih _ (t _) h
 | unsupported _=>intro Q E p s _ h;exact h.elim
 | finish _=>intro Q E p s _ h;exact h.elim
 | register _ _=>intro Q E p s _ h;exact h.elim
 | _=>intro Q E p s t h;exact False.elim t
theorem cW {α β:Type}{f:α->Sem β}: ∀{t:Sem α},pA t->(∀a,pA<|f a)->pA (t.bind f):=by
 intro t
 induction t with
 | pure a=>intro _ h;exact h a
 | raise e=>intro _ _;exact trivial
 | unsupported _=>intro _ _;exact trivial
 | finish _=>intro _ _;exact trivial
 | rule _ k ih=>intro t h;exact ih () t h
 | «at» _ k ih=>intro t h;exact ih () t h
 | load a _ k ih=>intro t h o;exact ih o (t o) h
 | update a _ f k ih=>intro t h;exact⟨t.1,ih () t.2 h⟩
 | alloc o k ih=>intro t h a;exact ih a (t a) h
 | loadIfAlive a k ih=>intro t h o;exact ih o (t o) h
 | point _ k ih=>intro t h;exact ih () t h
 | register _ _=>intro _ _;exact trivial
 | stack k ih=>intro t h l;exact ih l (t l) h
 | _=>intro t _;exact False.elim t
theorem a20 {α:Type}{M:Model}{t:Sem α}{Q:α->Shared->Prop}(c:pA t)(h:wpAny M A t Q E s):wpAny M A t (λa s'=>Q a s'/\DK s.heap s'.heap) (λe s'=>E e s'/\DK s.heap s'.heap) s:=λΓ p hin=>dU6 c (h Γ p hin)
theorem bW3 {part:Option Value}:pA (loadPart a part):=λ_=>trivial
theorem cD7 (v:Value):pA (fieldsOf v):=by
 unfold fieldsOf;split
 .refine cW bW3 λo=> ?_
  split<;>exact trivial
 .exact trivial
theorem a21 (v:Value)(i:Nat):pA (PySem.field v i):=cW (cD7 v) λvs=>by
 split<;>exact trivial
theorem cD8 (f:Array Value->Array Value):Calm (Obj.mapFields f):=λo=>by
 obtain⟨c,d,dt,sl⟩:=o;cases dt<;>exact⟨rfl,λh=>h⟩
theorem wP (v:Value)(i:Nat)(x:Value):pA (setField v i x):=by
 unfold setField;split
 .unfold updateField;refine cW bW3 λo=> ?_
  split
  .split
   .exact⟨cD8 _,trivial⟩
   .exact trivial
  .exact trivial
 .exact trivial
theorem aB1 (e:Value)(f:Option Addr):pA (setFlight e f):=cW (a21 _ _) λtb=>by
 split
 .exact wP _ _ _
 .exact trivial
theorem aR8:pA stack:=λ_=>trivial
theorem cQ1 (f:Addr)(b:Bool):pA (entryPlaceOf f b):=cW aR8 λl=>by
 split<;>exact trivial
theorem dF0 (cls:Value)(data:Data)(d:Option Addr):pA (newObj cls data d):=by
 have as:pA (newObjAsIs cls data d):=by
  refine cW (λ_=>trivial) λa=> ?_
  split
  .refine cW ?_ λb=> ?_
   .unfold classHasDel;refine cW (λ_=>trivial) λo=> ?_
    split<;>exact trivial
   .split<;>exact trivial
  .exact trivial
 unfold newObj;split<;>first|exact as| (split<;>first|exact as|exact trivial| (refine cW trivial λ_=>as))
theorem cQ2 (a b c d e:Value)(pl:List Value):pA (EntryCells.newEntry a b c d e pl):=by
 unfold EntryCells.newEntry newFields;exact dF0 _ _ _
theorem bH2: ∀l:List Env,pA (readyFrames l)
 | []=>trivial
 | env::outer=>by
  unfold readyFrames;split
  .refine cW (λ_=>trivial) λo=> ?_
   split
   .exact trivial
   .refine cW ?_ λb=> ?_
    .unfold behindIsImport;split
     .exact trivial
     .split
      .exact trivial
      .exact cW (a21 _ _) λ_=>trivial
    .refine cW ?_ λv=> ?_
     .unfold keptBack;split
      .split
       .exact trivial
       .exact cW (cW aR8 λ_=>trivial) λ_=>trivial
      .exact trivial
     .exact⟨λo=>⟨rfl,λh=>by obtain⟨c,d,dt,sl⟩:=o;cases dt<;>exact h⟩,bH2 outer⟩
  .exact trivial
theorem cQ3 (env:Env):pA (PySem.frameOf env):=by
 refine cW (cW aR8 λ_=>trivial) λl=>cW ?_ λo=> ?_
 .unfold frameObject;split
  .exact trivial
  .exact cW (bH2 _) λ_=>trivial
 .split<;>exact trivial
theorem bW4 (e:Value)(env:Env):pA (noteFrame e env):=by
 have last: ∀h f,pA (do setField e 1 (<-EntryCells.newEntry h (<-PySem.frameOf env) .none (rawInt f) .none (<-entryPlaceOf f (h != .none)))):=λh f=>
  cW (cQ3 env) λa=>cW (cQ1 _ _) λb=>cW (cQ2 _ _ _ _ _ _) λc=>wP _ _ _
 unfold noteFrame;split
 .refine cW (a21 _ _) λh=> ?_
  split
  .refine cW (a21 _ _) λx=> ?_
   split
   .exact trivial
   .exact cW (wP _ _ _) λ_=>last _ _
  .exact last _ _
 .exact trivial
theorem aW4 (env:Env)(e:Value):pA (leaving env e):=cW (bW4 e env) λ_=>aB1 e none
def Tr (h:Heap)(e T:Addr):Prop:= ∃oe vs,h.get? e=some oe/\oe.data= .fields vs/\vs[1]? =some (.ref T)
theorem Tr.one {e T T':Addr}(a:Tr h e T)(b:Tr h e T'):T=T':=by
 obtain⟨o,vs,h1,h2,h3⟩:=a;obtain⟨o',vs',g1,g2,g3⟩:=b;rw[h1]at g1;cases g1;rw[h2]at g2;cases g2;rw[h3]at g3;cases g3;rfl
structure aL0 (fs:List Addr)(e:Addr)(h h':Heap):Prop where
 keep: ∀b o,h.get? b=some o->b ∉ fs->b≠e-> ¬Tr h e b->h'.get? b=some o
 slot:h.UpToSlots h'
 tr: ∀T,Tr h' e T->T∈fs\/T=e\/Tr h e T\/h.get? T=none
 rcd: ∀T,Tr h' e T-> ∃o vs,h'.get? T=some o/\o.data= .fields vs
structure bQ6 (fs:List Addr)(e:Addr)(h h':Heap):Prop extends aL0 fs e h h' where
 dk:DK h h'
theorem c33 {e:Addr}{cls a0:Value}(t:h.TracedAtW base e cls a0 fl): ∃T,Tr h e T/\base.get? T=none/\T≠e/\ ∃o vs,h.get? T=some o/\o.data= .fields vs:=by
 obtain⟨oe,vs,T,oT,ts,he,_,hd,h1,hb,hne,hT,hdT,_⟩:=t;exact⟨T,⟨oe,vs,he,hd,h1⟩,hb,hne,oT,ts,hT,hdT⟩
theorem qJ {B:Heap}{e T:Addr}{cls a0:Value}(t:h.TracedAtW base e cls a0 fl)(x:Tr h e T)(hn:B.get? T=none):h.TracedAtW B e cls a0 fl:=by
 obtain⟨oe,vs,T',oT,ts,he,hc,hd,h1,hb,hne,hT,hdT,h3⟩:=t;obtain rfl:=x.one ⟨oe,vs,he,hd,h1⟩;exact⟨oe,vs,T,oT,ts,he,hc,hd,h1,hn,hne,hT,hdT,h3⟩
section
variable {base h:Heap}{l:List Env}{e T:Addr}{cls a0 fl:Value}
nonrec def hid (h:Heap)(l:List Env)(e T:Addr):Heap:=PySem.W.hideAll h (frs l++[e,T])
theorem yN (hb:b∈frs l\/b=e\/b=T):(hid h l e T).get? b=none:=PySem.W.hideAll_none _ (by
 rcases hb with z|z|z
 .exact cR.mpr (.inl z)
 .exact cR.mpr (.inr<|by simp[z])
 .exact cR.mpr (.inr<|by simp[z]))
theorem aW5 (q:h.get? b=some o)(h1:b ∉ frs l)(h2:b≠e)(h3:b≠T):(hid h l e T).get? b=some o:=PySem.W.hideAll_get _ q (by
 intro z;rcases cR.mp z with z|z
 .exact h1 z
 .simp at z
  exact z.elim h2 h3)
theorem a22 (f:h.FunFrames base l):h.FunFrames (hid h l e T) l:=PySem.W.funFrames_hide f λenv he b hb=>cR.mpr (.inl<|aP4.mpr ⟨env,he,hb⟩)
theorem aH8 (st:base.StaysIn h)(f:h.FunFrames base l)(he:base.get? e=none)(hT:base.get? T=none):base.StaysIn (hid h l e T):=λb o q=>aW5 (st b o q) (λz=>by rw[(f.mem z).1]at q;cases q) (λz=>by rw[z,he]at q;cases q) λz=>by rw[z,hT]at q;cases q
theorem yO {B h':Heap}(st:base.StaysIn B): ∀{l:List Env},h'.FunFrames B l->h'.FunFrames base l
 | [],_=>trivial
 | env::_,⟨hk,⟨L,o,hf,hn,ho,hd⟩,hr⟩=>⟨hk,⟨L,o,hf,(by
   cases q:base.get? L with
   | none=>rfl
   | some u=>have:=st L u q;rw[hn]at this;cases this),ho,hd⟩,yO st hr⟩
theorem bD6 {B:Heap}(st:base.StaysIn B)(q:B.get? b=none):base.get? b=none:=by
 cases z:base.get? b with
 | none=>rfl
 | some u=>have:=st b u z;rw[q]at this;cases this
theorem c34 {l':List Env}(x:Tr h e T)(st:(hid h l e T).StaysIn h')(t:h'.TracedAtW (hid h l e T) e cls a0 fl)(up:h.UpToSlots h'):aL0 (frs l) e h h':=by
 refine⟨λb o q h1 h2 h3=>st b o (aW5 q h1 h2 λz=>h3 (by rw[z];exact x)),up,λT' x'=> ?_,λT' x'=> ?_⟩
 .obtain⟨T2,y,hn,_,_⟩:=c33 t;obtain rfl:=x'.one y
  by_cases c1:T'∈frs l
  .exact .inl c1
  by_cases c2:T'=e
  .exact .inr (.inl c2)
  by_cases c3:T'=T
  .exact .inr (.inr<|.inl (by rw[c3];exact x))
  refine .inr (.inr<|.inr ?_)
  cases q:h.get? T' with
  | none=>rfl
  | some o=>rw[aW5 q c1 c2 c3]at hn;cases hn
 .obtain⟨T2,y,_,_,z⟩:=c33 t;obtain rfl:=x'.one y;exact z
end
section
variable {M:Model}{A:Around}{E:Value->Shared->Prop}{s:Shared}{base:Heap}{env:Env}{outer:List Env}{L e:Addr}{cls a0:Value}{Q:Unit->Shared->Prop}
theorem cQ4 (hfr:A.frames=some (env::outer))(hf:env.frame=some L)(F:FlyingW base (env::outer) e cls a0 s.heap)
  (hQ: ∀h',FlyingW base outer e cls a0 h'->aL0 (frs (env::outer)) e s.heap h'->Q () {s with heap:=h'}):wpAny M A (leaving env<|.ref e) Q E s:=by
 obtain⟨f1,f2,f3,f4⟩:=F;obtain⟨T,x,hT,_,_⟩:=c33 f4;have stB:=aH8 f1 f3 f2 hT;refine wpAny_leaves_onW hfr hf ⟨λb o q=>u7 _ q,yN<|.inr<|.inl rfl,a22 f3,qJ f4 x<|yN<|.inr<|.inr rfl⟩ λh' F' up=> ?_
 obtain⟨g1,g2,g3,g4⟩:=F';obtain⟨T',x',hT',_,_⟩:=c33 g4;exact hQ h' ⟨λb o q=>g1 b o (stB b o q),f2,yO stB g3,qJ g4 x'<|bD6 stB hT'⟩ (c34 (l':=outer) x g1 g4 up)
theorem d33 (hfr:A.frames=some (env::outer))(hf:env.frame=some L)(F:FlyingW base (env::outer) e cls a0 s.heap)
  (hQ: ∀h',HeldW base (env::outer) e cls a0 L h'->aL0 (frs (env::outer)) e s.heap h'->Q () {s with heap:=h'}):wpAny M A (noteFrame (.ref e) env) Q E s:=by
 obtain⟨f1,f2,f3,f4⟩:=F;obtain⟨T,x,hT,_,_⟩:=c33 f4;have stB:=aH8 f1 f3 f2 hT;refine wpAny_looks_onW hfr hf ⟨λb o q=>u7 _ q,yN<|.inr<|.inl rfl,a22 f3,qJ f4 x<|yN<|.inr<|.inr rfl⟩ λh' F' up=> ?_
 obtain⟨g1,g2,g3,g4⟩:=F';obtain⟨T',x',hT',_,_⟩:=c33 g4;exact hQ h' ⟨λb o q=>g1 b o (stB b o q),f2,yO stB g3,qJ g4 x'<|bD6 stB hT'⟩ (c34 (l':=outer) x g1 g4 up)
theorem d34 {l:List Env}(F:base.StaysIn s.heap/\base.get? e=none/\s.heap.FunFrames base l/\s.heap.TracedAtW base e cls a0 fl)
  (hQ: ∀h',FlyingW base l e cls a0 h'->aL0 (frs l) e s.heap h'->Q () {s with heap:=h'}):wpAny M A (setFlight (.ref e) none) Q E s:=by
 obtain⟨f1,f2,f3,f4⟩:=F;obtain⟨T,x,hT,_,_⟩:=c33 f4;have stB:=aH8 f1 f3 f2 hT;refine wpAny_setFlight_noneW (base:=hid s.heap l e T) (λb o q=>u7 _ q) (a22 f3) (qJ f4 x<|yN<|.inr<|.inr rfl) λh' g1 g3 g4 up=> ?_
 obtain⟨T',x',hT',_,_⟩:=c33 g4;exact hQ h' ⟨λb o q=>g1 b o (stB b o q),f2,yO stB g3,qJ g4 x'<|bD6 stB hT'⟩ (c34 (l':=l) x g1 g4 λb o q n=>⟨o.slots,up b o q n⟩)
theorem c35 (hfr:A.frames=some (env::outer))(hl:s.heap.FunFrames base (env::outer))(hf:env.frame=some L)(he:s.heap.get? e=some oe)(hkb:base.StaysIn s.heap)(hen:base.get? e=none)(hd:oe.data= .fields vs)(h1:vs[1]? =some .none)(h0:vs[0]? =some a0)
  (hQ: ∀h',FlyingW base outer e oe.cls a0 h'->aL0 (frs (env::outer)) e s.heap h'->Q () {s with heap:=h'}):wpAny M A (leaving env<|.ref e) Q E s:=by
 have stB:=aH8 (e:=e) (T:=e) hkb hl hen hen;have nt: ∀T,¬Tr s.heap e T:=by
  rintro T ⟨o,ws,k1,k2,k3⟩;rw[he]at k1;cases k1;rw[hd]at k2;cases k2;rw[h1]at k3;cases k3
 refine wpAny_leaving_firstW (base:=hid s.heap (env::outer) e e) hfr (a22 hl) hf he (λb o q=>u7 _ q) (yN<|.inr<|.inl rfl) hd h1 h0 λh' F'=> ?_
 obtain⟨g1,⟨_,_,g3⟩,g4,up⟩:=F';obtain⟨T',x',hT',hne,hrec⟩:=c33 (fl:= .none) g4;refine hQ h' ⟨λb o q=>g1 b o (stB b o q),hen,yO stB g3,qJ (fl:= .none) g4 x'<|bD6 stB hT'⟩ ⟨λb o q k1 k2 _=>g1 b o (aW5 q k1 k2 k2),up,λT x2=> ?_,λT x2=> ?_⟩
 .obtain rfl:=x2.one x'
  by_cases c1:T∈frs (env::outer)
  .exact .inl c1
  refine .inr (.inr<|.inr ?_)
  cases q:s.heap.get? T with
  | none=>rfl
  | some o=>rw[aW5 q c1 hne hne]at hT';cases hT'
 .obtain rfl:=x2.one x';exact hrec
theorem d35 (hfr:A.frames=some (env::outer))(hf:env.frame=some L)(F:FlyingW base (env::outer) e cls a0 s.heap)
  (hQ: ∀h',FlyingW base outer e cls a0 h'->bQ6 (frs (env::outer)) e s.heap h'->Q () {s with heap:=h'}):wpAny M A (leaving env<|.ref e) Q E s:=
 bW (a20 (aW4 env<|.ref e)<|cQ4 (Q:=λ_ s'=> ∃h',s'={s with heap:=h'}/\FlyingW base outer e cls a0 h'/\aL0 (frs (env::outer)) e s.heap h') hfr hf F λh' a b=>⟨h',rfl,a,b⟩) (λ_ s' ⟨⟨h',q,a,b⟩,dk⟩=>by subst q;exact hQ h' a ⟨b,dk⟩) λ_ _ z=>z.1
theorem dF1 (hfr:A.frames=some (env::outer))(hf:env.frame=some L)(F:FlyingW base (env::outer) e cls a0 s.heap)
  (hQ: ∀h',HeldW base (env::outer) e cls a0 L h'->bQ6 (frs (env::outer)) e s.heap h'->Q () {s with heap:=h'}):wpAny M A (noteFrame (.ref e) env) Q E s:=
 bW (a20 (bW4 (.ref e) env)<|d33 (Q:=λ_ s'=> ∃h',s'={s with heap:=h'}/\HeldW base (env::outer) e cls a0 L h'/\aL0 (frs (env::outer)) e s.heap h') hfr hf F λh' a b=>⟨h',rfl,a,b⟩) (λ_ s' ⟨⟨h',q,a,b⟩,dk⟩=>by subst q;exact hQ h' a ⟨b,dk⟩) λ_ _ z=>z.1
theorem cD9 {l:List Env}(F:base.StaysIn s.heap/\base.get? e=none/\s.heap.FunFrames base l/\s.heap.TracedAtW base e cls a0 fl)
  (hQ: ∀h',FlyingW base l e cls a0 h'->bQ6 (frs l) e s.heap h'->Q () {s with heap:=h'}):wpAny M A (setFlight (.ref e) none) Q E s:=
 bW (a20 (aB1 (.ref e) none)<|d34 (Q:=λ_ s'=> ∃h',s'={s with heap:=h'}/\FlyingW base l e cls a0 h'/\aL0 (frs l) e s.heap h') F λh' a b=>⟨h',rfl,a,b⟩) (λ_ s' ⟨⟨h',q,a,b⟩,dk⟩=>by subst q;exact hQ h' a ⟨b,dk⟩) λ_ _ z=>z.1
theorem cE0 (hfr:A.frames=some (env::outer))(hl:s.heap.FunFrames base (env::outer))(hf:env.frame=some L)(he:s.heap.get? e=some oe)(hkb:base.StaysIn s.heap)(hen:base.get? e=none)(hd:oe.data= .fields vs)(h1:vs[1]? =some .none)(h0:vs[0]? =some a0)
  (hQ: ∀h',FlyingW base outer e oe.cls a0 h'->bQ6 (frs (env::outer)) e s.heap h'->Q () {s with heap:=h'}):wpAny M A (leaving env<|.ref e) Q E s:=
 bW (a20 (aW4 env<|.ref e)<|c35 (Q:=λ_ s'=> ∃h',s'={s with heap:=h'}/\FlyingW base outer e oe.cls a0 h'/\aL0 (frs (env::outer)) e s.heap h') hfr hl hf he hkb hen hd h1 h0 λh' a b=>⟨h',rfl,a,b⟩) (λ_ s' ⟨⟨h',q,a,b⟩,dk⟩=>by subst q;exact hQ h' a ⟨b,dk⟩) λ_ _ z=>z.1
end
structure Fly (base:Heap)(l:List Env)(e C:Addr)(H:Hp)(h:Heap):Prop where
 fl: ∃a0,FlyingW base l e (.ref C) a0 h
 he:H e=none
 ht: ∀T,Tr h e T->H T=none
structure bW5 (g:Heap)(e:Addr)(h:Heap):Prop where
 he:g.get? e=none
 ht: ∀T,Tr h e T->g.get? T=none
def XAt (h:Heap)(a:Addr)(o:Option Addr):Prop:= ∀d,o=some d-> ∃oe,h.get? a=some oe/\oe.dict=some d
theorem XAt.dk {o:Option Addr}(x:XAt h a o)(k:DK h h'):XAt h' a o:=λd q=>by
 obtain⟨oe,e1,e2⟩:=x d q;obtain⟨o',e3,e4⟩:=k a oe e1;exact⟨o',e3,e4.trans e2⟩
nonrec def CXr (P:Program)(w:World)(base:Heap):CXT:=λouter H s E e s'=> ∃a C o H',e= .ref a/\s'.os=s.os/\AllBare s'.gens/\Un (frs outer) [] H H' s.heap s'.heap/\HOk P w H' s'.heap/\Fly base outer a C H' s'.heap/\bW5 s.heap a s'.heap/\XAt s'.heap a o/\E (.ref C) o H'
section
variable {P:Program}{w:World}{H H0:Hp}{h h':Heap}{fs:List Addr}{e:Addr}
theorem HOk.past (x:HOk P w H h)(p:bQ6 fs e h h')(hf: ∀b∈fs,H b=none)(he:H e=none)(ht: ∀T,Tr h e T->H T=none):HOk P w H h':=λa o q=>
 (x a o q).stay (λb u hb r=>by
  have tracked:H b≠none:=by
   rcases hb with rfl|hb
   .rw[q];simp
   .rw[hb];simp
  exact p.keep b u r (λz=>tracked (hf b z)) (λz=>tracked (by rw[z];exact he)) λz=>tracked (ht b z)) (λ_ q=>q) λ_ _ q=>q
theorem HOk.there (x:HOk P w H h)(n:h.get? b=none):H b=none:=by
 cases q:H b with
 | none=>rfl
 | some o=>
  have hh: ∃ob,h.get? b=some ob:=by
   have y:=x b o q;cases o with
   | lst xs=>obtain⟨_,_,_,_,e⟩:=y;exact⟨_,e⟩
   | tup xs=>obtain⟨_,_,_,ob,e,_⟩:=y;exact⟨_,e⟩
   | dK kvs=>obtain⟨_,_,_,_,o,_,_,e,_⟩:=y;exact⟨_,e⟩
   | dT kvs=>obtain⟨_,_,_,_,o,_,_,e,_⟩:=y;exact⟨_,e⟩
   | set S n=>obtain⟨o,_,_,_,e,_⟩:=y;exact⟨_,e⟩
   | ins C dx fs=>obtain⟨_,_,_,e,_⟩:=y;exact⟨_,e⟩
   | own y'=>exact y
   | xd fs=>obtain⟨_,⟨_,_,_,e,_⟩,_⟩:=y;exact⟨_,e⟩
   | rng lo hi=>obtain⟨_,_,_,e⟩:=y;exact⟨_,e⟩
   | frz ob u=>obtain⟨e,_⟩:=y;exact⟨_,e⟩
   | tbl ps=>exact⟨_,(show h.get? b=some _ from y)⟩
   | met f y'=>exact⟨_,(show h.get? b=some _ from y)⟩
   | ext φ=>obtain⟨_,e,_⟩:=y;exact e
  obtain⟨ob,e⟩:=hh;rw[n]at e;cases e
theorem bD7 (x:HOk P w H h)(p:bQ6 fs e h h')(hf: ∀b∈fs,H b=none)(he:H e=none)(ht: ∀T,Tr h e T->H T=none): ∀T,Tr h' e T->H T=none:=λT q=>by
 rcases p.tr T q with z|z|z|z
 .exact hf T z
 .rw[z];exact he
 .exact ht T z
 .exact x.there z
end
section
variable {X:Cx}{pins:List (Addr×Obj)}{σ:St}{H:Hp}{s:Shared}{h':Heap}{e:Addr}
theorem Un.past {fs fs':List Addr}{H0:Hp}{L:Addr}(u:Un fs [] H0 H g s.heap)(p:bQ6 fs' e s.heap h')(hfs: ∀b∈fs',b=L\/b∈fs)(hL:g.get? L=none)(ne:g.get? e=none)(nt: ∀T,Tr s.heap e T->g.get? T=none)(hd: ∀b∈fs,∀o,s.heap.get? b=some o-> ∀vs,o.data≠ .fields vs):Un fs [] H0 H g h' where
 keep:=λb o q n hb hx=>p.keep b o (u.keep b o q n hb hx) (λz=>by
  rcases hfs b z with z|z
  .rw[z,hL]at q;cases q
  .exact hb z) (λz=>by rw[z,ne]at q;cases q) λz=>by rw[nt b z]at q;cases q
 slot:=λb o q n hb hx=>by
  obtain⟨sl,e1⟩:=u.slot b o q n hb hx;obtain⟨sl',e2⟩:=p.slot b _ e1 (hd b hb _ e1);exact⟨sl',e2⟩
 free:=u.free
 there:=λb o q hx=>by
  obtain⟨o',e1⟩:=u.there b o q hx
  by_cases c:b∈fs
  .obtain⟨sl,e2⟩:=p.slot b _ e1 (hd b c _ e1);exact⟨_,e2⟩
  .exact⟨o',p.keep b o' e1 (λz=>by
    rcases hfs b z with z|z
    .rw[z,hL]at q;cases q
    .exact c z) (λz=>by rw[z,ne]at q;cases q) λz=>by rw[nt b z]at q;cases q⟩
 tups:=u.tups
 frzs:=u.frzs
 tbls:=u.tbls
end
section
variable {P:Program}{w:World}{K:Frag}{mg:Str->Option Value}{base:Heap}{N:List Str}{qual:Str}{scope:Scope}{f:Addr}{cd:Value}{A:Around}{outer:List Env}{s0:Shared}{H0:Hp}{E:XK}{CX:CXT}
theorem dF2 {σ:St}{H:Hp}{o:Option Addr}(I:Inv (vQ (CXr P w base) P w K mg base N qual scope f cd A outer s0 H0 E) pins σ H s')(F:Fly base (envOfC qual scope s0.heap.objs.size f cd::outer) a C H s'.heap)(nw:bW5 s0.heap a s'.heap)(xa:XAt s'.heap a o)(hE:E (.ref C) o H) :
  (vQ (CXr P w base) P w K mg base N qual scope f cd A outer s0 H0 E).xe (.ref a) s':=by
 obtain⟨⟨a0,fl⟩,he,ht⟩:=F;have fr:(A.deeper<|envOfC qual scope s0.heap.objs.size f cd).frames=some (envOfC qual scope s0.heap.objs.size f cd::outer):=I.ok.frames;have sf: ∀b∈frs (envOfC qual scope s0.heap.objs.size f cd::outer),H b=none:=I.stkFree;have fm: ∀b∈frs (envOfC qual scope s0.heap.objs.size f cd::outer),b=s0.heap.objs.size\/b∈frs outer:=λb hb=>by
  unfold frs at hb⊢;rw[nE]at hb;have e:(envOfC qual scope s0.heap.objs.size f cd).frame=some s0.heap.objs.size:=rfl;rw[e]at hb;exact bB.mp hb
 show wpAny _ _ (leaving _<|.ref a) _ _ s'
 refine d35 fr (L:=s0.heap.objs.size) rfl fl λh' fl' p=> ?_
 have hd: ∀b∈frs outer,∀o,s'.heap.get? b=some o-> ∀vs,o.data≠ .fields vs:=λb hb o q=>by
  obtain⟨_,o',q',n⟩:=fl.2.2.1.mem (b:=b) (by
   unfold frs at hb;rw[nE];have e:(envOfC qual scope s0.heap.objs.size f cd).frame=some s0.heap.objs.size:=rfl;rw[e];exact bB.mpr (.inr hb))
  rw[q]at q';cases q';exact n
 have un:Un (frs outer) [] H0 H s0.heap h':=I.base.past p fm (kS<|aK _) nw.he nw.ht hd;refine⟨a,C,o,H,rfl,I.os,I.bare,un,I.hok.past p sf he ht,⟨⟨a0,fl'⟩,he,bD7 I.hok p sf he ht⟩,⟨nw.he,λT q=> ?_⟩,xa.dk p.dk,hE⟩
 rcases p.tr T q with z|z|z|z
 .rcases fm T z with z|z
  .rw[z];exact kS (aK _)
  .exfalso
   obtain⟨o,vs,q1,q2⟩:=p.rcd T q;obtain⟨_,o',q',n⟩:=fl'.2.2.1.mem (b:=T) z;rw[q1]at q';cases q';exact n vs q2
 .rw[z];exact nw.he
 .exact nw.ht T z
 .cases r:s0.heap.get? T with
  | none=>rfl
  | some o=>
   obtain⟨o',q'⟩:=I.base.there T o r (show T ∉ ([]:List Addr)by simp)
   rw[z]at q';cases q'
theorem e18:wK (CXr P w base) (vQ (CXr P w base) P w K mg base N qual scope f cd A outer s0 H0 E) E:=by
 rintro pins σ H s e s' I ⟨a,C,o,H',rfl,ho,hb,un,hok,F,nw,xa,hE⟩;have I':=I.call' (s':=s') ho un hok hb (λb z=>absurd z ae)
 refine dF2 I' F ⟨?_,λT q=> ?_⟩ xa hE
 .cases r:s0.heap.get? a with
  | none=>rfl
  | some o=>
   obtain⟨o',q'⟩:=I.base.there a o r (show a ∉ ([]:List Addr)by simp)
   rw[nw.he]at q';cases q'
 .have:=nw.ht T q;cases r:s0.heap.get? T with
  | none=>rfl
  | some o=>
   obtain⟨o',q'⟩:=I.base.there T o r (show T ∉ ([]:List Addr)by simp)
   rw[this]at q';cases q'
end
inductive XO (h:Heap) (C N:Addr) (bm:List Value) (newId:String):Prop
 | mk (nm q:Str) (bs:List Value) (hd:Bool) (sn:List Str) (sub:List Value) (ab:Bool) (col:Option Bool) (dd:Option Addr) (k0 k1 k2 k3 k5:Option Value) (o:h.get? C=some (excClassObj nm q C N bs bm hd sn sub ab col dd k0 k1 k2 k3 k5 newId)):XO h C N bm newId
inductive XCls (h:Heap) (C:Addr) (bmB bm:List Value) (newId:String):Prop
 | mk (N:Addr) (mN:Str->Option Value) (o:XO h C N bm newId) (n:h.Ns N mN) (i:mN "__init__"=none) (t:OwnTail h bmB bm):XCls h C bmB bm newId
theorem c36 (X:K.In h)(q:excIn K C bmB newId=true): ∃bm,XCls h C bmB bm newId:=by
 unfold excIn at q;split at q
 .rename_i od ck slots look
  split at q
  .rename_i C2 tail a0 a1 a2 a3 nid a5 em es
   simp only[cQ,gI,zV]at q;obtain⟨⟨⟨⟨⟨rfl,rfl⟩,nodel⟩,tk⟩,nk⟩,ni⟩:=q;obtain⟨c1,c2,c3,c4,c5,c6,c7,c8,c9,c10,c11⟩:=ck;dsimp only at em nodel nk ni;subst em nodel;obtain⟨sll⟩:=slots;subst es;exact⟨tail,_,_,⟨_,_,_,_,_,_,_,_,_,_,_,_,_,_,X _ _ look⟩,.of_isNs<|PySem.W.isNs_of_in X nk,PySem.W.nsMap_none_of_in X nk ni,PySem.W.tail_of_in X tk⟩
  .cases q
 .cases q
section
variable {X:Cx}{E:XK}{C:Addr}
def bH3 (X:Cx)(E:XK)(C:Addr):Prop:= ∀(pins:List (Addr×Obj)) (σ:St) (H:Hp) (s:Shared) (a:Addr) (oe:Obj) (vs:Array Value) (a0:Value) (o:Option Addr),Inv X pins σ H s->s.heap.get? a=some oe->oe.cls= .ref C->oe.data= .fields vs->vs[0]? =some a0->vs[1]? =some .none->H a=none->X.s₀.heap.get? a=none->XAt s.heap a o->E (.ref C) o H->X.xe (.ref a) s
theorem cQ5 {cd:Value}{s0:Shared}{H0:Hp} :
  bH3 (vQ (CXr P w base) P w K mg base N qual scope f cd A outer s0 H0 E) E C:=by
 intro pins σ H s a oe vs a0 o I he hc hd h0 h1 nH n0 xa hE;have fr:(A.deeper<|envOfC qual scope s0.heap.objs.size f cd).frames=some (envOfC qual scope s0.heap.objs.size f cd::outer):=I.ok.frames;have sf: ∀b∈frs (envOfC qual scope s0.heap.objs.size f cd::outer),H b=none:=I.stkFree;have fl0:s.heap.FunFrames base (envOfC qual scope s0.heap.objs.size f cd::outer):=I.stack
 have fm: ∀b∈frs (envOfC qual scope s0.heap.objs.size f cd::outer),b=s0.heap.objs.size\/b∈frs outer:=λb hb=>by
  exact bB.mp hb
 have nt: ∀T,¬Tr s.heap a T:=by
  rintro T ⟨o,ws,k1,k2,k3⟩;rw[he]at k1;cases k1;rw[hd]at k2;cases k2;rw[h1]at k3;cases k3
 have nb:base.get? a=none:=by
  cases q:base.get? a with
  | none=>rfl
  | some o=>rw[(I.ok.bs a o q).1]at n0;cases n0
 have st:base.StaysIn s.heap:=I.bk;refine cE0 fr fl0 rfl he st nb hd h1 h0 λh' fl' p=> ?_
 rw[hc]at fl';have hdf: ∀b∈frs outer,∀o,s.heap.get? b=some o-> ∀vs,o.data≠ .fields vs:=λb hb o q=>by
  obtain⟨_,o',q',n⟩:=fl0.mem (by
   exact bB.mpr (.inr hb))
  rw[q]at q';cases q';exact n
 have un:Un (frs outer) [] H0 H s0.heap h':=I.base.past p fm (kS<|aK _) n0 (λT q=>absurd q (nt T)) hdf
 have ht: ∀T,Tr s.heap a T->H T=none:=λT q=>absurd q (nt T)
 refine⟨a,C,o,H,rfl,I.os,I.bare,un,I.hok.past p sf nH ht,⟨⟨a0,fl'⟩,nH,bD7 I.hok p sf nH ht⟩,⟨n0,λT q=> ?_⟩,xa.dk p.dk,hE⟩
 rcases p.tr T q with z|z|z|z
 .rcases fm T z with z|z
  .rw[z];exact kS (aK _)
  .exfalso
   obtain⟨o,ws,q1,q2⟩:=p.rcd T q;obtain⟨_,o',q',n⟩:=fl'.2.2.1.mem z;rw[q1]at q';cases q';exact n ws q2
 .rw[z];exact n0
 .exact absurd z (nt T)
 .cases r:s0.heap.get? T with
  | none=>rfl
  | some o=>
   obtain⟨o',q'⟩:=I.base.there T o r (show T ∉ ([]:List Addr)by simp)
   rw[z]at q';cases q'
def dF3 (C:Addr)(E:XK)(ta:TA):TS:=λ_ σ H=>ta σ H λvs H1=>vs.length<=sizeLine/\E (.ref C) none H1
theorem dF4 {ta:TA}{B:String}(FB:ExcBaseFacts B newId initId bmB)(q:excIn X.K C bmB newId=true)(hg:Gl X x)(hm:X.mg x=some (.ref C))(hc:X.calm=true)(ha:PA X (e::es) ta)(th:bH3 X E C)
  (he:↥(starEach (e::es) X.env=(false,eval e X.env)::starEach es X.env)) (hpl:↥((backTo cpos<|starEach es X.env).any (·.1)=false)) (hd:⇑(x∪0)) (hex:↥(X.ex=[])) :
  PS X (.Raise (some<|.Call (.Name x np) (e::es) [] cpos) none pos) (dF3 C E ta):=by
 intro pins s σ H D I h;obtain⟨bm,N,mN,⟨nm,qn,bs,hdd,sn,sub,ab,col,dd,k0,k1,k2,k3,k5,hC⟩,hN,hni,tl⟩:=c36 I.mod.kin q;have keepS: ∀{pins:List (Addr×Obj)} {σ:St} {H:Hp} {s2:Shared},Inv X pins σ H s2-> ∀b o,X.base.get? b=some o->s2.heap.get? b=some o:=λJ=>J.bk
 refine wpAny_Raise_call_subT (nm:=nm) (q:=qn) (N:=N) (bs:=bs) (hdct:=hdd) (sn:=sn) (sub:=sub) (ab:=ab) (col:=col) (dd:=dd) (k0:=k0) (k1:=k1) (k2:=k2) (k3:=k3) (k5:=k5) FB (tl.hasType FB.hasBase) (I.ok.hd hc) ?_ hni (vT I hg hm ⟨rfl,?_⟩ hd)
 .rw[he];show(false||(backTo cpos<|starEach es X.env).any (·.1))=false;rw[hpl];rfl
 .have hh:=ha cpos pins s σ H _ I h;rw[he]at hh⊢;refine aO5 (bW hh (λus s2 ⟨vs,H1,I1,r1,q1⟩=>⟨rfl,by rw[<-r1.length];exact q1.1,keepS I1 _ _ hC,hN.keeps<|keepS I1,tl.keeps<|keepS I1,λh' a mk=> ?_⟩) λ_ _ y=>y)
  obtain⟨t,m1,m2,m3⟩:=mk.there;have I2:Inv X pins σ H1 {s2 with heap:=h'}:=I1.kept mk.keeps;refine th pins σ H1 _ a _ _ (.ref t) none I2 m1 rfl rfl rfl rfl (I1.hok.there mk.new) ?_ (λd z=>by cases z) q1.2
  cases r:X.s₀.heap.get? a with
  | none=>rfl
  | some o=>
   obtain⟨o',q'⟩:=I1.base.there a o r (by rw[hex];simp)
   rw[mk.new]at q';cases q'
end
section
variable {prog:Program}{w:World}{A:Around}{E:Value->Shared->Prop}{hp:Heap}{gn:Array GenState}{dr:Drawn}{tn:Nat}{os:OsState}
variable {nm qn:Str}{C N:Addr}{bs bm bmB:List Value}{hdd:Bool}{sn:List Str}{sub:List Value}{ab:Bool}{col:Option Bool}{dd:Option Addr}{k0 k1 k2 k3 k5:Option Value}{B newId initId:String}
theorem cQ6 (F:ExcBaseFacts B newId initId bmB)(T:OwnTail hp bmB bm){mN:Str->Option Value}{oI:Obj}{Q:Fin->Shared->Prop}
  (hC:hp.get? C=some (excClassObj nm qn C N bs bm hdd sn sub ab col dd k0 k1 k2 k3 k5 newId)) (hN:hp.Ns N mN) (hini:mN "__init__"=some (.ref fI)) (hfun:hp.get? fI=some oI) (hcls:oI.cls= .type "function")
  (hgo: ∀h' e,MadeExcOf hp h' e (.ref C) us->wpAny (model prog w) A (call (.ref fI) (.ref e::us)) (λr s'=>r= .none/\Q (.done<|.ret<|.ref e) s') E ⟨h',gn,dr,tn,os⟩) (hus:us.length<=sizeLine) :
  wpAny (model prog w) A (Builtin.«type.__call__» ⟨.ref C::us,[]⟩) Q E ⟨hp,gn,dr,tn,os⟩:=by
 repeat (first
  | with_reducible refine nG hC ?_
  | with_reducible refine wpAny_madeBy_exc hC ?_
  | wp_step)
 refine codeAny_call_builtin_code (Code.quiet_builtin _ F.quiet) (wpAny_check_new_subT F T hC ?_)
 refine codeAny_exc_new_subT F T hC ?_ hus
 show wpAny _ _ _ _ _ _
 generalize ea:({cls:= .type "tuple",data:= .seq us.toArray}:Obj)=oa;generalize eb:({cls:= .ref C,data:= .fields #[.ref hp.objs.size,.none,.none,.none,.bool false,.none]}:Obj)=ob;have up: ∀b o,hp.get? b=some o->((hp.push oa).push ob).get? b=some o:=λb o q=>aV _ (aV _ q)
 have g1:=up _ _ hC;have g2:=up _ _ hfun;have g3:=hN.keeps up;have g4:((hp.push oa).push ob).get? (hp.objs.size+1)=some ob:=by
  subst ea eb
  heap_get
 have g5:((hp.push oa).push ob).get? hp.objs.size=some oa:=by
  subst ea;exact aV _ (Heap.get?_push_at rfl rfl)
 have g6:=T.keeps up;have me:(Value.ref C::bm).contains (.ref C)=true:=ae
 have ec:ob.cls= .ref C:=by rw[<-eb]
 unfold isInstance
 repeat (first
  | (with_reducible refine nG g4 ?_;rw[ec])
  | (with_reducible refine zS g1 ?_;rw[me])
  | wp_step)
 show wpAny _ _ (typeLookup (.ref C) _) _ _ _
 refine wpAny_typeLookup_tail g1 g3 g6 F.mroIs F.init.lookup ?_
 rw[hini];refine iZ (a9 ?_);unfold bindSpecial;refine a9 (a09 (T:="function") ⟨_,g2,hcls⟩ ?_);rw[aA ac]
 have mk:MadeExcOf hp ((hp.push oa).push ob) (hp.objs.size+1) (.ref C) us:=⟨up,kS<|qA _,hp.objs.size,by rw[g4,<-eb],kS<|aK _,by rw[g5,<-ea]⟩
 refine aP (a9<|bW (hgo _ _ mk) (λr s' z=> ?_) λ_ _ z=>z)
 obtain⟨rfl,z⟩:=z
 wp_walk
 exact z
theorem xcall (F:ExcBaseFacts B newId initId bmB)(T:OwnTail hp bmB bm){mN:Str->Option Value}{oI:Obj}
  (hC:hp.get? C=some (excClassObj nm qn C N bs bm hdd sn sub ab col dd k0 k1 k2 k3 k5 newId)) (hN:hp.Ns N mN) (hini:mN "__init__"=some (.ref fI)) (hfun:hp.get? fI=some oI) (hcls:oI.cls= .type "function")
  (hgo: ∀h' e,MadeExcOf hp h' e (.ref C) us->wpAny (model prog w) (A.under<|.builtin "type.__call__" ⟨.ref C::us,[]⟩) (call (.ref fI) (.ref e::us)) (λr s'=>r= .none/\Q (.ref e) s') E ⟨h',gn,dr,tn,os⟩) (hus:us.length<=sizeLine) :
  wpAny (model prog w) A (call (.ref C) us) Q E ⟨hp,gn,dr,tn,os⟩:=by
 have t1:=tc_lookup;have t2:=tc_bind (.ref C);have t3:(⟨hp,gn,dr,tn,os⟩:Shared).TypeIs (.ref C) "type":=⟨_,hC,rfl⟩;refine uL (codeAny_of_tree ?_);show wpAny _ _ (callAny (.ref C) _) _ _ _
 repeat (any_goals (first
  | assumption
  | with_reducible refine nG hC ?_
  | wp_step))
 refine⟨rfl,?_⟩
 exact codeAny_call_builtin_at (Code.quiet_builtin _ af) entry_typeCall (wpAny_check_type_call_sub hC<|cQ6 F T hC hN hini hfun hcls (λh' e mk=>hgo h' e mk) hus)
end
open Builtin Builtin.ObjectAttr
nonrec def veMro:List Value:=[.type "ValueError",.type "Exception",.type "BaseException",.type "object"]
nonrec def a23:List Value->Bool
 | []=>false
 | v::r=>(v::r)==veMro||match v with
  | .ref _=>a23 r
  | _=>false
theorem b82 (self:Value): ∀{l:List Value},a23 l=true->refuseLoop self "__setattr__" l=pure ()
 | v::r,e=>by
  rcases Bool.or_eq_true_iff.mp e with q|q
  .rw[gI.mp q];exact PySem.F.store_ValueError.passes self
  .split at q
   .rw[refuseLoop_ref];exact b82 self q
   .cases q
theorem bH4: ∀{l:List Value},a23 l=true->l.contains (.type "object")=true/\l.isEmpty=false
 | v::r,e=>by
  refine⟨?_,rfl⟩
  rcases Bool.or_eq_true_iff.mp e with q|q
  .rw[gI.mp q];decide
  .split at q
   .rw[aP7,(bH4 q).1,Bool.or_true]
   .cases q
section
variable {K:Frag}{prog:Program}{w:World}{A:Around}{E:Value->Shared->Prop}{s:Shared}{x C:Addr}{mA:Str->Option Value}{ns:List Str}{name:Str}{v:Value}{cd:ClassData}
theorem xosa {R:Result->Shared->Prop}{tk:Tok}(X:K.In s.heap)(hc:clsIn K C=some cd)(hm:a23 cd.mro=true)(hdct:cd.hasDict=true)(ht:findIn K (.ref C) name=some none)
  (I:s.heap.Inst x C mA) (hw:Within mA ns) (hsz:ns.length<=100) {od:Option Obj} {o:Obj} (hx:s.heap.get? x=some o) (J:InstAt s.heap x o C od)
  (hq: ∀h' tk,h'.Inst x C (λy=>if y=name then some v else mA y)->(∀b o,b≠x->(∀o0 dx,s.heap.get? x=some o0->o0.dict=some dx->b≠dx)->s.heap.get? b=some o->h'.get? b=some o)->
   (∀o0,s.heap.get? x=some o0-> ∃o1,h'.get? x=some o1/\o1.cls=o0.cls/\o1.data=o0.data/\ ∀dx,o1.dict=some dx->o0.dict=some dx\/(s.heap.objs.size<=dx))->R (.ok<|.ret .none) {s with heap:=h',toks:=tk}) :
  codeAny (model prog w) A (.call (.builtin "object.__setattr__") ⟨[.ref x,.str name tk,v],[]⟩) R s:=by
 have SF:=PySem.F.store_ValueError;have sub:PySem.W.Looks (model prog w) s.heap (isInstance (.ref x)<|.type "object") true:=J.type.andThen (PySem.W.looks_mroIn X (by unfold PySem.W.mroIn;rw[hc,bind_some,a7 (by rw[(bH4 hm).2];decide),(bH4 hm).1]))
 refine codeAny_call_builtin SF.slot.plain SF.entry (@PySem.W.check_slot (model prog w) _ _ s "object.__setattr__" "object" "__setattr__" (.ref x) [.str name tk,v] [] _ SF.kind SF.split sub (SF.args (.ref x) (.str name tk) v) ?_)
 have hmr:PySem.W.Looks (model prog w) s.heap (mroOf<|.ref C) cd.mro:=(aP2 X hc).andThen .now;rw[PySem.W.osa_eq,refuse_eq];refine a9 (a9<|J.type.here<|a9<|hmr.here ?_);rw[b82 _ hm];refine aP (a9<|J.type.here<|a9<|(PySem.W.looks_findIn X ht).here<|a9<|aP ?_);have lc:=aP2 (M:=model prog w) X hc;obtain⟨o',hx',hcl,hnc,hdd⟩:=I;rw[hx]at hx';cases hx';refine a9 (aP ?_);refine a9 ?_
 refine a9 (wpAny_loadPart hx ?_)
 rw[hcl];refine a9 (lc.here ?_);rw[hdct];obtain⟨hp,gn,dr,tn,os⟩:=s;have put: ∀(h1:Heap) (dx:Addr) (o1:Obj),h1.get? x=some o1->o1.cls= .ref C->(∀c,o1.data≠ .cls c)->o1.dict=some dx->dx≠x->h1.Ns1 dx mA->o1.data=o.data->(∀b ob,b≠x->hp.get? b=some ob->h1.get? b=some ob)->(o.dict=some dx\/hp.objs.size<=dx)->
   wpAny (model prog w) A.in1 (storeInDict dx (.str name tk) name v) (λfin s'=>match fin with| .done f=>R (.ok f) s'| .again c'=>c'.quiet=true/\codeAny (model prog w) A c' R s') (λe s'=>R (.error e) s') ⟨h1,gn,dr,tn,os⟩:=by
  intro h1 dx o1 g1 g2 g3 g4 g5 g6 g7 g8 g9;refine a9 (aP<|a9<|wpAny_nsSet1 g6 λh' n' sb=> ?_)
  obtain⟨oD,eD,pD,q1,q2,q3⟩:=n'.count (Within.cons name v hw);have few:eD.size<=sizeLine:=by
   refine aH q3 ?_
   rw[dP,sizeLine_eq]
   lia
  refine a9 (wpAny_lookBehind q1 (by rw[q2];exact pastItsLine_dict (aQ1 few)) ?_)
  have gx:h'.get? x=some o1:=(sb.2 x<|Ne.symm g5).trans g1;refine aP (hq h' _ ⟨o1,gx,g2,g3,.inr ⟨dx,g4,g5,n'⟩⟩ (λb ob k1 k2 k3=> ?_) λo0 k1=> ?_)
  .have nb:b≠dx:=by
    rcases g9 with z|z
    .exact k2 o dx hx z
    .intro q;have:=aW k3;rw[q]at this;exact absurd (b9 this z) (dX _)
   exact(sb.2 b nb).trans (g8 b ob k1 k3)
  .rw[hx]at k1;cases k1;exact⟨o1,gx,by rw[g2,hcl],g7,λdx' z=>by rw[g4]at z;cases z;exact g9⟩
 rcases hdd with⟨hn,hmA⟩| ⟨dx,hdx,hne,hns⟩
 .rw[hn];have ex: ∀d':Data,d'=o.data->wpAny (model prog w) A.in1 (match d' with
     | .cls c=>pure none
     | _=>do
      let d<-alloc {cls:=Value.type "dict",data:=Data.dict #[]}
      update x λo=>{cls:=o.cls,dict:=some d,data:=o.data,slots:=o.slots}
      dictMade (Value.ref C) x d) (λa s'=>wpAny (model prog w) A.in1 (match a with|some d=>storeInDict d (.str name tk) name v|none=>noDictFor (.ref x) (.ref C) name (none:Option Value).isSome) (λfin s'=>match fin with| .done f=>R (.ok f) s'| .again c'=>c'.quiet=true/\codeAny (model prog w) A c' R s') (λe s'=>R (.error e) s') s') (λe s'=>R (.error e) s') ⟨hp,gn,dr,tn,os⟩:=by
   intro d' ed;split
   .rename_i c
    exact absurd ed.symm (hnc c)
   .have x1:(hp.push {cls:= .type "dict",data:= .dict #[]}).get? x=some o:=aV _ hx;have xs:x≠hp.objs.size:=bM (aW hx);refine a9 (wpAny_alloc'<|a9<|wpAny_update' x1<|aP ?_);have alive:Obj.isFreed {cls:=o.cls,dict:=some hp.objs.size,data:=o.data,slots:=o.slots}=false:=by
     have:=(Heap.get?_some_iff.mp hx).2;obtain⟨c1,c2,c3,c4⟩:=o;cases c3<;>first|rfl|exact this
    have gd:((hp.push {cls:= .type "dict",data:= .dict #[]}).update x λo=>{cls:=o.cls,dict:=some hp.objs.size,data:=o.data,slots:=o.slots}).get? hp.objs.size=some {cls:= .type "dict",data:= .dict #[]}:=
     (zR _ _ _ _<|Ne.symm xs).trans (Heap.get?_push_at rfl rfl)
    refine put _ hp.objs.size {cls:=o.cls,dict:=some hp.objs.size,data:=o.data,slots:=o.slots} (pK _ x1 alive) hcl hnc rfl (Ne.symm xs) ?_ rfl (λb ob k1 k2=>(zR _ _ _ _ k1).trans (aV _ k2)) (.inr<|aK _)
    have e0:mA=λ_=>none:=funext hmA
    rw[e0];exact Heap.Ns1.of_empty ⟨_,#[],_,gd,rfl,λe he=>absurd he ae,λ_=>rfl⟩
  exact ex o.data rfl
 .rw[hdx];exact aP (put hp dx o hx hcl hnc hdx hne hns rfl (λb ob _ k=>k) (.inl hdx))
theorem xset {Q:Unit->Shared->Prop}(X:K.In s.heap)(hc:clsIn K C=some cd)(hm:a23 cd.mro=true)(hdct:cd.hasDict=true)(hsa:findIn K (.ref C) "__setattr__"=some (some<|.builtin "object.__setattr__"))(ht:findIn K (.ref C) name=some none)
  (I:s.heap.Inst x C mA) (hw:Within mA ns) (hsz:ns.length<=100)
  (hq: ∀h' tk,h'.Inst x C (λy=>if y=name then some v else mA y)->(∀b o,b≠x->(∀o0 dx,s.heap.get? x=some o0->o0.dict=some dx->b≠dx)->s.heap.get? b=some o->h'.get? b=some o)->
   (∀o0,s.heap.get? x=some o0-> ∃o1,h'.get? x=some o1/\o1.cls=o0.cls/\o1.data=o0.data/\ ∀dx,o1.dict=some dx->o0.dict=some dx\/(s.heap.objs.size<=dx))->Q () {s with heap:=h',toks:=tk}) :
  wpAny (model prog w) A (setAttr (.ref x) name v) Q E s:=by
 have I':=I;obtain⟨o,hx,hcl,hnc,hdd⟩:=I;have J: ∃od,InstAt s.heap x o C od:=by
  rcases hdd with⟨e,_⟩| ⟨dx,e,_,od,es,ep,ge,_⟩
  .exact⟨none,hx,hcl,(by unfold PySem.W.notCls;split<;>first|rfl| (rename_i c q;exact absurd q (hnc c))),by rw[e];trivial⟩
  .exact⟨some od,hx,hcl,(by unfold PySem.W.notCls;split<;>first|rfl| (rename_i c q;exact absurd q (hnc c))),by rw[e];exact ge⟩
 obtain⟨od,J⟩:=J;refine PySem.W.set_plain X J hsa ?_;exact xosa (s:={s with toks:=s.toks+1}) X hc hm hdct ht I' hw hsz hx J λh' tk a b c=>hq h' tk a b c
end
inductive e19 (K:Frag) (fI:Addr) (fd:FuncData) (f1 f2:Str):Prop
 | mk (oc:Value) (od:Option Addr) (nm qual:Str) (params:Arguments) (scope:Scope) (kV doc pm:Value) (an:Option Addr) (cdv ct:Value) (osl:Array (Option Value)) (x0 x1 x2:Str) (p1 p2 p3 p4 p5 p6 p7 p8:Pos)
  (_:fd=fnOf nm qual params [.Assign [.Attribute (.Name x0 p1) f1 p2] (.Name x1 p3) p4,.Assign [.Attribute (.Name x0 p5) f2 p6] (.Name x2 p7) p8] scope .none kV doc pm an cdv ct)
  (_:K.lookup fI=some ⟨oc,od,.func fd,osl⟩) (_:oc= .type "function") (_:codeIn K cdv qual=true) (_:aY [x0,x1,x2] [x0,x1,x2] scope)
  (_:scope.names.lookup x0=some .local) (_:scope.names.lookup x1=some .local) (_:scope.names.lookup x2=some .local) (_:x0∪0) (_:x1∪0) (_:x2∪0) (_:Binds K fd [x0,x1,x2] []):e19 K fI fd f1 f2
structure cE1 (K:Frag)(C fI:Addr)(fd:FuncData)(f1 f2:Str):Prop where
 ex:e19 K fI fd f1 f2
 cls: ∃cd,clsIn K C=some cd/\a23 cd.mro=true/\cd.hasDict=true
 sa:findIn K (.ref C) "__setattr__"=some (some<|.builtin "object.__setattr__")
 n1:findIn K (.ref C) f1=some none
 n2:findIn K (.ref C) f2=some none
inductive Laid (C e:Addr) (f1 f2:Str) (v1 v2:V) (s s':Shared):Prop
 | mk (_:s'.os=s.os) (_:AllBare s'.gens) (_: ∀b o,s.heap.get? b=some o->s'.heap.get? b=some o) (oe:Obj) (t d:Addr) (w1 w2:Value) (_:s'.heap.get? e=some oe) (_:oe.cls= .ref C) (_:oe.data= .fields #[.ref t,.none,.none,.none,.bool false,.none]) (_:oe.dict=some d) (_:d≠e) (_:s.heap.get? d=none) (_:RelV v1 w1) (_:RelV v2 w2) (_:s'.heap.Ns1 d (λy=>if y=f2 then some w2 else if y=f1 then some w1 else none)):Laid C e f1 f2 v1 v2 s s'
section
variable {X:Cx}{pins:List (Addr×Obj)}{σ:St}{H:Hp}{s:Shared}{C fI e:Addr}{fd:FuncData}{f1 f2:Str}{h1:Heap}{u1 u2:Value}{v1 v2:V}{E:Value->Shared->Prop}{k:Nat}
theorem d36 (T:cE1 X.K C fI fd f1 f2)(I:Inv X pins σ H s)(hr:i8 (k+1) X.A)(mk:MadeExcOf s.heap h1 e (.ref C) [u1,u2])(r1:RelV v1 u1)(r2:RelV v2 u2) :
  wpAny (model X.prog X.w) (X.A.under<|.builtin "type.__call__" ⟨.ref C::[u1,u2],[]⟩) (call (.ref fI) (.ref e::[u1,u2])) (λr s'=>r= .none/\Laid C e f1 f2 v1 v2 s s') E {s with heap:=h1}:=by
 obtain⟨oc,od,nm,qual,params,scope,kV,doc,pm,an,cdv,ct,osl,x0,x1,x2,p1,p2,p3,p4,p5,p6,p7,p8,rfl,lk,_,hcd,S,l0,l1,l2,d0,d1,d2,hb⟩:=T.ex;obtain⟨cd,hc,hm,hdct⟩:=T.cls;have I1:Inv X pins σ H {s with heap:=h1}:=I.kept mk.keeps;have e0:=I1.env0.make C [u1,u2] [];have rm:=hr.make C [u1,u2] [];have KX:=I1.kIn;have lim:=I1.nolimit
 have us:Vals [V.ref e,v1,v2] [Value.ref e,u1,u2]:= .cons rfl (.cons r1<|.cons r2 .nil);have hkind: ∀y∈[x0,x1,x2].zip [Value.ref e,u1,u2],scope.names.lookup y.1=some .local\/(scope.names.lookup y.1=some .cell/\((cellsFrom (h1.objs.size+1) scope.names []).lookup y.1).isSome=true):=λ⟨n,v⟩ hy=>by
  have:=(zX hy).1;simp at this;rcases this with rfl|rfl|rfl
  .exact .inl l0
  .exact .inl l1
  .exact .inl l2
 refine uL ?_
 have bd:=hb {s with heap:=h1} [Value.ref e,u1,u2] KX rfl;refine codeAny_call_function rm.depth (KX _ _ lk) rfl S.co S.gen rfl (PySem.W.codeRec_of KX hcd) (bd _ _ _ _ ?_);refine wpAny_newFunctionEnv_cells S.kind hkind λenv he s2 x=> ?_
 subst he;refine⟨lim.keeps x.toInCall.keep,codeAny_func ?_⟩;have J:Inv (vQ CX0 X.prog X.w X.K X.mg X.base [x0,x1,x2] qual scope fI cdv (X.A.under<|.builtin "type.__call__" ⟨.ref C::[u1,u2],[]⟩) X.stack {s with heap:=h1} H E0) [] (start [x0,x1,x2] [V.ref e,v1,v2]) H s2:=bU7 S rm.hd e0 rfl us x;obtain⟨m,hn,hl⟩:=J.loc
 have look: ∀(i:Nat) (y:Str) (v:V),[x0,x1,x2][i]? =some y->(start [x0,x1,x2] [V.ref e,v1,v2])[i]? =some (some v)->scope.names.lookup y=some .local-> ∃u,RelV v u/\m y=some u:=λi y v q1 q2 q3=>by
  obtain⟨u,r,lo⟩:=hl i y v q1 q2 (.inl q3);rcases lo with⟨_,hm⟩| ⟨z,_⟩
  .exact⟨u,r,hm⟩
  .have z':scope.names.lookup y=some .cell\/scope.names.lookup y=some .free:=z;rw[q3]at z';rcases z' with z'|z'<;>cases z'
 obtain⟨w0,q0,m0⟩:=look 0 x0 (.ref e) rfl rfl l0;obtain⟨w1,q1,m1⟩:=look 1 x1 v1 rfl rfl l1;obtain⟨w2,q2,m2⟩:=look 2 x2 v2 rfl rfl l2;obtain rfl:w0=Value.ref e:=q0;have kk:=J.ok.kind;have kin:X.K.In s2.heap:=KX.keeps x.toInCall.keep;obtain⟨t,t1,t2,t3⟩:=mk.there;have ge:s2.heap.get? e=some {cls:= .ref C,data:= .fields #[.ref t,.none,.none,.none,.bool false,.none]}:=x.toInCall.keep _ _ t1
 have eL:e≠h1.objs.size:=bM (aW t1);have in0:s2.heap.Inst e C (λ_=>none):=⟨_,ge,rfl,(λc z=>by cases z),.inl ⟨rfl,λ_=>rfl⟩⟩
 refine u9 (aN0<|nS (pM kk l1 hn m1<|nS (pM kk l0 hn m0 ?_) d0) d1)
 refine xset kin hc hm hdct T.sa T.n1 in0 (ns:=[]) (λn z=>absurd rfl z) ae λh3 tk3 in3 kp3 ob3=> ?_
 obtain⟨o3,g3,c3,dt3,dd3⟩:=ob3 _ ge;have keep3: ∀b o,b≠e->s2.heap.get? b=some o->h3.get? b=some o:=λb o n q=>kp3 b o n (λo0 dx z1 z2=>by rw[ge]at z1;cases z1;cases z2) q
 have hn3:h3.Ns h1.objs.size m:=by
  obtain⟨o,es,ep,z1,z2⟩:=hn;exact⟨o,es,ep,keep3 _ _ (Ne.symm eL) z1,z2⟩
 have keep3': ∀b o,s.heap.get? b=some o->h3.get? b=some o:=λb o q=>keep3 b o (λz=>by rw[z,mk.new]at q;cases q) (x.toInCall.keep _ _<|mk.keeps b o q)
 have kin3:X.K.In h3:=I.kIn.keeps keep3';refine u9 (aN0<|nS (pM kk l2 hn3 m2<|nS (pM kk l0 hn3 m0 ?_) d0) d2);refine xset kin3 hc hm hdct T.sa T.n2 in3 (ns:=[f1]) (λn z=> ?_) ae λh4 tk4 in4 kp4 ob4=> ?_
 .by_cases c:n=f1
  .simp[c]
  .rw[a7 c]at z;exact absurd rfl z
 obtain⟨o4,g4,c4,dt4,dd4⟩:=ob4 _ g3;refine nL ?_;obtain⟨o5,g5,_,_,dd5⟩:=in4;rw[g4]at g5;cases g5;rcases dd5 with⟨_,no⟩| ⟨d,ed,de,nd⟩
 .have:=no f2;simp at this
 have dn:s.heap.get? d=none:=by
  cases q:s.heap.get? d with
  | none=>rfl
  | some o=>
   have a3:=aW (keep3' d o q);have a2:=aW (x.toInCall.keep _ _<|mk.keeps d o q);rcases dd4 d ed with z|z
   .rcases dd3 d z with z|z
    .cases z
    .exact absurd (b9 a2 z) (dX _)
   .exact absurd (b9 a3 z) (dX _)
 refine⟨rfl,J.os,J.bare,λb o q=> ?_,o4,t,d,w1,w2,g4,?_,?_,ed,de,dn,q1,q2,nd⟩
 .refine kp4 b o (λz=>by rw[z,mk.new]at q;cases q) (λo0 dx z1 z2=> ?_) (keep3' b o q)
  rw[g3]at z1;cases z1;rcases dd3 dx z2 with z|z
  .cases z
  .intro z';have:=aW (x.toInCall.keep _ _<|mk.keeps b o q);rw[z']at this;exact absurd (b9 this z) (dX _)
 .rw[c4,c3]
 .rw[dt4,dt3]
end
nonrec def aB2 (K:Frag)(C fI:Addr)(bmB:List Value)(newId:String):Bool:=match K.lookup C with
 | some ⟨.type "type",_,.cls ck,sl⟩=>(match ck.mro,sl.toList with
  | .ref C2::tail,[_,_,_,_,some<|.builtin nid,_]=>C2==C&&nid==newId&& !ck.hasDel&&PySem.W.tailIn K bmB tail&&PySem.W.nsOkIn K ck.ns&&nsIn K ck.ns "__init__"==some (some<|.ref fI)
  | _,_=>false)
 | _=>false
theorem dU7 {N:Addr}{n:Str}(X:K.In h)(G:h.Ns N mg)(e:nsIn K N n=some (some v)):mg n=some v:=by
 obtain⟨ob,ents,np,look0,dat,_,find0⟩:=G;unfold nsIn at e;split at e
 .rename_i look
  have same:=X _ _ look;rw[look0]at same;cases same;cases dat;split at e
  .rename_i en found
   cases e;rw[<-find0];unfold nsFind findBy;rw[<-Array.find?_toList,found];rfl
  .split at e<;>cases e
 .cases e
inductive e20 (h:Heap) (C fI:Addr) (bmB bm:List Value) (newId:String):Prop
 | mk (N:Addr) (mN:Str->Option Value) (o:XO h C N bm newId) (n:h.Ns N mN) (i:mN "__init__"=some (.ref fI)) (t:OwnTail h bmB bm):e20 h C fI bmB bm newId
theorem cE2 (X:K.In h)(q:aB2 K C fI bmB newId=true): ∃bm,e20 h C fI bmB bm newId:=by
 unfold aB2 at q;split at q
 .rename_i od ck slots look
  split at q
  .rename_i C2 tail a0 a1 a2 a3 nid a5 em es
   simp only[cQ,gI,zV]at q;obtain⟨⟨⟨⟨⟨rfl,rfl⟩,nodel⟩,tk⟩,nk⟩,ni⟩:=q;obtain⟨c1,c2,c3,c4,c5,c6,c7,c8,c9,c10,c11⟩:=ck;dsimp only at em nodel nk ni;subst em nodel;obtain⟨sll⟩:=slots;subst es;have nsk:h.Ns c4 (h.nsMap c4):= .of_isNs (PySem.W.isNs_of_in X nk);exact⟨tail,_,_,⟨_,_,_,_,_,_,_,_,_,_,_,_,_,_,X _ _ look⟩,nsk,dU7 X nsk ni,PySem.W.tail_of_in X tk⟩
  .cases q
 .cases q
section
variable {M:Model}{A:Around}{E:Value->Shared->Prop}{s:Shared}{env:Env}
variable {nm qn:Str}{C N:Addr}{bs bm:List Value}{hdd:Bool}{sn:List Str}{sub:List Value}{ab:Bool}{col:Option Bool}{dd:Option Addr}{k0 k1 k2 k3 k5:Option Value}{newId:String}
theorem xraise {x:Sem Value}{Q:Flow->Shared->Prop}(hbase:bm.contains (.type "BaseException")=true)(hh:A.handled=none)
  (h:wpAny M A x (λv s1=> ∃e oe vs,v= .ref e/\s1.heap.get? C=some (excClassObj nm qn C N bs bm hdd sn sub ab col dd k0 k1 k2 k3 k5 newId)/\s1.heap.get? e=some oe/\oe.cls= .ref C/\oe.data= .fields vs/\vs[1]? =some .none/\E (.ref e) s1) E s) :
  wpAny M A (raiseStmt env (some x) none) Q E s:=by
 have has:(Value.ref C::bm).contains (.type "BaseException")=true:=by rw[aP7,hbase,Bool.or_true]
 refine a9 (bW h (λv s1 z=> ?_) λ_ _ y=>y)
 obtain⟨e,oe,vs,rfl,hC,he,hcl,hdt,h1,hE⟩:=z;obtain⟨oc,od,odt,osl⟩:=oe;subst hcl hdt
 repeat (first
  | with_reducible refine nG he ?_
  | with_reducible refine nG hC ?_
  | (with_reducible refine zS hC ?_;rw[has])
  | wp_step)
 rw[h1];refine aP (aP ?_);exact wpAny_raiseNew_none hh hE
end
section
variable {P:Program}{w:World}{H:Hp}{h h':Heap}{a:Addr}{o:HO}{fs ex:List Addr}
theorem HOk.laidN (x:HOk P w H h)(k: ∀b u,h.get? b=some u->h'.get? b=some u)(hn:H a=none)(new:rK P w (upd H a o) h' a o):HOk P w (upd H a o) h':=λb u e=>by
 by_cases hb:b=a
 .subst hb;rw[iF]at e;cases e;exact new
 .rw[cM hb]at e;exact(x b u e).stay (λc v _ q=>k c v q) (λc q=>by rw[cM<|dJ q hn];exact q) λc xs q=>by rw[cM<|dJ q hn];exact q
theorem Un.laidN (k: ∀b u,h.get? b=some u->h'.get? b=some u)(hp:h.get? a=none)(hn:H a=none):Un fs ex H (upd H a o) h h' where
 keep:=λb u q _ _ _=>k b u q
 slot:=λb u q _ _ _=>⟨u.slots,k b u q⟩
 free:=λb u q n _=>by rw[cM (λz=>by rw[z,hp]at q;cases q)];exact n
 there:=λb u q _=>⟨u,k b u q⟩
 tups:=λb xs q=>by rw[cM<|dJ q hn];exact q
 frzs:=λb u xs q=>by rw[cM<|dJ q hn];exact q
 tbls:=λb ps q=>⟨#[],by rw[cM<|dJ q hn,q];simp⟩
end
theorem dF5 {w1 w2:V}(r:Vals [w1,w2] us): ∃u1 u2,us=[u1,u2]/\RelV w1 u1/\RelV w2 u2:=by
 cases r with
 | cons a r=>
  cases r with
  | cons b r=>
   cases r;exact⟨_,_,rfl,a,b⟩
section
variable {X:Cx}{E:XK}{C fI:Addr}
def dU8 (C:Addr)(f1 f2:Str)(E:XK)(ta:TA):TS:=λ_ σ H=>ta σ H λvs H1=> ∃v1 v2,vs=[v1,v2]/\ ∀d,H1 d=none->E (.ref C) (some d) (upd H1 d<|.xd [(f1,v1),(f2,v2)])
theorem d37 {x:Str}{np cpos pos:Pos}{e1 e2:Expr}{ta:TA}{B newId initId:String}{bmB:List Value}{fd:FuncData}{f1 f2:Str}{k:Nat}(FB:ExcBaseFacts B newId initId bmB)(q:aB2 X.K C fI bmB newId=true)(T:cE1 X.K C fI fd f1 f2)(hr:i8 (k+1) X.A)(hg:Gl X x)(hm:X.mg x=some (.ref C))(hc:X.calm=true)(ha:PA X [e1,e2] ta)(th:bH3 X E C)(hne:f1≠f2)
  (he:↥(starEach [e1,e2] X.env=(false,eval e1 X.env)::starEach [e2] X.env)) (hpl:↥((backTo cpos<|starEach [e2] X.env).any (·.1)=false)) (hd:⇑(x∪0)) (hex:↥(X.ex=[])) :
  PS X (.Raise (some<|.Call (.Name x np) [e1,e2] [] cpos) none pos) (dU8 C f1 f2 E ta):=by
 intro pins s σ H D I h;obtain⟨bm,N,mN,⟨nm,qn,bs,hdd,sn,sub,ab,col,dd,k0,k1,k2,k3,k5,hC⟩,hN,hni,tl⟩:=cE2 I.mod.kin q;have keepS: ∀{pins:List (Addr×Obj)} {σ:St} {H:Hp} {s2:Shared},Inv X pins σ H s2-> ∀b o,X.base.get? b=some o->s2.heap.get? b=some o:=λJ=>J.bk
 refine a9 (nO<|xraise (C:=C) (nm:=nm) (qn:=qn) (N:=N) (bs:=bs) (hdd:=hdd) (sn:=sn) (sub:=sub) (ab:=ab) (col:=col) (dd:=dd) (k0:=k0) (k1:=k1) (k2:=k2) (k3:=k3) (k5:=k5) (newId:=newId) (tl.hasType FB.hasBase) (I.ok.hd hc) ?_)
 refine a9 (bW (wpAny_Call_ofName<|vT I hg hm ?_ hd) (λv s3 h3=>a9 (nO<|aP h3)) λ_ _ z=>z)
 have plain:(backTo cpos<|starEach [e1,e2] X.env).any (·.1)=false:=by
  rw[he];show(false||(backTo cpos<|starEach [e2] X.env).any (·.1))=false;rw[hpl];rfl
 have hh:=ha cpos pins s σ H _ I h;rw[he]at hh plain⊢;refine a9 (iZ<|aO5<|bW hh (λus s2 z=>a9 (nO ?_)) λ_ _ z=>z)
 obtain⟨vs,H1,I1,r1,w1,w2,rfl,hE⟩:=z;simp only[plain];have hC2:=keepS I1 _ _ hC;obtain⟨u1,u2,rfl,q1,q2⟩:=dF5 r1;obtain⟨oc,od,_,_,_,_,_,_,_,_,_,_,osl,_,_,_,_,_,_,_,_,_,_,_,efd,lk,oce,_⟩:=T.ex;have gf:=I1.kIn _ _ lk;obtain⟨hp,gn,dr,tn,os⟩:=s2;refine a9 (wpAny_keeperOf_exc hC2 ?_);refine a9 (xcall FB (tl.keeps<|keepS I1) hC2 (hN.keeps<|keepS I1) hni gf oce (λh' a mk=> ?_) (by simp;decide))
 refine bW (d36 T I1 hr mk q1 q2) (λr s' z=> ?_) λ_ _ z=>z
 obtain⟨rfl,z1,z2,z3,oe,t,d,y1,y2,z4,z5,z6,ed,de,dn,x1,x2,nd⟩:=z;refine⟨rfl,a9<|iZ<|wpAny_point<|aP ?_⟩;have dH:H1 d=none:=I1.hok.there dn;have I2:Inv X pins σ (upd H1 d<|.xd [(f1,w1),(f2,w2)]) s':=by
  obtain⟨hp',gn',dr',tn',os'⟩:=s';obtain rfl:os'=os:=z1;refine I1.call (ch:=[]) (Un.laidN z3 dn dH) (I1.hok.laidN z3 dH ?_) z2 (λb z=>absurd z ae)
  refine⟨_,nd,λf=> ?_⟩
  simp only[dQ]
  by_cases c1:f=f1
  .subst c1;rw[aQ6,a7 hne,aA rfl];exact x1
  .rw[show(f==f1)=false from pN.mpr c1]
   by_cases c2:f=f2
   .subst c2;rw[aQ6,aA rfl];exact x2
   .rw[show(f==f2)=false from pN.mpr c2,a7 c2,a7 c1]
    exact trivial
 refine⟨a,oe,_,rfl,z3 _ _ hC2,z4,z5,z6,rfl,?_⟩
 refine th pins σ _ s' a oe _ (.ref t) (some d) I2 z4 z5 z6 rfl rfl (by rw[cM<|Ne.symm de];exact I1.hok.there mk.new) ?_ (λd' e=>by cases e;exact⟨oe,z4,ed⟩) (hE d dH)
 cases r:X.s₀.heap.get? a with
 | none=>rfl
 | some o=>
  obtain⟨o',q'⟩:=I1.base.there a o r (by rw[hex];simp)
  rw[mk.new]at q';cases q'
end
end L2
namespace M
abbrev XP:=Str->List D->Prop
abbrev ΦX:=List D->(B->Prop)->XP->Prop
nonrec def bW6 (n:Str):List Str:=if n="FallsApart" then ["left","right"]else if n="NotWhole" then ["prime","number"]else []
nonrec def XR (K:Frag)(A:AS)(H:Hp)(n:Str)(ds:List D):Option Addr->Prop
 | none=>bW6 n=[]
 | some d=> ∃vs,¬A d/\H d=some (.xd<|(bW6 n).zip vs)/\(bW6 n).length=vs.length/\bX K A H ds vs
theorem XR.mono {K:Frag}{A A':AS}{H H':Hp}{n:Str}{ds:List D}(p:kO A H A' H'): ∀{o:Option Addr},XR K A H n ds o->XR K A' H' n ds o
 | none,h=>h
 | some d,⟨vs,h1,h2,h3,h4⟩=>⟨vs,(p d _ h1 h2).1,(p d _ h1 h2).2,h3,h4.mono p⟩
nonrec def spX (K:Frag)(mg:Str->Option Value)(φ:ΦX):Sp:=λvs H Q E=> ∃A ds Q0 Ex,(∀a,A a->H a≠none)/\bX K A H ds vs/\φ ds Q0 Ex/\(∀b v H',Q0 b->gN H H'->sB K A H H' b v->Q v H')/\ ∀n C es o H',Ex n es->mg n=some (.ref C)->gN H H'->XR K A H' n es o->E (.ref C) o H'
structure FnX (P:Program)(w:World)(K:Frag)(mg:Str->Option Value)(base:Heap)(x:Str)(ps:List Str)(k:Nat)(φ:ΦX):Prop where
 ex: ∃f fd,sZ P w K mg base (CXr P w base) k f fd ps (spX K mg φ)/\Binds K fd ps []/\keepIn K (.ref f)=true/\mg x=some (.ref f)
abbrev USX:=XP->US
def lSX (K:Frag)(mg:Str->Option Value)(E:XK)(t:USX):TS:=λD σ H=> ∃C ρ D0 Ex,EOk K C ρ σ H/\t Ex D0 ρ/\DOk K C D0 D/\ ∀n Cl es o H',Ex n es->mg n=some (.ref Cl)->gN C.H0 H'->XR K C.A0 H' n es o->E (.ref Cl) o H'
def c37 (X:Cx)(E:XK)(st:Stmt)(t:USX):Prop:=PS X st (lSX X.K X.mg E t)
def a80 (X:Cx)(E:XK)(sts:List Stmt)(t:USX):Prop:=PSs X sts (lSX X.K X.mg E t)
section
variable {X:Cx}{E:XK}{st:Stmt}{sts:List Stmt}{t u:USX}{e:Expr}{es:List Expr}{pos:Pos}
theorem aW6 {t:US}(h:PUS X st t):c37 X E st (λ_=>t):=mI h λD σ H ⟨C,ρ,D0,Ex,I,h,k,_⟩=>⟨C,ρ,D0,I,h,k⟩
theorem dF6 {t:US}(h:qE X sts t):a80 X E sts (λ_=>t):=qF h λD σ H ⟨C,ρ,D0,Ex,I,h,k,_⟩=>⟨C,ρ,D0,I,h,k⟩
theorem c38 (h1:c37 X E st t)(h2:a80 X E sts u):a80 X E (st::sts) (λEx=>aU (t Ex) (u Ex)):=
 qF (l8 h1 h2) λD σ H ⟨C,ρ,D0,Ex,I,h,k,kx⟩=>⟨C,ρ,{D0 with nx:=u Ex D0},Ex,I,h,⟨λρ' σ' H' q I'=>⟨C,ρ',D0,Ex,I',q,k,kx⟩,k.rt,k.bk,k.ct⟩,kx⟩
theorem bH5 (h1:c37 X E st t):a80 X E [st] t:=bC5 h1
theorem cQ7:a80 X E [] (λ_=>dN):=dF6 c20
theorem dF7 {a b:List Stmt}{tc:UT}(hc:PUT X c tc)(ha:a80 X E a t)(hb:a80 X E b u):c37 X E (.If c a b pos) (λEx=>fU tc (t Ex) (u Ex)):=
 mI (cA4 hc ha hb) λD σ H ⟨C,ρ,D0,Ex,I,h,k,kx⟩=>⟨C,ρ,_,I,h,λc ρ1 H1 q f s=>by
  have I1:=(I.frz f).same s;cases c with
  | true=>
   exact⟨C,ρ1,D0,Ex,I1,q,k,kx⟩
  | false=>
   exact⟨C,ρ1,D0,Ex,I1,q,k,kx⟩⟩
def c39 (φ:ΦX)(t:UA)(Ex:XP):UE:=λρ Q=>t ρ λds ρ1=>φ ds (λb=>Q b ρ1) Ex
theorem spX_of {φ:ΦX}{C:C0}{ρ ρ1:Ev}{σ:L2.St}{H H1:Hp}{ds:List D}{vs:List V}{Q0:B->Prop}{Ex:XP}{Q:VK}(I:EOk X.K C ρ σ H)(f:Frz ρ ρ1)(s:gN H H1)(r:bX X.K (Av C ρ1 σ) H1 ds vs)(q:φ ds Q0 Ex)(kq: ∀b v H',Q0 b->gN H1 H'->sB X.K (Av C ρ1 σ) H1 H' b v->Q v H')(kx: ∀n Cl es o H',Ex n es->X.mg n=some (.ref Cl)->gN C.H0 H'->XR X.K C.A0 H' n es o->E (.ref Cl) o H'):spX X.K X.mg φ (vs++[]) H1 Q E:=by
 have I1:=(I.frz f).same s;rw[kY];exact⟨Av C ρ1 σ,ds,Q0,Ex,λa z=>I1.avSome z,r,q,kq,λn Cl es o H' ex hm s' x=>kx n Cl es o H' ex hm (I1.ext.trans s') (x.mono<|.sub (.refl _) λa z=> .inl z)⟩
theorem cX3 {ps:List Str}{φ:ΦX}{t:UA}(F:FnX X.prog X.w X.K X.mg X.base x ps k φ)(hr:i8 k' X.A)(hk:k<=k')(hp:wK (CXr X.prog X.w X.base) X E)(hg:Gl X x)(ha:PUA X (e::es) t)(hdb:⇑(x∪0))
  (he:↥(starEach (e::es) X.env=(false,eval e X.env)::starEach es X.env)) (hpl:↥((backTo cpos<|starEach es X.env).any (·.1)=false)) (hs:↥(swapsWith (.Call (.Name x p) (e::es) [] cpos) none pos.line X.env=pure false)) :
  c37 X E (.Expr (.Call (.Name x p) (e::es) [] cpos) pos) (λEx=>aV9 (c39 φ t Ex)):=by
 obtain⟨f,fd,G,b,kp,m⟩:=F.ex;exact mI (aH3 (cV4 G (hr.mono hk) hg m kp b .nil hp ha hdb he hpl) hs) λD σ H ⟨C,ρ,D0,Ex,I,h,k,kx⟩=>⟨C,ρ,_,I,h,λds ρ1 vs H1 q f s r=>spX_of I f s r q (λb v H' q' s' r'=>k.nx _ _ _ q' (((I.frz f).same s).same s')) kx⟩
def c40 (x:Str)(t:UA)(Ex:XP):US:=λ_ ρ=>t ρ λds _=>ds.length<=sizeLine/\Ex x []
theorem lRaise {t:UA}(hm:X.mg x=some (.ref C))(hk:bW6 x=[])(D:b18)(σ:L2.St)(H:Hp)(h:lSX X.K X.mg E (λEx=>c40 x t Ex) D σ H):dF3 C E (lA X.K t) D σ H:=by
 obtain⟨C0,ρ,D0,Ex,I,h,k,kx⟩:=h;exact⟨C0,ρ,_,I,h,λds ρ1 vs H1 q f s r=>⟨by rw[<-r.length];exact q.1,kx x C [] none H1 q.2 hm (I.ext.trans s) hk⟩⟩
def bD8 (x:Str)(t1 t2:UE)(Ex:XP):US:=λ_ ρ=>t1 ρ λa ρ1=>t2 ρ1 λb _=>Ex x [a.d,b.d]
theorem dF8 {t:UA}{B:String}(FB:ExcBaseFacts B newId initId bmB)(q:excIn X.K C bmB newId=true)(hg:Gl X x)(hm:X.mg x=some (.ref C))(hc:X.calm=true)(ha:PUA X (e::es) t)(th:bH3 X E C)(hk:bW6 x=[])
  (he:↥(starEach (e::es) X.env=(false,eval e X.env)::starEach es X.env)) (hpl:↥((backTo cpos<|starEach es X.env).any (·.1)=false)) (hd:⇑(x∪0)) (hex:↥(X.ex=[])) :
  c37 X E (.Raise (some<|.Call (.Name x np) (e::es) [] cpos) none pos) (λEx=>c40 x t Ex):=mI (dF4 FB q hg hm hc ha th he hpl hd hex) (lRaise hm hk)
theorem bW7 {e1 e2:Expr}{t1 t2:UE}{B:String}(FB:ExcBaseFacts B newId initId bmB)(q:aB2 X.K C fI bmB newId=true)(T:cE1 X.K C fI fd f1 f2)(hr:i8 (k+1) X.A)(hg:Gl X x)(hm:X.mg x=some (.ref C))(hc:X.calm=true)(ha:PUA X [e1,e2] (a8 t1<|a8 t2 aL))(th:bH3 X E C)(hk:bW6 x=[f1,f2])(hne:f1≠f2)
  (he:↥(starEach [e1,e2] X.env=(false,eval e1 X.env)::starEach [e2] X.env)) (hpl:↥((backTo cpos<|starEach [e2] X.env).any (·.1)=false)) (hd:⇑(x∪0)) (hex:↥(X.ex=[])) :
  c37 X E (.Raise (some<|.Call (.Name x np) [e1,e2] [] cpos) none pos) (λEx=>bD8 x t1 t2 Ex):=by
 refine mI (d37 FB q T hr hg hm hc ha th hne he hpl hd hex) λD σ H ⟨C0,ρ,D0,Ex,I,h,k,kx⟩=> ?_
 refine⟨C0,ρ,λds _=> ∃a b,ds=[a,b]/\Ex x ds,I,?_,λds ρ' vs H' ⟨a,b,q1,q2⟩ f s r=> ?_⟩
 .have e9: ∀(z y:M.B) (ρ2:Ev),(∃a b,[z.d,y.d]=[a,b]/\Ex x [z.d,y.d])=Ex x [z.d,y.d]:=λz y ρ2=>propext ⟨λ⟨_,_,_,w⟩=>w,λw=>⟨_,_,rfl,w⟩⟩
  show t1 ρ λz ρ1=>t2 ρ1 λy ρ2=> ∃a b,[z.d,y.d]=[a,b]/\Ex x [z.d,y.d]
  have:=h;simp only[e9 _ _ ρ];exact this
 .subst q1;obtain⟨v1,vr,rfl,r1,r2⟩:=r.uncons;obtain⟨v2,vr2,rfl,r3,r4⟩:=r2.uncons;cases r4.unnil;refine⟨v1,v2,rfl,λd hd=> ?_⟩
  have I1:=(I.frz f).same s;have s2:gN H' (upd H' d<|.xd [(f1,v1),(f2,v2)]):=λb o z=>by rw[cM<|dJ z hd];exact z
  have na: ∀a,C0.A0 a->a≠d:=λa z e=>I1.avSome (.inl z) (by rw[e];exact hd)
  refine kx x C _ (some d) _ q2 hm (I1.ext.trans s2) ⟨[v1,v2],λz=>na d z rfl,?_,by rw[hk];rfl,(bX.cons r1<|.cons r3 .nil).mono λb o n z=>⟨λw=>n (.inl w),s2 b o z⟩⟩
  rw[iF,hk];rfl
theorem dF9 {st:Stmt}{ps:List Str}{φ:ΦX}(F:Fun K x qual st f fd)(S:aY N ps (aF st))
  (len: ∀ds Q Ex,φ ds Q Ex->ds.length=ps.length) {t:USX}
  (der: ∀(cdv:Value) (A:Around) (outer:List Env) (s:Shared) (H:Hp) (E:XK),i8 k (A.deeper<|envOfC qual (aF st) s.heap.objs.size f cdv)->a80 (vQ (CXr P w base) P w K mg base N qual (aF st) f cdv A outer s H E) E (eK st) t)
  (rd: ∀ds Q Ex,φ ds Q Ex->t Ex {Q with} (init N ds)) :
  sZ P w K mg base (CXr P w base) (k+1) f fd ps (spX K mg φ):=by
 obtain⟨oc,od,kV,doc,pm,an,cdv,ct,osl,rfl,lk,hcd⟩:=F.ex;refine d92 lk hcd S (λvs H Q E h=> ?_) λA outer s H vs Q E hr h=> ?_
 .obtain⟨A,ds,Q0,Ex,_,r,h,_⟩:=h;rw[<-r.length];exact len ds Q0 Ex h
 .obtain⟨A',ds,Q0,Ex,hA,r,h,q,qx⟩:=h;refine⟨_,der cdv A outer s H E hr,⟨H,A'⟩,init N ds,_,Ex,c24 hA r,rd ds Q0 Ex h,⟨λρ σ H' z I=> ?_,λb v H' z s r=>q b v H' z s r,λ_ _ _ z=>z.elim,λ_ _ _ z=>z.elim⟩,qx⟩
  exact q _ _ H' z I.ext (show Rep _ _ _ _ _ by simp only[Rep])
theorem FnX.mk' {st:Stmt}{ps:List Str}{φ:ΦX}(F:Fun K x qual st f fd)(m:mg x=some (.ref f))(b:Binds K fd ps [])(S:aY N ps (aF st))
  (len: ∀ds Q Ex,φ ds Q Ex->ds.length=ps.length) {t:USX}
  (der: ∀(cdv:Value) (A:Around) (outer:List Env) (s:Shared) (H:Hp) (E:XK),i8 k (A.deeper<|envOfC qual (aF st) s.heap.objs.size f cdv)->a80 (vQ (CXr P w base) P w K mg base N qual (aF st) f cdv A outer s H E) E (eK st) t)
  (rd: ∀ds Q Ex,φ ds Q Ex->t Ex {Q with} (init N ds)):FnX<$>x ps (k+1) φ:=
 ⟨f,fd,dF9 F S len der rd,b,F.kp,m⟩
end
end M
section
namespace L2
section
variable {X:Cx}{pins:List (Addr×Obj)}{σ:St}{H:Hp}{s:Shared}{h':Heap}{e:Addr}
theorem Inv.past (I:Inv X pins σ H s)(p:bQ6 (frs X.stack) e s.heap h')(hstk:X.stack=X.env::X.outer)(hfr:X.env.frame=some X.env.locals)(hex:X.ex=[])(gs: ∀b o,X.s₀.heap.get? b=some o-> ∃o',g.get? b=some o')(gp: ∀q∈X.pn++pins,∃o',g.get? q.1=some o')(ne:g.get? e=none)(nt: ∀T,Tr s.heap e T->g.get? T=none)(he:H e=none)(ht: ∀T,Tr s.heap e T->H T=none):Inv X pins σ H {s with heap:=h'}:=by
 have none0: ∀b,g.get? b=none->X.s₀.heap.get? b=none:=λb q=>by
  cases r:X.s₀.heap.get? b with
  | none=>rfl
  | some o=>obtain⟨o',q'⟩:=gs b o r;rw[q]at q';cases q'
 have fm: ∀b∈frs X.stack,b=X.env.locals\/b∈X.fs:=λb hb=>by
  rw[hstk]at hb;unfold Cx.fs;unfold frs at hb⊢;rw[nE,hfr]at hb;exact bB.mp hb
 have hL:X.s₀.heap.get? X.env.locals=none:=kS I.ok.above;have hd: ∀b∈X.fs,∀o,s.heap.get? b=some o-> ∀vs,o.data≠ .fields vs:=λb hb o q=>by
  have fl:=I.stack;rw[hstk]at fl;obtain⟨_,o',q',n⟩:=fl.mem (b:=b) (by
   unfold Cx.fs frs at hb;rw[nE,hfr];exact bB.mpr (.inr hb))
  rw[q]at q';cases q';exact n
 have hb0:=I.base;rw[hex]at hb0;have un:=hb0.past p fm hL (none0 e ne) (λT q=>none0 T (nt T q)) hd
 have cellS: ∀c v,s.heap.IsCell c v->h'.IsCell c v:=λc v ⟨o,q1,q2⟩=>by
  obtain⟨sl,q3⟩:=p.slot c o q1 (λvs z=>by rw[q2]at z;cases z)
  exact⟨_,q3,q2⟩
 refine⟨I.ok,I.os,I.bare,by rw[hex];exact un,?_,λx c q=> ?_,I.free,I.freeC,λq hq=> ?_,I.hok.past p I.stkFree he ht,I.len⟩
 .obtain⟨m,hn,hl⟩:=I.loc;refine⟨m,p.slot.ns hn,λi x v a b c=> ?_⟩
  obtain⟨u,r,lo⟩:=hl i x v a b c;refine⟨u,r,?_⟩;rcases lo with z| ⟨z1,c,z2,z3⟩
  .exact .inl z
  .exact .inr ⟨z1,c,z2,cellS c _ z3⟩
 .obtain⟨v,z⟩:=I.cell x c q;exact⟨v,cellS c v z⟩
 .obtain⟨z1,z2,z3,z4,z5⟩:=I.pin q hq;obtain⟨o',g1⟩:=gp q hq;refine⟨p.keep q.1 q.2 z1 (λz=> ?_) (λz=>by rw[z,ne]at g1;cases g1) (λz=>by rw[nt _ z]at g1;cases g1),z2,z3,z4,z5⟩
  rcases fm _ z with y|y
  .exact z3 y
  .exact z4 y
end
noncomputable abbrev Cx.inX (X:Cx)(e:Addr):Cx:={X with A:=X.A.mark (some<|.ref e),calm:=false,xe:=λ_ _=>False}
theorem Cx.Ok.inX {X:Cx}(ok:X.Ok)(e:Addr):(X.inX e).Ok:=
 ⟨ok.mod,ok.kind,ok.glob,ok.blt,ok.above,ok.inj,ok.has,ok.cab,(λz=>by cases z),ok.frames,ok.stk,ok.exf,ok.bs,ok.bsz,ok.noex,ok.exfs,ok.funs,ok.frf⟩
section
variable {X:Cx}{pins:List (Addr×Obj)}{σ:St}{H:Hp}{s:Shared}{e:Addr}
theorem Inv.inX (I:Inv X pins σ H s)(e:Addr):Inv (X.inX e) pins σ H s:=⟨I.ok.inX e,I.os,I.bare,I.base,I.loc,I.cell,I.free,I.freeC,I.pin,I.hok,I.len⟩
theorem Cx.Ok.outX {X:Cx}{Y:Cx}(okY:Y.Ok){e:Addr}(ok:(X.inX e).Ok)(hd:X.calm=true->X.A.handled=none):X.Ok:=
 ⟨ok.mod,ok.kind,ok.glob,ok.blt,ok.above,ok.inj,ok.has,ok.cab,hd,ok.frames,ok.stk,ok.exf,ok.bs,ok.bsz,ok.noex,ok.exfs,ok.funs,ok.frf⟩
theorem Inv.outX (I:Inv (X.inX e) pins σ H s)(hd:X.calm=true->X.A.handled=none):Inv X pins σ H s:=⟨I.ok.outX I.ok hd,I.os,I.bare,I.base,I.loc,I.cell,I.free,I.freeC,I.pin,I.hok,I.len⟩
theorem SP.outX {D:b18}{f:Flow}(h:SP (X.inX e) pins D f s')(hd:X.calm=true->X.A.handled=none):SP X pins D f s':=by
 cases f with
 | next=>obtain⟨σ',H',I,q⟩:=h;exact⟨σ',H',I.outX hd,q⟩
 | brk=>obtain⟨σ',H',I,q⟩:=h;exact⟨σ',H',I.outX hd,q⟩
 | cont=>obtain⟨σ',H',I,q⟩:=h;exact⟨σ',H',I.outX hd,q⟩
 | ret u=>obtain⟨v,σ',H',I,r,q⟩:=h;exact⟨v,σ',H',I.outX hd,r,q⟩
theorem dG0 {M:Model}{hp:Heap}{gn:Array GenState}{dr:Drawn}{tn:Nat}{os:OsState}{Q:Bool->Shared->Prop}
  {nm qn:Str} {N:Addr} {bs bm:List Value} {hdd:Bool} {sn:List Str} {sub:List Value} {ab:Bool} {col:Option Bool} {dd:Option Addr} {k0 k1 k2 k3 k5:Option Value} {newId:String}
  {nm' qn':Str} {N':Addr} {bs' bm':List Value} {hdd':Bool} {sn':List Str} {sub':List Value} {ab':Bool} {col':Option Bool} {dd':Option Addr} {k0' k1' k2' k3' k5':Option Value} {newId':String}
  (hC:hp.get? C=some (excClassObj nm qn C N bs bm hdd sn sub ab col dd k0 k1 k2 k3 k5 newId)) (hR:hp.get? R=some (excClassObj nm' qn' R N' bs' bm' hdd' sn' sub' ab' col' dd' k0' k1' k2' k3' k5' newId'))
  (he:hp.get? e=some oe) (hcl:oe.cls= .ref C) (hb:bm'.contains (.type "BaseException")=true) (hr:(Value.ref C::bm).contains (.ref R)=true) (hq:Q true ⟨hp,gn,dr,tn,os⟩) :
  wpAny M A (excMatches (.ref e)<|.ref R) Q E ⟨hp,gn,dr,tn,os⟩:=by
 have t1:(Value.ref R::bm').contains (.type "BaseException")=true:=by rw[aP7,hb,Bool.or_true]
 have t2:=tc_notTuple;unfold excMatches
 repeat (first
  | (with_reducible refine nG he ?_;rw[hcl])
  | with_reducible refine nG hR ?_
  | (with_reducible refine zS hR ?_;rw[t1])
  | (with_reducible refine zS hC ?_;rw[hr])
  | wp_step)
 exact hq
end
theorem bW5.past {fs:List Addr}{e:Addr}(n:bW5 g e h)(p:bQ6 fs e h h')(gh: ∀b o,g.get? b=some o-> ∃o',h.get? b=some o')(hf: ∀b∈fs,∀o,h'.get? b=some o-> ∀vs,o.data≠ .fields vs):bW5 g e h':=by
 refine⟨n.he,λT q=> ?_⟩
 rcases p.tr T q with z|z|z|z
 .obtain⟨o,vs,q1,q2⟩:=p.rcd T q;exact absurd q2 (hf T z o q1 vs)
 .rw[z];exact n.he
 .exact n.ht T z
 .cases r:g.get? T with
  | none=>rfl
  | some o=>obtain⟨o',q'⟩:=gh T o r;rw[z]at q';cases q'
theorem cQ8 {fs:List Addr}{e:Addr}(n:bW5 g e h)(p:bQ6 fs e h h')(gh: ∀b o,g.get? b=some o-> ∃o',h.get? b=some o')(hf: ∀b∈fs,∀o,h.get? b=some o-> ∀vs,o.data≠ .fields vs): ∀b o,g.get? b=some o-> ∃o',h'.get? b=some o':=λb o q=>by
 obtain⟨o',q'⟩:=gh b o q
 by_cases c:b∈fs
 .obtain⟨sl,z⟩:=p.slot b o' q' (hf b c o' q');exact⟨_,z⟩
 .exact⟨o',p.keep b o' q' c (λz=>by rw[z,n.he]at q;cases q) λz=>by rw[n.ht b z]at q;cases q⟩
theorem notf {l:List Env}(f:h.FunFrames base l): ∀b∈frs l,∀o,h.get? b=some o-> ∀vs,o.data≠ .fields vs:=λb hb o q=>by
 obtain⟨_,o',q',n⟩:=f.mem hb;rw[q]at q';cases q';exact n
def aW7 (CX:CXT)(X:Cx)(E:XK)(pins:List (Addr×Obj))(σ:St):Prop:= ∀(H:Hp) (s:Shared) (e:Value) (s':Shared),Inv X pins σ H s->CX X.stack H s E e s'->X.xe e s'
def bH6 (K:Frag)(R C:Addr)(bmB:List Value)(newId:String):Prop:=(excIn K C bmB newId=true\/ ∃fI,aB2 K C fI bmB newId=true)/\ ∃cd,clsIn K C=some cd/\cd.mro.contains (.ref R)=true
def UnderB (K:Frag)(R C:Addr)(bmB:List Value)(newId:String)(b:Bool):Prop:=(excIn K C bmB newId=true\/ ∃fI,aB2 K C fI bmB newId=true)/\ ∃cd,clsIn K C=some cd/\cd.mro.contains (.ref R)=b
theorem dG1 {N:Addr}{bm:List Value}{cd:ClassData}(X:K.In h)
  (o:XO h C N bm newId) (hc:clsIn K C=some cd):cd.mro=Value.ref C::bm:=by
 cases o with|mk _ _ _ _ _ _ _ _ _ _ _ _ _ _ hC;unfold clsIn at hc;split at hc
 .rename_i look
  have same:=X _ _ look;rw[hC]at same;cases hc
  injection same with same
  injection same with _ _ same _
  injection same with same
  rw[<-same]
 .cases hc
theorem underB {b:Bool}(X:K.In h)(u:UnderB K R C bmB newId b): ∃N bm,XO h C N bm newId/\(Value.ref C::bm).contains (.ref R)=b:=by
 obtain⟨a,cd,hc,hr⟩:=u;rcases a with a| ⟨fI,a⟩
 .obtain⟨bm,N,_,o,_⟩:=c36 X a;exact⟨N,bm,o,by rw[<-dG1 X o hc];exact hr⟩
 .obtain⟨bm,N,_,o,_⟩:=cE2 X a;exact⟨N,bm,o,by rw[<-dG1 X o hc];exact hr⟩
section
variable {X:Cx}
def tTry (K:Frag)(R:Addr)(bmB:List Value)(newId:String)(tb:XK->TS)(th:TS):TS:=λD σ H=> ∃E,tb E D σ H/\ ∀C o H',E (.ref C) o H'->bH6 K R C bmB newId/\th D σ H'
theorem ps_try {body:List Stmt}{b0:Stmt}{suite:List Stmt}{r:Str}{rp hpos pos:Pos}{R:Addr}{B newId initId:String}{bmB:List Value}{tb:XK->TS}{th:TS}(FB:ExcBaseFacts B newId initId bmB)(hstk:X.stack=X.env::X.outer)(hfr:X.env.frame=some X.env.locals)(hex:X.ex=[])(hc:X.calm=true)
  (hbody: ∀(xe:Value->Shared->Prop) (E:XK) (pins:List (Addr×Obj)) (s:Shared) (σ:St) (H:Hp) (D:b18),Inv (X.wish xe) pins σ H s->aW7 (CXr X.prog X.w X.base) (X.wish xe) E pins σ->tb E D σ H->X∩(execs body X.env) (SP (X.wish xe) pins D) xe s)
  (hsuite: ∀a,PSs (X.inX a) (b0::suite) th) (hg:Gl X r) (hm:X.mg r=some (.ref R)) (hR:excIn X.K R bmB newId=true) (hd:⇑(r∪0)) :
  PS X (.Try body [.ExceptHandler (some<|.Name r rp) none (b0::suite) hpos] [] [] pos) (tTry X.K R bmB newId tb th):=by
 rintro pins s σ H D I ⟨E,hb,hx⟩;refine wpAny_Try_except ?_;have goX:aW7 (CXr X.prog X.w X.base) (X.wish λe s1=>X∩(noteFrame e X.env) (λ_ s2=>X∩(setFlight e none) (λ_ s3=>X∩(handleBy e X.env [.ExceptHandler (some<|.Name r rp) none (b0::suite) hpos]) (SP X pins D) X.xe s3) X.xe s2) X.xe s1) E pins σ:=by
  rintro H1 s1 e s' J ⟨a,C,o',H',rfl,ho,hbr,un,hok,⟨⟨a0,fl⟩,fe,ft⟩,nw,_,hE⟩;have J0:=J.unwish;have J1:Inv X pins σ H' s':=J0.call' ho un hok hbr (λb z=>absurd z ae)
  obtain⟨under,hth⟩:=hx C o' H' hE;have fl':FlyingW X.base X.stack a (.ref C) a0 s'.heap:=fl;have frs':=J1.ok.frames;have g0: ∀b o,s1.heap.get? b=some o-> ∃o',s'.heap.get? b=some o':=λb o q=>un.there b o q ae
  have gs: ∀b o,X.s₀.heap.get? b=some o-> ∃o',s1.heap.get? b=some o':=λb o q=>J0.base.there b o q (by rw[hex];simp)
  have gp: ∀q∈X.pn++pins,∃o',s1.heap.get? q.1=some o':=λq hq=>⟨_,(J0.pin q hq).1⟩
  rw[hstk]at fl' frs';refine dF1 frs' hfr fl' λh2 held p2=> ?_
  rw[<-hstk]at p2 held fl';have J2:=J1.past p2 hstk hfr hex gs gp nw.he nw.ht fe ft;have n2:=nw.past p2 g0 (notf held.2.2.1);have g2:=cQ8 nw p2 g0 (notf fl'.2.2.1);have t2:=bD7 J1.hok p2 J1.stkFree fe ft;refine cD9 held λh3 fl3 p3=> ?_
  have J3:=J2.past p3 hstk hfr hex gs gp n2.he n2.ht fe t2;have n3:=n2.past p3 g2 (notf fl3.2.2.1);have t3:=bD7 J2.hok p3 J2.stkFree fe t2;obtain⟨oe,he,hcl⟩:=fl3.there;obtain⟨_,bm,⟨_,_,_,_,_,_,_,_,_,_,_,_,_,_,hC⟩,hin⟩:=underB J3.kIn under;obtain⟨bm',_,_,⟨_,_,_,_,_,_,_,_,_,_,_,_,_,_,hRo⟩,_,_,tl'⟩:=c36 J3.kIn hR
  refine wpAny_handleBy_cons (codeAny_handlers_test<|vT (J3.inX a) hg hm ?_ hd) (by intro q;cases q)
  refine dG0 hC hRo he hcl (tl'.hasType FB.hasBase) hin ?_
  refine codeAny_handlers_suite (cD9 fl3 λh4 fl4 p4=> ?_)
  have J4:=J3.past p4 hstk hfr hex gs gp n3.he n3.ht fe t3;exact bW (hsuite a pins _ σ H' D (J4.inX a) hth) (λf s2 q=>q.outX λ_=>J4.ok.hd hc) λ_ _ z=>z.elim
 refine bW (hbody _ E pins s σ H D (I.wish _) goX hb) (λf s1 q=> ?_) λ_ _ z=>z
 have q':=q.unwish;cases f with
 | next=>exact nL q'
 | ret v=>exact q'
 | brk=>exact q'
 | cont=>exact q'
end
section
variable {X:Cx}{CX:CXT}{k:Nat}{f C:Addr}{fd:FuncData}{ps:List Str}{sp:Sp}{dvs:List V}{ds:List Value}{E:XK}{x:Str}{p pos:Pos}{e:Expr}{es:List Expr}{t:TA}
theorem d38 {pins:List (Addr×Obj)}{σ:St}{H:Hp}{s:Shared}{Q:VK}{us:List Value}{vs:List V}(M:Mk X.K C f)(F:sZ X.prog X.w X.K X.mg X.base CX k f fd ps sp)(hr:i8 (k+1) X.A)(hb:Binds X.K fd ps [])
  (hx:aW7 CX X E pins σ) (I:Inv X pins σ H s) (r:Vals vs us)
  (h: ∀x dx,H x=none->H dx=none->dx≠x->sp (.ref x::vs) (upd (upd H dx<|.own x) x<|.ins C dx []) (λv H2=>v= .non/\Q (.ref x) H2) E) :
  X∩(call (.ref C) us) (EP X pins σ Q) X.xe s:=by
 have hq:=h (s.heap.objs.size+1) s.heap.objs.size (I.hok.fresh<|qA _) (I.hok.fresh<|aK _) (bM<|pU _);have I2:=Inv.made (C:=C) I;have r2:Vals (V.ref (s.heap.objs.size+1)::vs) (Value.ref (s.heap.objs.size+1)::us):= .cons rfl r;have hl:(Value.ref (s.heap.objs.size+1)::us++[]).length=ps.length:=by
  have e:=r2.length;rw[F.len _ _ _ _ hq]at e;rw[kY];exact e.symm
 have bd:=hb (s:={s with heap:=(s.heap.push {cls:= .type "dict",data:= .dict #[]}).push (instObj C s.heap.objs.size)}) (Value.ref (s.heap.objs.size+1)::us) I2.kIn hl;rw[kY]at bd;refine uL (cA9 (f:=f) I.kIn M.makes M.init (gI.mp M.fn) (uG (F.run _ X.stack _ _ ⟨Value.ref (s.heap.objs.size+1)::us,[]⟩ (Value.ref (s.heap.objs.size+1)::us) _ _ E (hr.make C us [])
  (I2.env0.make C us []) bd r2 hq) λr s' hq'=> ?_))
 cases r with
 | error e=>exact hx _ _ e s' I2 hq'
 | ok fl=>
  cases fl with
  | ret u=>
   obtain⟨v,H',I3,rv,ev,q3⟩:=I2.after hq';subst ev;exact⟨rv,⟨V.ref<|s.heap.objs.size+1,H',I3,rfl,q3⟩⟩
  | next=>exact False.elim hq'
  | brk=>exact False.elim hq'
  | cont=>exact False.elim hq'
theorem dU9 {σ:St}{H:Hp}{Q:VK}(M:Mk X.K C f)(F:sZ X.prog X.w X.K X.mg X.base CX k f fd ps sp)(hr:i8 (k+1) X.A)(hg:Gl X x)(hm:X.mg x=some (.ref C))(hb:Binds X.K fd ps [])(hx:aW7 CX X E pins σ)
  (ha:PA X (e::es) t) (I:Inv X pins σ H s) (h:cV3 C sp [] E t σ H Q) (hdb:x∪0) (he:starEach (e::es) X.env=(false,eval e X.env)::starEach es X.env) (hpl:(backTo pos<|starEach es X.env).any (·.1)=false) :
  X∩(eval (.Call (.Name x p) (e::es) [] pos) X.env) (EP X pins σ Q) X.xe s:=by
 refine pP (vT I hg hm ?_ hdb)
 refine aP5 (h₀:=X.base) I.ok.mod.kin M.kp (thn (ha pos pins s σ H _ I h) λus s1 ⟨vs,H1,I1,r,q⟩=>⟨I1.kIn,?_⟩) he hpl
 exact d38 M F hr hb hx I1 r λx dx a b c=>by have:=q x dx a b c;rw[kY]at this;exact this
end
end L2
namespace M
section
variable {X:Cx}{e:Expr}{es:List Expr}{pos:Pos}{te:UE}{K:Frag}{A:AS}{H:Hp}
def c41 (f:Str)(t:UE):UE:=λρ Q=>t ρ λb ρ1=>match b.d with
 | .obj _ ks l=>(match(ks.zip l).lookup f with
  | some d=>Q (.pu d) ρ1
  | none=>False)
 | _=>False
theorem bX.field {f:Str}{d:D}: ∀{ks:List Str} {l:List D} {vs:List V},bX K A H l vs->(ks.zip l).lookup f=some d-> ∃v,(ks.zip vs).lookup f=some v/\Rep K A H d v/\f∈ks
 | [],_,_,_,h=>by simp at h
 | _::_,[],_,_,h=>by simp at h
 | q::ks,a::l,vs,r,h=>by
  obtain⟨v,vr,rfl,r1,r2⟩:=r.uncons;rw[List.zip_cons_cons,dQ]at h;rw[List.zip_cons_cons,dQ];cases c:f==q with
  | true=>
   rw[c]at h;cases h;exact⟨v,rfl,r1,by rw[gI.mp c];simp⟩
  | false=>
   rw[c]at h;obtain⟨w,h1,h2,h3⟩:=bX.field r2 h;exact⟨w,h1,h2,fB _ h3⟩
theorem c42 {f:Str}(he:PU X e te)(hb:↥(attributeBase e f X.env (eval e X.env)=eval e X.env)):PU X (.Attribute e f pos) (c41 f te):=
 jA (pe_fld he hb) λσ H Q ⟨C,ρ,Q0,I,h,k⟩=>⟨C,ρ,_,I,h,λb ρ1 v H1 q fz s r=>by
  have rr:=r.rep λa z=>I.avF fz z
  cases ed:b.d with
  | obj C' ks l=>
   rw[ed]at rr q;dsimp only at q;cases el:(ks.zip l).lookup f with
   | none=>rw[el]at q;exact q.elim
   | some d=>
    rw[el]at q;obtain⟨a,dx,vs,rfl,n,c,hl,rl,ok⟩:=rr;obtain⟨w,h1,h2,h3⟩:=rl.field el;exact⟨a,C',dx,ks.zip vs,w,rfl,c,ok.1,ok.2 f h3,h1,k _ ρ1 w H1 q fz s h2⟩
  | _=>rw[ed]at q;exact q.elim⟩
abbrev ΦM:=List D->(List D->Prop)->XP->Prop
nonrec def spI (K:Frag)(mg:Str->Option Value)(C:Addr)(ks:List Str)(φ:ΦM):Sp:=λvs H Q E=> ∃(x dx:Addr) (vs':List V) (A:AS) (ds:List D) (Q0:List D->Prop) (Ex:XP),vs=V.ref x::vs'/\H x=some (.ins C dx [])/\H dx=some (.own x)/\ ¬A x/\ ¬A dx/\(∀a,A a->H a≠none)/\bX K (λb=>A b\/b=x) H ds vs'/\φ ds Q0 Ex/\
 (∀l ws H',Q0 l->(∀b o,b≠x->H b=some o->H' b=some o)->H' x=some (.ins C dx<|ks.zip ws)->ks.length=ws.length->bX K (λb=>A b\/b=x) H' l ws->Q .non H')/\
 ∀n Cl es o H',Ex n es->mg n=some (.ref Cl)->(∀b o,b≠x->H b=some o->H' b=some o)->XR K A H' n es o->E (.ref Cl) o H'
structure MkX (P:Program)(w:World)(K:Frag)(mg:Str->Option Value)(base:Heap)(x:Str)(k:Nat)(ks:List Str)(φ:ΦM):Prop where
 ex: ∃C f fd ps,Mk K C f/\OkC K C ks/\sZ P w K mg base (CXr P w base) k f fd ps (spI K mg C ks φ)/\Binds K fd ps []/\mg x=some (.ref C)
theorem e21 {φ:ΦM}{t:UA}{E:XK}{C0:C0}{ρ:Ev}{σ:L2.St}{Q:VK}{Q0:Ev->List D->Prop}{Ex:Ev->XP}(ok:OkC X.K C ks)(I:EOk X.K C0 ρ σ H)(h:t ρ λds ρ1=>φ ds (Q0 ρ1) (Ex ρ1))
  (kq: ∀l ρ1 v H',Q0 ρ1 l->Frz ρ ρ1->gN H H'->Rep X.K (Av C0 ρ1 σ) H' (.obj C ks l) v->Q v H') (kx: ∀n Cl ρ1 es o H',Ex ρ1 n es->X.mg n=some (.ref Cl)->EOk X.K C0 ρ1 σ H'->XR X.K (Av C0 ρ1 σ) H' n es o->E (.ref Cl) o H') :
  cV3 C (spI X.K X.mg C ks φ) [] E (lA X.K t) σ H Q:=by
 refine⟨C0,ρ,_,I,h,λds ρ1 vs H1 q f s r x dx nx nd ne=> ?_⟩
 have I1:=(I.frz f).same s;have hA: ∀a,Av C0 ρ1 σ a->H1 a≠none:=λa z=>I1.avSome z
 have s3:gN H1 (upd (upd H1 dx<|.own x) x<|.ins C dx []):=λb o z=>by
  rw[cM<|dJ z nx,cM<|dJ z nd];exact z
 have back: ∀H',(∀b o,b≠x->upd (upd H1 dx<|.own x) x (.ins C dx []) b=some o->H' b=some o)->gN H1 H':=λH' z b o q'=>z b o (dJ q' nx) (s3 b o q')
 rw[kY];refine⟨x,dx,vs,Av C0 ρ1 σ,ds,Q0 ρ1,Ex ρ1,rfl,iF,by rw[cM ne];exact iF,λz=>hA x z nx,λz=>hA dx z nd,λa z q'=> ?_,r.mono<|kO.fresh s3 nx,q,λl ws H' q0 kp hx hl rl=>⟨rfl,?_⟩,λn Cl es o H' ex hm kp xr=> ?_⟩
 .cases e':H1 a with
  | none=>exact hA a z e'
  | some o=>rw[s3 a o e']at q';cases q'
 .refine kq l ρ1 _ H' q0 f (s.trans<|back H' kp) ?_
  exact⟨x,dx,ws,rfl,λz=>hA x z nx,hx,hl,rl.mono<|.sub (.refl _) λa z=> .inl z,ok⟩
 .exact kx n Cl ρ1 es o H' ex hm (I1.same<|back H' kp) xr
def dG2 (ks:List Str)(φ:ΦM)(t:UA):UE:=λρ Q=>t ρ λds ρ1=>φ ds (λl=> ∀C,Q (.pu<|.obj C ks l) ρ1) λ_ _=>False
theorem dV0 {φ:ΦM}{t:UA}(F:MkX X.prog X.w X.K X.mg X.base x k ks φ)(hr:i8 (k'+1) X.A)(hk:k<=k')(hg:Gl X x)(ha:PUA X (e::es) t)(hdb:⇑(x∪0))
  (he:↥(starEach (e::es) X.env=(false,eval e X.env)::starEach es X.env)) (hpl:↥((backTo pos<|starEach es X.env).any (·.1)=false)):PU X (.Call (.Name x p) (e::es) [] pos) (dG2 ks φ t):=by
 obtain⟨C,f,fd,ps,M,ok,G,b,m⟩:=F.ex;have hp:wK (CXr X.prog X.w X.base) X (λ_ _ _=>False):=by
  rintro pins σ H s e s' I ⟨_,_,_,_,_,_,_,_,_,_,_,_,z⟩;exact z.elim
 refine jA (dQ7 M (G.mono hk) hr hg m b .nil hp ha hdb he hpl) λσ H Q ⟨C0,ρ,Q0,I,h,k⟩=> ?_
 exact e21 ok I h (λl ρ1 v H' q f s r=>k _ ρ1 v H' (q C) f s r) λn Cl ρ1 es o H' z=>z.elim
def dG3 (i:Nat)(ks:List Str)(φ:ΦM)(t:UA)(names:List Str)(th:US):US:=λE ρ=>t ρ λds ρ1=>φ ds (λl=> ∀C,E.nx<|ρ1.set i<|some<|.pu<|.obj C ks l) λn _=>n∈names/\th E ρ1
theorem dV1 {φ:ΦM}{r:Str}{rp hpos:Pos}{t:UA}{b0:Stmt}{suite:List Stmt}{th:US}{B:String}(i:Nat)(names:List Str)(FB:ExcBaseFacts B newId initId bmB)(F:MkX X.prog X.w X.K X.mg X.base x k ks φ)(hr:i8 (k'+1) X.A)(hk:k<=k')(hstk:X.stack=X.env::X.outer)(hfr:X.env.frame=some X.env.locals)(hex:X.ex=[])(hc:X.calm=true)
  (hg:Gl X x) (ha: ∀xe,PUA (X.wish xe) (e::es) t) (hN:X.N.Nodup) (hi:X.N[i]? =some y) (hy:Loc X.env.scope y) (hsuite: ∀a,qE (X.inX a) (b0::suite) th) (hgr:Gl X r) (hmr:X.mg r=some (.ref R)) (hR:excIn X.K R bmB newId=true) (hu: ∀n∈names,∀C,X.mg n=some (.ref C)->bH6 X.K R C bmB newId)
  (hl: ∀pins σ H s,Inv X pins σ H s->i<σ.length) (hdb:⇑(x∪0)) (hd:⇑(r∪0))
  (he:↥(starEach (e::es) X.env=(false,eval e X.env)::starEach es X.env)) (hpl:↥((backTo cpos<|starEach es X.env).any (·.1)=false)) (hs:↥(swapsWith (.Call (.Name x p) (e::es) [] cpos) (some<|.Name y py) apos.line X.env=pure false)) (hf:X.fn y=true\/X.env.scope.names.lookup y=some .local:=by walk_at "z") :
  PUS X (.Try [.Assign [.Name y py] (.Call (.Name x p) (e::es) [] cpos) apos] [.ExceptHandler (some<|.Name r rp) none (b0::suite) hpos] [] [] pos) (dG3 i ks φ t names th):=by
 obtain⟨C,f,fd,ps,M,ok,G,b,m⟩:=F.ex;intro pins s σ H D J q;refine ps_try (tb:=λE=>dP7 (cV3 C (spI X.K X.mg C ks φ) [] E<|lA X.K t) (a75 i)) (th:=lS X.K th) FB hstk hfr hex hc (λxe E pins s σ H D I pa h=> ?_) hsuite hgr hmr hR hd pins s σ H D J ?_
 .refine u9 (wpAny_Assign_Name (thn (dU9 (X:=X.wish xe) M (G.mono hk) hr hg m b pa (ha xe) I h hdb he hpl) λv s1 ⟨y',H1,I1,r1,q1⟩=> ?_) hs)
  exact yJ (X:=X.wish xe) I1 hN hi hy r1 (λs2 I2=>nL ⟨_,H1,I2,q1⟩) hf
 .obtain⟨C0,ρ,D0,I,h,k⟩:=q;refine⟨λcls _ H'=> ∃n Cl ρ1,cls=Value.ref Cl/\X.mg n=some (.ref Cl)/\n∈names/\th D0 ρ1/\EOk X.K C0 ρ1 σ H',?_,?_⟩
  .exact e21 ok I h
    (λl ρ1 v H' q f s1 r=>k.nx _ _ _ (q C) ((I.frz f).store s1 (show sB X.K (Av C0 ρ1 σ) H H' (.pu<|.obj C ks l) v from r)<|hl pins σ H s J)) λn Cl ρ1 es o H' z hm' I' _=>⟨n,Cl,ρ1,rfl,hm',z.1,z.2,I'⟩
  .rintro Cl o H' ⟨n,Cl',ρ1,e1,hm',hn,ht,I'⟩;cases e1;exact⟨hu n hn Cl hm',C0,ρ1,D0,I',ht,k⟩
end
section
variable {K:Frag}{C:C0}{ρ ρ':Ev}{σ:L2.St}{H H':Hp}
theorem EOk.poke {x:Addr}{o:HO}(I:EOk K C ρ σ H)(ax:C.A0 x)(hx: ∀vs,C.H0 x≠some (.lst vs)):EOk K ⟨λb=>if b=x then some o else C.H0 b,C.A0⟩ ρ σ (upd H x o):=by
 have ne: ∀a,C.H0 a=none->a≠x:=λa z e=>by subst e;exact I.a0 a ax z
 have P:kO (Av C ρ σ) H (Av ⟨λb=>if b=x then some o else C.H0 b,C.A0⟩ ρ σ) (upd H x o):=λb u nb e=>⟨nb,by rw[cM λz=>nb (by subst z;exact .inl ax)];exact e⟩
 refine⟨I.len,?_,?_,I.inj,?_,?_,?_⟩
 .intro i d h;obtain⟨v,h1,h2⟩:=I.pu i d h;exact⟨v,h1,h2.mono P⟩
 .intro i l h;obtain⟨a,vs,h1,h2,h3,h4⟩:=I.ow i l h;have na:=ne a h3;exact⟨a,vs,h1,by rw[cM na];exact h2,by show(if a=x then some o else C.H0 a)=none;rw[a7 na];exact h3,h4.mono P⟩
 .intro i l h;obtain⟨a,vs,h1,h2,h3,h4⟩:=I.bo i l h;have na:a≠x:=λz=>by subst z;exact hx vs h3
  exact⟨a,vs,h1,h2,by show(if a=x then some o else C.H0 a)=_;rw[a7 na];exact h3,h4.mono P⟩
 .intro b u h
  by_cases c:b=x
  .subst c;have h':(if b=b then some o else C.H0 b)=some u:=h;rw[aA rfl]at h';rw[iF];exact h'
  .have h':(if b=x then some o else C.H0 b)=some u:=h;rw[a7 c]at h';rw[cM c];exact I.ext b u h'
 .intro a z;show(if a=x then some o else C.H0 a)≠none;split
  .simp
  .exact I.a0 a z
theorem bH7 {x Cl:Addr}{fs:List (Str×V)}{f:Str}{te:UE}{Q0:B->Ev->Prop}{D:b18}(I:EOk K C ρ σ H)(ax:C.A0 x)(hx:H x=some (.ins Cl dx fs))(h0:ρ[0]? =some (some<|.pu<|.adr x))(cl:Cls K Cl)(na:a97 K Cl f)(hf:fs.length<1000)(h:te ρ Q0)
  (k: ∀b ρ1 w H',Q0 b ρ1->ρ1[0]? =some (some<|.pu<|.adr x)->(∀a o,a≠x->H a=some o->H' a=some o)->H' x=some (.ins Cl dx<|vP f w fs)->(∃C1:C0,C1.A0=C.A0/\EOk K C1 ρ1 σ H')->Rep K C.A0 H' b.d w->(∀d v,Rep K C.A0 H d v->Rep K C.A0 H' d v)->D.nx σ H') :
  d87 K (yK 0) (lE K te) f D σ H:=by
 refine⟨C,ρ,Q0,I,h,λb ρ1 w H1 q fz s r=> ?_⟩
 have I1:=(I.frz fz).same s;have h1:ρ1[0]? =some (some<|.pu<|.adr x):=by
  rcases fz.2 0 with z| ⟨l,z,_⟩
  .rw[z];exact h0
  .rw[h0]at z;cases z
 obtain⟨v,e1,e2⟩:=I1.pu 0 _ h1;simp only[Rep]at e2;subst e2;have hx1:=s _ _ hx;have nl: ∀vs,C.H0 x≠some (.lst vs):=λvs z=>by
  have:=I.ext x _ z;rw[hx]at this;cases this
 have P:kO C.A0 H1 C.A0 (upd H1 x<|.ins Cl dx<|vP f w fs):=kO.upd ax;refine⟨.ref x,e1,x,Cl,dx,fs,rfl,hx1,cl,na,hf,k b ρ1 w _ q h1 (λa o ne e=>by rw[cM ne];exact s a o e) iF ⟨⟨λb=>if b=x then some (.ins Cl dx<|vP f w fs)else C.H0 b,C.A0⟩,rfl,I1.poke (o:= .ins Cl dx (vP f w fs)) ax nl⟩ ?_ λd v r'=> ?_⟩
 .exact((r.rep λa z=>I.avF fz z).mono<|.sub (.refl _) λa z=> .inl z).mono P
 .exact(r'.mono<|.same s).mono P
end
section
variable {X:Cx}{E:XK}{st:Stmt}{sts:List Stmt}{t u:USX}{tS:TS}
theorem dV2 (h1:c37 X E st t)(h2:PSs X sts tS):PSs X (st::sts) (λD=>lSX X.K X.mg E t {D with nx:=tS D}):=l8 h1 h2
theorem bD9 (h1:c37 X E st t)(h2:PSs X sts (λD=>lSX X.K X.mg E u {D with nx:=tS D})):PSs X (st::sts) (λD=>lSX X.K X.mg E (λEx=>aU (t Ex) (u Ex)) {D with nx:=tS D}):=
 qF (l8 h1 h2) λD σ H ⟨C,ρ,D0,Ex,I,h,k,kx⟩=>⟨C,ρ,{D0 with nx:=u Ex D0},Ex,I,h,⟨λρ' σ' H' q I'=>⟨C,ρ',D0,Ex,I',q,k,kx⟩,k.rt,k.bk,k.ct⟩,kx⟩
def tS3 (K:Frag)(f1 f2 f3:Str)(t1 t2 t3:UE):TS:=tSeq (d87 K (yK 0) (lE K t1) f1) (tSeq (d87 K (yK 0) (lE K t2) f2)<|d87 K (yK 0) (lE K t3) f3)
end
theorem dG4 {Cl:Addr}{ps:List Str}{φ:ΦM}{f3:Str}{t1 t2 t3:UE}(F:Fun K x qual st f fd)(S:aY N ps (aF st))(ok:OkC K Cl [f1,f2,f3])(n1:f1≠f2)(n2:f1≠f3)(n3:f2≠f3)
  (len: ∀ds Q Ex,φ ds Q Ex->ds.length+1=ps.length) (hN:N≠[]) {t:USX}
  (der: ∀(cdv:Value) (A:Around) (outer:List Env) (s:Shared) (H:Hp) (E:XK),i8 k (A.deeper<|envOfC qual (aF st) s.heap.objs.size f cdv)->
   PSs (vQ (CXr P w base) P w K mg base N qual (aF st) f cdv A outer s H E) (eK st) (λD=>lSX K mg E t {D with nx:=tS3 K f1 f2 f3 t1 t2 t3 D}))
  (rd: ∀a ds Q Ex,φ ds Q Ex->t Ex {nx:=λρ=>ρ[0]? =some (some<|.pu<|.adr a)/\t1 ρ λb1 ρ1=>t2 ρ1 λb2 ρ2=>t3 ρ2 λb3 _=>Q [b1.d,b2.d,b3.d],rt:=λ_=>False} (init N (.adr a::ds))) :
  sZ P w K mg base (CXr P w base) (k+1) f fd ps (spI K mg Cl [f1,f2,f3] φ):=by
 obtain⟨oc,od,kV,doc,pm,an,cdv,ct,osl,rfl,lk,hcd⟩:=F.ex;refine d92 lk hcd S (λvs H Q E h=> ?_) λA outer s H vs Q E hr h=> ?_
 .obtain⟨x,dx,vs',A,ds,Q0,Ex,rfl,_,_,_,_,_,r,h,_⟩:=h;have:=len ds Q0 Ex h;rw[dP,<-r.length];exact this
 .obtain⟨x,dx,vs',A',ds,Q0,Ex,rfl,hx,hdx,nx,nd,hA,r,h,q,qx⟩:=h;have hA2: ∀a,(A' a\/a=x)->H a≠none:=λa z=>by
   rcases z with z|rfl
   .exact hA a z
   .rw[hx];simp
  have r2:bX K (λb=>A' b\/b=x) H (.adr x::ds) (.ref x::vs'):= .cons (by simp only[Rep]) r
  refine⟨_,der cdv A outer s H E hr,⟨H,λb=>A' b\/b=x⟩,init N (.adr x::ds),_,Ex,c24 hA2 r2,rd x ds Q0 Ex h,⟨λρ σ H' z I=> ?_,λ_ _ _ z=>z.elim,λ_ _ _ z=>z.elim,λ_ _ _ z=>z.elim⟩,λn Cl' es o H' ex hm sm xr=>qx n Cl' es o H' ex hm (λb o _ e=>sm b o e) (xr.mono<|.sub (.refl _) λa z=> .inl z)⟩
  obtain⟨z0,z⟩:=z;have hx':H' x=some (.ins Cl dx []):=I.ext x _ hx;refine bH7 (C:=⟨H,λb=>A' b\/b=x⟩) I (.inr rfl) hx' z0 ok.1 (ok.2 f1 ae) ac z ?_
  rintro b1 ρ1 w1 H1 z1 z0 k1 x1 ⟨C1,a1,I1⟩ r1 m1;refine bH7 (C:=C1) I1 (by rw[a1];exact .inr rfl) x1 z0 ok.1 (ok.2 f2 ae) (show 1<1000 by decide) z1 ?_
  rintro b2 ρ2 w2 H2 z2 z0 k2 x2 ⟨C2,a2,I2⟩ r2 m2;refine bH7 (C:=C2) I2 (by rw[a2,a1];exact .inr rfl) x2 z0 ok.1 (ok.2 f3 ae) (by simp[vP,n1]) z2 ?_
  rintro b3 ρ3 w3 H3 z3 z0 k3 x3 ⟨C3,a3,I3⟩ r3 m3;rw[a1]at m2 r2;rw[a2,a1]at m3 r3;refine q [b1.d,b2.d,b3.d] [w1,w2,w3] H3 z3 (λb o ne e=>k3 b o ne (k2 b o ne<|k1 b o ne<|I.ext b o e)) ?_ rfl (.cons (m3 _ _<|m2 _ _ r1)<|.cons (m3 _ _ r2)<|.cons r3 .nil)
  rw[x3];simp[vP,n1,n2,n3]
def c43 (s:Stmt):List Stmt:=match s with
 | .ClassDef _ _ _ b _ _ _ _ _ _ _=>b
 | _=>[]
section
variable {P:Program}{w:World}{K:Frag}{mg:Str->Option Value}{base:Heap}
theorem cX4 {an:Option Addr}{osl:Array (Option Value)}{kV doc pm cdv ct:Value}{nm:Str}{x0 x1 x2:Str}{p3 p4 p5 p6 p7 p8:Pos}
  (l:K.lookup fI=some ⟨.type "function",od,.func<|fnOf nm qual (jD st) (eK st) (aF st) .none kV doc pm an cdv ct,osl⟩) (c:codeIn K cdv qual=true) (k:keepIn K (.ref fI)=true)
  (hb:eK st=[.Assign [.Attribute (.Name x0 p1) f1 p2] (.Name x1 p3) p4,.Assign [.Attribute (.Name x0 p5) f2 p6] (.Name x2 p7) p8]) (S:aY [x0,x1,x2] [x0,x1,x2] (aF st))
  (l0:(aF st).names.lookup x0=some .local) (l1:(aF st).names.lookup x1=some .local) (l2:(aF st).names.lookup x2=some .local) (d0:x0∪0) (d1:x1∪0) (d2:x2∪0)
  (bd: ∀(kV doc pm:Value) (an:Option Addr) (cdv ct:Value) (us:List Value),us.length=[x0,x1,x2].length->bindArgs (fnOf nm qual (jD st) (eK st) (aF st) .none kV doc pm an cdv ct) ⟨us,[]⟩=pure ([x0,x1,x2].zip us))
  {cd:ClassData} (hc:clsIn K C=some cd) (hm:a23 cd.mro=true) (hd:cd.hasDict=true) (sa:findIn K (.ref C) "__setattr__"=some (some<|.builtin "object.__setattr__")) (n1:findIn K (.ref C) f1=some none) (n2:findIn K (.ref C) f2=some none) :
  cE1 K C fI (fnOf nm qual (jD st) (eK st) (aF st) .none kV doc pm an cdv ct) f1 f2:=
 ⟨⟨_,od,nm,qual,jD st,aF st,kV,doc,pm,an,cdv,ct,osl,x0,x1,x2,p1,p2,p3,p4,p5,p6,p7,p8,by rw[hb],l,rfl,c,S,l0,l1,l2,d0,d1,d2,(b22 (st:=st) l c k).binds bd⟩,⟨cd,hc,hm,hd⟩,sa,n1,n2⟩
theorem b37 {cd:ClassData}(h:excIn K C bmB newId=true\/ ∃fI,aB2 K C fI bmB newId=true)(hc:clsIn K C=some cd)(hm:cd.mro.contains (.ref R)=true):bH6 K R C bmB newId:=⟨h,cd,hc,hm⟩
theorem Fn.mkA {ps:List Str}(F:Fun K y qual st f fd)(m:mg x=some (.ref f))(b:Binds K fd ps [])(S:aY N ps (aF st))
  (len: ∀ds Q,φ ds Q->ds.length=ps.length) {t:US}
  (der: ∀(cdv:Value) (A:Around) (outer:List Env) (s:Shared) (H:Hp) (E:XK),i8 k (A.deeper<|envOfC qual (aF st) s.heap.objs.size f cdv)->qE (vQ CX0 P w K mg base N qual (aF st) f cdv A outer s H E).nox (eK st) t)
  (rd: ∀ds Q,φ ds Q->t {Q with} (init N ds)):Fn<$>x ps (k+1) φ:=
 ⟨f,fd,c25 F S len λcdv A outer s H E hr=>⟨t,der cdv A outer s H E hr,rd⟩,b,F.kp,m⟩
end
end M
end
section
namespace L2
open PySem PySem.Spec PySem.W PySem.Calls PyProof.Rows Builtin Builtin.ObjectAttr Builtin.Getset_descriptor
end L2
namespace M
end M
end
section
namespace L2
section
variable {X:Cx}
def without (i:Nat)(D:b18):b18:={D with nx:=λσ H=>D.nx (σ.set i none) H,bk:=λσ H=>D.bk (σ.set i none) H,ct:=λσ H=>D.ct (σ.set i none) H}
end
end L2
namespace M
abbrev USY:=(Str->List D->Ev->Prop)->US
end M
end
section
namespace L2
end L2
namespace M
end M
end
end
open L2
section
open PySem L2 M
local macro_rules| `(tactic| left)=> `(tactic| simp only[aU,bJ,d6,pB,fU,cU,uOp,uC,aC,aK3,aT,bV1,uV,uIx,gIx,iH,oG,aR,a8,aL,fL,jG,aR4,jS,mM,eB,M.gSub,dE,aJ5,kP,bA6,gI2,mT,fS,isB,B.d,cN0,uOr,cB6,cB7,cV9,bS,dN,uPar,cC0,uSl,mJ,jE,gSl,cN6,dA8,gMin,aA2,cC,rE,cC2,g1,g2,dR9,vU,uIf,bG2,gSum,aV9,dS3,pC,uQ,dS4,bind_some,Option.bind_none,Option.map_some,Option.map_none,Option.join,tY,List.getElem?_cons_succ,bE9,bF0,dP,nN,fY,l4,pW,zV,decide_eq_false_iff_not,j7,fZ,reduceCtorEq,dC2,gSlT,cO7,cW5,cW7,dD5,bQ4,D.isN,bD5,aK9,uIfN,b36,cP3,d19,rM,fV,rL,fQ,bF7,b80,cW3,dC5,dC6,dS,cX1,c40,bD8,c39,uoN,uoP,uQs,dE6,dE7,dE8,c32,dE9])
namespace M
local macro_rules|`(!$t)=>`(some (B.pu (D.int $t)))|`(~~~$t)=>`(some (B.pu $t))|`(↑$t)=>`(some (B.ow $t))|`(∅)=>`(Nat->Int)
abbrev Ra (a:Φ)(t:US)(N:List Str):Prop:=∀ds Q,a ds Q->t {Q with} (init N ds)
variable {j x b v a q z c s y w:Int}{i k last t0 n m e:Nat}{ui:UI}{g:UG}{tb:US}{ρ:Ev}{ws xs l r p:List Int}{js:List Nat}{cap:List (Option Nat)}{te:UE}{Q:B->Ev->Prop}{t T:Nat->∅}{f u:∅}{E:UD}{L:List (List Int)}{s11:Option B}
def aB3:Φ:=λds Q=> ∃c k p:Int,ds=[.int c,.int k,.int p]/\0<=k/\k<4294967296/\0<p/\ ∀r:Int,0<=r->r<p->Q (.pu<|.int r)
def bH8:US:=(aU (bJ 3<|uOp kP (uOp dE (uOp eB (uOp eB (uOp eB (aC 0)<|uOp dE (uOp dE @7<|aC 1)<|aC 1)<|uOp dE @13<|aC 1)<|@5)<|@48271)<|@2147483647)<|aU (bJ 3<|uOp kP (uOp dE (aC 3)<|aC 3)<|@2147483629)<|d6<|uOp kP (uOp dE (aC 3)<|@39373)<|aC 2)
theorem dD (i:Int)(h:0<j):i.fmod j=i%j:=Int.fmod_eq_emod_of_nonneg i (le_of_lt h)
theorem lB (i:Int)(h:0<j):i.fdiv j=i/j:=Int.fdiv_eq_ediv_of_nonneg i (le_of_lt h)
theorem cmR {i:Int}(h1: -18446744073709551616<j)(h2:j<18446744073709551616):bQ0 i j\/(Sm i/\Sm j):= .inl (.inr ⟨h1,h2⟩)
theorem cmL {i:Int}(h1: -18446744073709551616<i)(h2:i<18446744073709551616):bQ0 i j\/(Sm i/\Sm j):= .inl (.inl ⟨h1,h2⟩)
theorem dG5: Ra aB3 bH8 ["c","k","p","f"]:=by
 rintro ds Q ⟨c,k,p,rfl,h0,h1,hp,h⟩;unfold bH8;show(aU _ _:US) _ [!c,!k,!p,none];left;rw[dD _ (by decide:(0:Int)<2147483647),dD _ (by decide:(0:Int)<2147483629),dD _ hp]
 refine⟨cmL ac ac,cmR aa aa,cmL ac ac,cmR ac ac,ac,cmR aa aa,ac,cmR ac ac,aa,?_⟩
 exact h _ (d8 _ aa) (dG _ hp)
theorem bI {D:UD}(n:Nat)(it:Nat->M.D)(ρ1:Ev)(hui: ∀Q:Nat->(Nat->M.D)->Ev->Prop,Q n it ρ1->ui ρ Q)(Pv:Nat->Ev->Prop)(h0:Pv 0 ρ1)
  (hs: ∀i ρ,i<n->Pv i ρ->g (.pu<|it i) ρ λρ2=>tb {D with nx:=Pv (i+1),ct:=Pv (i+1),bk:=D.nx} ρ2) (hd: ∀ρ,Pv n ρ->D.nx ρ):gW ui g tb D ρ:=hui _ ⟨Pv,h0,hs,hd⟩
theorem cX5 (h:i<ws.length):atI (ws.map D.int) (0+(i:Int))=some (.int ws[i]):=by
 rw[cF];exact cG (by rw[aZ,aS h];rfl)
def Below (xs ws:List Int):Prop:=xs.length=ws.length/\ ∀(j:Nat) (x w:Int),xs[j]? =some x->ws[j]? =some w->0<=x/\x<w
theorem cpl {i:Int}(h1:0<=j)(h2:j<=1000000)(h3:i.natAbs<2^64):dQ0 i j:=⟨h1,h2,h3⟩
def lD:Φ:=λds Q=> ∃(c:Int) (ws:List Int) (p:Int),ds=[.int c,.lst<|ws.map .int,.int p]/\ws.length<=1000/\0<p/\(∀w∈ws,0<w/\w<18446744073709551616)/\ ∀xs:List Int,Below xs ws->Q (.ow<|xs.map .int)
def bH9:US:=(aU (bJ 3<|@0)<|aU (fU (cU<|uOp (mT λi j=>decide (j<=i)) (aC 0)<|uOp bA6 @10<|@18) (bJ 3<|uOp M.gSub (aC 0)<|uOp bA6 @10<|@18) dN)<|aU (bJ 4<|fL aL)<|aU (gW (fQ<|a8 (iH<|aT 1) aL) (bS 5)<|fU (cU<|uOp (mT λi j=>decide (j<i)) (aC 3)<|@1) (aU (aR4 4<|uOp kP (aC 3)<|uIx (aT 1)<|aC 5)<|bJ 3<|uOp aJ5 (aC 3)<|uIx (aT 1)<|aC 5)<|aR4 4<|uOp kP (aR aB3<|a8 (aC 0)<|a8 (aC 5)<|a8 (aC 2) aL)<|uIx (aT 1)<|aC 5)<|pB 4)
theorem b38 {i:Int}(h1: -18446744073709551616<i)(h2:i<18446744073709551616):Sm i:=by
 have h3:i.natAbs<18446744073709551616:=aa
 exact b9 h3 af
theorem bI0 (h: ∀(j:Nat) (x w:Int),xs[j]? =some x->ws[j]? =some w->0<=x/\x<w)(hl:xs.length<ws.length)(h0:0<=x)(h1:x<ws[xs.length]) :
  ∀(j:Nat) (y w:Int),(xs++[x])[j]? =some y->ws[j]? =some w->0<=y/\y<w:=by
 intro j y w e1 e2
 by_cases hj:j<xs.length
 .rw[iW hj]at e1;exact h j y w e1 e2
 .rw[jW ad]at e1
  by_cases hj':j=xs.length
  .subst hj';simp at e1;subst e1;rw[aS hl]at e2;cases e2;exact⟨h0,h1⟩
  .have:j-xs.length≠0:=ad
   cases e:j-xs.length with
   | zero=>lia
   | succ n=>rw[e]at e1;simp at e1
theorem dG6: Ra lD bH9 ["c","w","p","l","f","k"]:=by
 rintro ds Q ⟨c,ws,p,rfl,hlen,hp,hw,h⟩;unfold bH9;have tail: ∀left:Int,(aU (bJ 4<|fL aL) (aU (gW (fQ<|a8 (iH<|aT 1) aL) (bS 5)<|fU (cU<|uOp (mT λi j=>decide (j<i)) (aC 3)<|@1) (aU (aR4 4<|uOp kP (aC 3)<|uIx (aT 1)<|aC 5)<|bJ 3<|uOp aJ5 (aC 3)<|uIx (aT 1)<|aC 5)<|aR4 4<|uOp kP (aR aB3<|a8 (aC 0)<|a8 (aC 5)<|a8 (aC 2) aL)<|uIx (aT 1)<|aC 5)<|pB 4):US)
   {Q with} [!c,~~~.lst (ws.map .int),!p,!left,none,none]:=by
  intro left;rw[aU];left;refine⟨ac,?_⟩
  refine bI ws.length (λi=> .int (0+i)) [!c,~~~.lst (ws.map .int),!p,!left,↑[],none] ?_
   (λi ρ=> ∃(l:Int) (xs:List Int) (kk:Option B),ρ=[!c,~~~.lst (ws.map .int),!p,!l,↑(xs.map .int),kk]/\xs.length=i/\ ∀(j:Nat) (x w:Int),xs[j]? =some x->ws[j]? =some w->0<=x/\x<w)
   ⟨left,[],none,rfl,rfl,λj x w e=>by simp at e⟩ ?_ ?_
  .intro Q q;simp only[fQ];left;rw[aG];refine⟨⟨ad,ad⟩,?_⟩
   rw[bE];exact q
  .rintro i ρ hi ⟨l,xs,kk,rfl,hl,hb⟩;subst hl;obtain⟨w0,w1⟩:=hw _ (cE hi);left;refine⟨ac,?_⟩
   by_cases hc:1<l
   .rw[aA hc];simp only[cX5 hi];rw[dD _ w0,lB _ w0];refine⟨ad,?_,⟨ad,b38 ad w1⟩,_,xs++[l%ws[xs.length]],_,by rw[bT];rfl,ae,bI0 hb hi (d8 _ ad)<|dG _ w0⟩
    rw[aG];exact b9 hi (aH hlen ac)
   .rw[a7 hc];refine⟨c,(0+(xs.length:Int)),p,rfl,ad,ad,hp,λr r0 r1=> ?_⟩
    simp only[cX5 hi];rw[dD _ w0];refine⟨ad,?_,l,xs++[r%ws[xs.length]],_,by rw[bT];rfl,ae,bI0 hb hi (d8 _ ad)<|dG _ w0⟩
    rw[aG];exact b9 hi (aH hlen ac)
  .rintro ρ ⟨l,xs,kk,rfl,hl,hb⟩;left;exact h xs ⟨hl,hb⟩
 show(aU _ _:US) _ [!c,~~~.lst (ws.map .int),!p,none,none,none]
 refine(show dQ0 10 18/\(if decide ((10:Int)^(18:Int).toNat<=c)=true then _ else _)from⟨cpl ac ac ac,?_⟩)
 split
 .exact⟨cpl ac ac ac,tail _⟩
 .exact tail _
theorem aW8 {d:D}{l:List D}:atI (d::l) 0=some d:=cG rfl
theorem dG7 {ys:List Int}(h:i< (ys.map D.int).length): ∃z,(ys.map D.int).getD i .non= .int z:=by
 rw[aG]at h;exact⟨ys[i],by rw[aO,aZ,aS h];rfl⟩
theorem hJ (k:Nat)(z:Int):(replicate k [D.int z]).flatten=(replicate k z).map .int:=by
 induction k with
 | zero=>rfl
 | succ k ih=>rw[zQ,aQ0,ih];rfl
def vX:Φ:=λds Q=> ∃(ns:List Int) (k:Int),ds=[.rol<|ns.map .int,.int k]/\ns.length<=63/\0<=k/\k<4294967296/\ ∀r:Int,Q (.pu<|.int r)
def c44:US:=(aU (fU (cU<|uOp (fS false) (iH<|aT 0)<|@0) (d6<|uOp dE @7919<|uOp eB (aC 1)<|@1) dN)<|aU (fU (cU<|uOp (mT λi j=>decide (i<j)) (aC 1)<|iH<|aT 0) (d6<|uIx (aT 0)<|aC 1) dN)<|d6<|uOp eB (uIx (aT 0)<|uOp kP (aC 1)<|iH<|aT 0)<|uOp dE @104729<|aC 1)
theorem dG8 {ns:List Int}{k:Int}(h0:0<=k)(h1:k<ns.length): ∃z,atI (ns.map D.int) k=some (.int z):=by
 obtain⟨i,rfl⟩: ∃i:Nat,k=(i:Int):=⟨k.toNat,ad⟩
 have hi:i<ns.length:=ad
 exact⟨ns[i],cG (by rw[aZ,aS hi];rfl)⟩
theorem dV3: Ra vX c44 ["s","k"]:=by
 rintro ds Q ⟨ns,k,rfl,hl,k0,k1,h⟩;unfold c44;show(aU _ _:US) _ [~~~.rol (ns.map .int),!k];left;rw[aG];split
 .exact⟨cmL ac ac,h _⟩
 .split
  .obtain⟨z,hz⟩:=dG8 (ns:=ns) k0 ad
   rw[hz];exact h z
  .refine⟨ad,?_⟩
   rw[dD _ ad]
   obtain⟨z,hz⟩:=dG8 (ns:=ns) (k:=k%ns.length) (d8 _ ad) (dG _ ad)
   rw[hz];exact⟨cmL ac ac,h _⟩
def aW9:Φ:=λds Q=> ∃i:Int,ds=[.int i]/\Q (.pu<|.bl true)
def bI1:US:=(d6<|cB7 (aR cC2<|a8 (aC 0)<|a8 (uC<|.ty "int") aL)<|cV9<|aR cC2<|a8 (aC 0)<|a8 (uC<|.ty "bool") aL)
theorem dG9: Ra aW9 bI1 ["f"]:=by
 rintro ds Q ⟨i,rfl,h⟩;unfold bI1;show(d6 _:US) _ [!i];left
 exists h
theorem bI2:bootBuiltins "abs"=some (.builtin "abs"):=af
theorem cQ9:bootBuiltins "max"=some (.builtin "max"):=af
theorem bt_min:bootBuiltins "min"=some (.builtin "min"):=af
theorem kF:bootBuiltins "isinstance"=some (.builtin "isinstance"):=af
theorem b39:bootBuiltins "int"=some (.type "int"):=af
theorem c45:bootBuiltins "bool"=some (.type "bool"):=af
theorem cP:bootBuiltins "tuple"=some (.type "tuple"):=af
theorem aH9:bootBuiltins "list"=some (.type "list"):=af
theorem dV4: ∀ds Q,cC3 ds Q->ds.length=1:=by rintro ds Q ⟨i,rfl,_⟩;rfl
theorem gT (t:UE)(D:UD)(ρ:Ev):d6 t D ρ=t ρ (λb _=>D.rt b):=rfl
theorem dO (φ:Φ)(t:UA)(ρ:Ev)(Q:B->Ev->Prop):aR φ t ρ Q=t ρ λds ρ1=>φ ds λb=>Q b ρ1:=rfl
theorem dM (t:UE)(u:UA)(ρ:Ev)(Q:List D->Ev->Prop):a8 t u ρ Q=t ρ λx ρ1=>u ρ1 λxs ρ2=>Q (x.d::xs) ρ2:=rfl
theorem aM (t u:US)(D:UD)(ρ:Ev):aU t u D ρ=t {D with nx:=u D} ρ:=rfl
theorem kA (i:Nat)(t:UE)(D:UD)(ρ:Ev):bJ i t D ρ=t ρ λb ρ1=>D.nx (ρ1.set i<|some b):=rfl
theorem cJ (n:Nat)(it:Nat->D)(ρ1:Ev)(hui: ∀Q:Nat->(Nat->D)->Ev->Prop,Q n it ρ1->ui ρ Q)(hn:n<=1000000)
  (G:Option B->List D->Ev) (x0:Option B) (h0:pC (uQ ρ1 js) cap last=G x0 []) (h1: ∀x l b,(G x l).set t0 (some b)=G (some b) l) (h1': ∀x l,t0< (G x l).length) (h2: ∀x l (Q:List D->Prop),Q l->jS (G x l) last Q) (h3: ∀x l l',(G x l).set last (↑l')=G x l')
  (f:Nat->D) (hte: ∀i l (Q':B->Ev->Prop),i<n->Q' (.pu<|f i) (G (~~~it i) l)->te (G (~~~it i) l) Q') (hq:Q (.ow<|(List.range n).map f) (uQ ρ1 js)) :
  d5 js cap last ui (bS t0) (λρ Q=>Q true ρ) te ρ Q:=by
 refine hui _ ⟨λi ρ'=> ∃x,ρ'=G x ((List.range i).map f),⟨x0,h0⟩,?_,?_⟩
 .rintro i ρ' hi ⟨x,rfl⟩;refine⟨h1' _ _,?_⟩;rw[h1];right;rw[aA rfl];refine hte i _ _ hi (h2 _ _ _ ⟨?_,~~~it i,?_⟩)
  .rw[aG,jY];exact b9 hi (aH hn ac)
  .rw[h3,cS,bT];rfl
 .rintro ρ' ⟨x,rfl⟩;exact h2 _ _ _ hq
nonrec def aN (r:List Int):D:= .tup (r.map .int)
nonrec def d39 (t:List (List Int)):D:= .tup (t.map aN)
theorem c46 (l:List D)(i:Nat)(h:i<=l.length):cutD l none (some (i:Int))=l.take i:=by
 unfold cutD;rw[HT.sIx_none,HT.sIx_nat,kZ h];simp
theorem aB4 (l:List D)(i:Nat)(h:i<=l.length):cutD l (some (i:Int)) none=l.drop i:=by
 unfold cutD;rw[HT.sIx_nat,kZ h];rw[zN (by rw[nK];exact aK _)]
def a24:Φ:=λds Q=> ∃(t:List (List Int)) (i:Nat),ds=[d39 t,.int (i:Int)]/\i<t.length/\2<=t.length/\t.length<=1000/\(∀r∈t,1<=r.length)/\Q (.pu<|d39<|(t.eraseIdx i).map List.tail)
def a25:US:=(d6<|aR cC<|a8 (d5 [] [none,none] 1 (dS<|uOp eB (uSl (aT 0) jE<|mJ<|aC 1)<|uSl (aT 0) (mJ<|uOp eB (aC 1)<|@1) jE) (bS 0) (λρ Q=>Q true ρ)<|uSl (aT 0) (mJ<|@1) jE) aL)
theorem cE3 {t:List (List Int)}(hi:i<t.length):cutD (t.map aN) none (some (i:Int))++cutD (t.map aN) (some<|(i:Int)+1) none=(t.eraseIdx i).map aN:=by
 have hl:(t.map aN).length=t.length:=aG _;have e1:cutD (t.map aN) none (some (i:Int))=(t.take i).map aN:=by rw[c46 _ _ ad,j3]
 have e2:cutD (t.map aN) (some<|(i:Int)+1) none=(t.drop<|i+1).map aN:=by
  have:=aB4 (t.map aN) (i+1) ad
  rw[nP]
  exact_mod_cast this
 rw[e1,e2,<-bT,<-tU]
theorem bI3 {t:List (List Int)}(hi:i<t.length)(h1000:t.length<=1000)(hr: ∀r∈t,1<=r.length)(hui: ∀Q':Nat->(Nat->D)->Ev->Prop,Q' ((t.eraseIdx i).map aN).length (λk=>((t.eraseIdx i).map aN).getD k .non) ρ->ui ρ Q')(h:Q (.ow<|((t.eraseIdx i).map List.tail).map aN) ρ) :
  d5 [] [none,none] 1 ui (bS 0) (λρ Q=>Q true ρ) (uSl (aT 0) (mJ<|@1) jE) ρ Q:=by
 have le:(t.eraseIdx i).length=t.length-1:=zJ hi;refine cJ (t0:=0) ((t.eraseIdx i).map aN).length (λk=>((t.eraseIdx i).map aN).getD k .non) ρ hui (by rw[aG];lia)
  (λx l=>[x,↑l]) none rfl (λ_ _ _=>rfl) (λ_ _=>bQ _) (λ_ _ _ q=>q) (λ_ _ _=>rfl) (λk=>aN (((t.eraseIdx i).getD k []).tail)) ?_ ?_
 .intro k l Q' hk q;rw[aG]at hk;have ek:((t.eraseIdx i).map aN).getD k .non=aN ((t.eraseIdx i).getD k []):=by
   rw[aO,aO,aZ,aS hk];rfl
  have hm:1<=((t.eraseIdx i).getD k []).length:=by
   rw[aO,aS hk];exact hr _ (tW<|cE hk)
  rw[ek]at q⊢;generalize (t.eraseIdx i).getD k []=r at hm q;simp only[aN]at q⊢;left;have lr:(r.map D.int).length=r.length:=aG _;have ec:cutD (r.map D.int) (some 1) none=r.tail.map D.int:=by
   have:=aB4 (r.map D.int) 1 ad
   rw[show((1:Nat):Int)=1 from rfl]at this
   rw[this,<-nP,List.drop_one]
  refine⟨?_,by rw[ec];exact q⟩
  rw[lr];have:HT.sIx r.length 0 (some 1)=min 1 r.length:=HT.sIx_nat r.length 0 1;rw[this];lia
 .have em:(List.range ((t.eraseIdx i).map aN).length).map (λk=>aN (((t.eraseIdx i).getD k []).tail))=((t.eraseIdx i).map List.tail).map aN:=by
   rw[aG];apply fG
   .simp
   .intro k h1 h2;simp at h1;simp[h1,aO]
  rw[em];exact h
theorem c47: Ra a24 a25 ["t","i"]:=by
 rintro ds Q ⟨t,i,rfl,hi,h2,h1000,hr,h⟩;unfold a25;show(d6 _:US) _ [~~~d39 t,!(i:Int)];have hl:(t.map aN).length=t.length:=aG _;rw[gT,dO,dM];refine bI3 hi h1000 hr (λQ' q=> ?_) ?_
 .simp only[dS,d39];left;rw[<-cB,cE3 hi];refine⟨?_,?_,aH (show _<=2000 by rw[aG,zJ hi];lia) ac,q⟩
  .rw[hl,HT.sIx_none,HT.sIx_nat];lia
  .rw[hl,HT.sIx_none];have:HT.sIx t.length 0 (some<|(i:Int)+1)=min (i+1) t.length:=by exact_mod_cast HT.sIx_nat t.length 0 (i+1)
   rw[this];lia
 .left
  exact h
nonrec def mW:Nat->List (List Int)->Int
 | 0,_=>0
 | n+1,t=>if t.length=1 then(t.getD 0 []).getD 0 0 else((List.range t.length).map λi=>(if i%2=0 then 1 else -1)*(t.getD i []).getD 0 0*mW n ((t.eraseIdx i).map List.tail)).sum
structure Sq (n:Nat)(t:List (List Int)):Prop where
 pos:1<=t.length
 le:t.length<=n
 row: ∀r∈t,r.length=t.length
 small: ∀r∈t,∀x∈r,x.natAbs<2^2000
def gP (n:Nat):Φ:=λds Q=> ∃t:List (List Int),ds=[d39 t]/\Sq n t/\Q (.pu<|.int<|mW n t)
def bI4 (gP:Φ):US:=(aU (fU (cU<|uOp (fS false) (iH<|aT 0)<|@1) (d6<|uIx (uV<|uIx (aT 0)<|@0)<|@0) dN)<|aU (bJ 1<|@0)<|aU (bJ 2<|@1)<|aU (gW (fQ<|a8 (iH<|aT 0) aL) (bS 3)<|aU (cC0 1 (gI2 λi j Q=>Q (.pu<|.int<|i+j))<|uOp dE (uOp dE (aC 2)<|uIx (uV<|uIx (aT 0)<|aC 3)<|@0)<|aR gP<|a8 (aR a24<|a8 (aC 0)<|a8 (aC 3) aL) aL)<|bJ 2<|mM<|aC 2)<|pB 1)
theorem aI0 (n:Nat): ∀ds Q,gP n ds Q->ds.length=1:=by rintro ds Q ⟨a,rfl,_⟩;rfl
theorem Sq.less {t:List (List Int)}(h:Sq (n+1) t)(h2:t.length≠1)(hi:i<t.length):Sq n ((t.eraseIdx i).map List.tail):=by
 have le:(t.eraseIdx i).length=t.length-1:=zJ hi;have hl:=h.le;refine⟨by rw[aG];lia,by rw[aG];lia,λr hr=> ?_,λr hr x hx=> ?_⟩
 .obtain⟨r',hr',rfl⟩:=bU.mp hr;rw[aG,List.length_tail,h.row r'<|tW hr',le]
 .obtain⟨r',hr',rfl⟩:=bU.mp hr;exact h.small r' (tW hr') x (List.mem_of_mem_tail hx)
theorem b40 (f:∅)(b:Nat): ∀n:Nat,(∀i,i<n->(f i).natAbs<=b)->(((List.range n).map f).sum).natAbs<=n*b
 | 0,_=>ae
 | n+1,h=>by
  rw[cS,bT,aR2];have h1:=b40 f b n λi hi=>h i (kW hi)
  have h2:=h n (pU n);have h3:((List.map f [n]).sum)=f n:=ae
  rw[Nat.succ_mul];omega
theorem b41: ∀(n:Nat) (t:List (List Int)),n<=4->Sq n t->(mW n t).natAbs<=2^(2010*n)
 | 0,t,_,h=>by have:=h.pos;have:=h.le;lia
 | n+1,t,hn,h=>by
  have entry: ∀i,i<t.length->((t.getD i []).getD 0 0).natAbs<=2^2000:=λi hi=>by
   have eg:t.getD i []=t[i]:=by rw[aO,aS hi];rfl
   rw[eg];have hr:=h.row _ (cE hi);have h0:0< (t[i]).length:=ad
   rw[aO,aS h0];exact nQ (h.small _ (cE hi) _<|cE h0)
  unfold mW;split
  .have:=entry 0 (by have:=h.pos;lia)
   exact aH this (cN ac ad)
  .rename_i h1
   refine aH (b40 _ (2^2000*2^(2010*n)) _ λi hi=> ?_) ?_
   .rw[dW,dW];have e1:(if i%2=0 then(1:Int)else -1).natAbs=1:=by split<;>rfl
    rw[e1,uJ];exact fJ (entry i hi) (b41 n _ ad<|h.less h1 hi)
   .have hl:=h.le;have e:2^(2010*(n+1))=2^10*(2^2000*2^(2010*n)):=by
     rw[<-j5,<-j5];congr 1;lia
    rw[e];exact aO8 _ ad
theorem Sm.pow {i:Int}(h:i.natAbs<=2^k)(hk:k<9000):Sm i:=nF h (aO9 ac hk)
theorem bE0 {t:List (List Int)}(h:i<t.length):atI (t.map aN) (0+(i:Int))=some (aN<|t.getD i []):=by
 rw[cF];refine cG ?_;rw[aZ,aO,aS h];rfl
theorem aB5 (h:0<r.length):atI (r.map D.int) 0=some (.int<|r.getD 0 0):=by
 refine cG ?_
 rw[aZ,aO,aS h];rfl
theorem aX0 (n:Nat)(hn:n<4): ∀ds Q,gP (n+1) ds Q->bI4 (gP n) {Q with} (init ["t","o","s","i"] ds):=by
 rintro ds Q ⟨t,rfl,sq,h⟩;have hp:=sq.pos;have hle:=sq.le;have lt:(t.map aN).length=t.length:=aG _;have lrow: ∀i,i<t.length->0< (t.getD i []).length:=λi hi=>by
  rw[aO,aS hi];have:=sq.row _ (cE hi);show 0< (t[i]).length
  lia
 unfold bI4;show(aU _ _:US) _ [~~~.tup (t.map aN),none,none,none];left;rw[lt];split
 .rename_i h1
  have h1':t.length=1:=ad
  have:=bE0 (t:=t) (i:=0) ad
  rw[show(0:Int)+((0:Nat):Int)=0 from rfl]at this
  rw[this];simp only[aN];rw[aB5<|lrow 0 ad]
  unfold mW at h;rw[aA h1']at h;exact h
 .rename_i h1
  have h1':t.length≠1:=ad
  unfold mW at h;rw[a7 h1']at h;refine bI t.length (λi=> .int (0+i)) [~~~.tup (t.map aN),!0,!1,none] ?_ (λi ρ=> ∃x,ρ=[~~~.tup (t.map aN),some<|.pu<|.int ((List.range i).map λi=>(if i%2=0 then 1 else -1)*(t.getD i []).getD 0 0*mW n ((t.eraseIdx i).map List.tail)).sum,!if i%2=0 then 1 else -1,x]) ?_ ?_ ?_
  .intro Q' q;simp only[fQ];left;rw[lt];refine⟨⟨ad,ad⟩,?_⟩
   rw[bE];exact q
  .exact⟨none,rfl⟩
  .rintro i ρ hi ⟨x,rfl⟩;left;refine⟨ac,?_⟩
   rw[bE0 hi];simp only[aN];rw[aB5<|lrow i hi];have sg:Sm (if i%2=0 then(1:Int)else -1):=by split<;>exact b38 ac ac
   have eg:t.getD i []=t[i]:=by rw[aO,aS hi];rfl
   have en:((t.getD i []).getD 0 0).natAbs<=2^2000:=by
    have h0:=lrow i hi;rw[eg]at h0⊢;rw[aO,aS h0];exact nQ (sq.small _ (cE hi) _<|cE h0)
   have se:Sm ((t.getD i []).getD 0 0):=Sm.pow en ac
   refine⟨.inr ⟨sg,se⟩,t,i,by rw[cF];rfl,hi,ad,ad,λr hr=>by rw[sq.row r hr];exact hp,?_⟩
   refine⟨_,rfl,sq.less h1' hi,?_⟩
   have sd:Sm (mW n<|(t.eraseIdx i).map List.tail):=Sm.pow (b41 n _ ad<|sq.less h1' hi) ad
   have sp:Sm ((if i%2=0 then(1:Int)else -1)*(t.getD i []).getD 0 0):=by
    refine Sm.pow (k:=2000) ?_ ac
    rw[dW];have e1:(if i%2=0 then(1:Int)else -1).natAbs=1:=by split<;>rfl
    rw[e1,uJ];exact en
   left
   refine⟨.inr ⟨sp,sd⟩,!(0+(i:Int)),?_⟩
   have e2: -(if i%2=0 then(1:Int)else -1)=(if(i+1)%2=0 then 1 else -1):=by
    by_cases q:i%2=0
    .rw[aA q,a7 ad]
    .rw[a7 q,aA ad];rfl
   rw[e2,cS,bT,aR2];simp
  .rintro ρ ⟨x,rfl⟩;left;exact h
nonrec def lF (p:List Int)(k:Nat)(sums:List Int):Int:=
 -(((List.range<|min (k-1)<|p.length-1).map λi=>p.getD (p.length-1-(i+1)) 0*sums.getD (k-(i+1)) 0).sum+(if k<=p.length-1 then(k:Int)*p.getD (p.length-1-k) 0 else 0))
nonrec def eW (p:List Int):Nat->List Int
 | 0=>[((p.length-1:Nat):Int)]
 | k+1=>eW p k++[lF p (k+1)<|eW p k]
theorem uS (p:List Int): ∀k,(eW p k).length=k+1
 | 0=>rfl
 | k+1=>by unfold eW;rw[cB,uS p k];rfl
structure bE1 (p:List Int):Prop where
 lo:3<=p.length
 hi:p.length<=5
 small: ∀x∈p,x.natAbs<=499
theorem fO {b:Nat}(h: ∀x∈l,x.natAbs<=b)(i:Nat):(l.getD i 0).natAbs<=b:=by
 rw[aO];cases e:l[i]? with
 | none=>exact eH _
 | some x=>exact h x (fX e)
theorem a26 {p:List Int}(hp:bE1 p): ∀k,k<=6-> ∀x∈eW p k,x.natAbs<=2^(15*k+3)
 | 0,_,x,hx=>by
  have:=hp.hi;have e:x=((p.length-1:Nat):Int):=by simpa[eW]using hx
  omega
 | k+1,hk,x,hx=>by
  have ih:=a26 hp k aa
  have ep:(2:Nat)^(15*(k+1)+3)=32768*2^(15*k+3):=by
   rw[show 15*(k+1)+3=15+(15*k+3)by omega,j5]
  have hb:8<=2^(15*k+3):=by
   rw[j5];have:1<=2^(15*k):=Nat.one_le_two_pow;omega
  rcases cR.mp hx with hx|hx
  .have:=ih x hx;omega
  .have e:x=lF p (k+1) (eW p k):=by exists hx
   rw[e];unfold lF;rw[a01];have hl:=hp.hi;have s1:=b40 (λi=>p.getD (p.length-1-(i+1)) 0*(eW p k).getD (k+1-(i+1)) 0) (499*2^(15*k+3)) (min (k+1-1)<|p.length-1) λi _=>by
    rw[dW];exact fJ (fO hp.small _) (fO ih _)
   have s2:(if k+1<=p.length-1 then((k+1:Nat):Int)*p.getD (p.length-1-(k+1)) 0 else 0).natAbs<=4*499:=by
    split
    .rw[dW];exact fJ aa (fO hp.small _)
    .exact eH _
   have s3:min (k+1-1) (p.length-1)*(499*2^(15*k+3))<=4*(499*2^(15*k+3)):=aO8 _ aa
   have s4:=u8 (((List.range<|min (k+1-1)<|p.length-1).map λi=>p.getD (p.length-1-(i+1)) 0*(eW p k).getD (k+1-(i+1)) 0).sum) (if k+1<=p.length-1 then((k+1:Nat):Int)*p.getD (p.length-1-(k+1)) 0 else 0)
   omega
def uT:Φ:=λds Q=> ∃(p:List Int) (m:Nat),ds=[aN p,.int (m:Int)]/\bE1 p/\1<=m/\m<=7/\Q (.ow<|(eW p<|m-1).map .int)
def uU:US:=(aU (bJ 2<|uOp M.gSub (iH<|aT 0)<|@1)<|aU (bJ 3<|fL<|a8 (aC 2) aL)<|aU (gW (bF7<|a8 @1<|a8 (aC 1) aL) (bS 4)<|aU (bJ 5<|aR gSum<|a8 (d5 [2,4] [none,some 0,some 2,some 3,some 4,none] 5 (bF7<|a8 @1<|a8 (uOp eB (aR gMin<|a8 (uOp M.gSub (aC 4)<|@1)<|a8 (aC 2) aL)<|@1) aL) (bS 0) (λρ Q=>Q true ρ)<|uOp dE (uIx (aT 1)<|uOp M.gSub (aC 2)<|aC 0)<|uIx (aT 3)<|uOp M.gSub (aC 4)<|aC 0) aL)<|aU (fU (cU<|uOp (mT λi j=>decide (i<=j)) (aC 4)<|aC 2) (cC0 5 (gI2 λi j Q=>Q (.pu<|.int<|i+j))<|uOp dE (aC 4)<|uIx (aT 0)<|uOp M.gSub (aC 2)<|aC 4) dN)<|aR4 3<|mM<|aC 5)<|pB 3)
theorem aB6 {ns:List Int}(h:k<ns.length):atI (ns.map D.int) (k:Int)=some (.int<|ns.getD k 0):=by
 refine cG ?_
 rw[aZ,aO,aS h];rfl
theorem bI5: Ra uT uU ["p","m","n","s","k","t"]:=by
 rintro ds Q ⟨p,m,rfl,hp,m1,m7,h⟩;have hlo:=hp.lo;have hhi:=hp.hi;have lp:(p.map D.int).length=p.length:=aG _;unfold uU;show(aU _ _:US) _ [~~~.tup (p.map .int),!(m:Int),none,none,none,none];rw[aM,kA];left;rw[lp];refine⟨ac,?_⟩
 have en:(p.length:Int)-1=((p.length-1:Nat):Int):=ad
 rw[en];refine bI (m-1) (λi=> .int (1+i)) [~~~.tup (p.map .int),!(m:Int),!((p.length-1:Nat):Int),↑((eW p 0).map .int),none,none] ?_
  (λi ρ=> ∃x4 x5,ρ=[~~~.tup (p.map .int),!(m:Int),!((p.length-1:Nat):Int),↑((eW p i).map .int),x4,x5]) ⟨none,none,rfl⟩ ?_ ?_
 .intro Q' q;simp only[bF7];left;refine⟨ad,?_⟩
  rw[show((m:Int)-1).toNat=m-1 by lia]
  exact q
 .rintro i ρ hi ⟨x4,x5,rfl⟩;have bn:=a26 hp i ad
  refine⟨by show 4<6;decide,?_⟩
  dsimp only[set_cons_succ,set_cons_zero];rw[aM,kA,dO,dM];refine cJ (t0:=0) (min i<|p.length-1) (λj=> .int (1+j)) [~~~.tup (p.map .int),!(m:Int),!((p.length-1:Nat):Int),↑((eW p i).map .int),!(1+(i:Int)),x5] ?_ ad
   (λx l=>[x,~~~.tup (p.map .int),!((p.length-1:Nat):Int),some<|.bo<|(eW p i).map .int,!(1+(i:Int)),↑l]) none rfl (λ_ _ _=>rfl) (λ_ _=>bQ _) (λ_ _ _ q=>q) (λ_ _ _=>rfl)
   (λj=> .int (p.getD (p.length-1-(j+1)) 0*(eW p i).getD (i+1-(j+1)) 0)) ?_ ?_
  .intro Q' q;simp only[bF7];left;have e:(if((p.length-1:Nat):Int)<1+(i:Int)-1 then((p.length-1:Nat):Int)else 1+(i:Int)-1)=((min i (p.length-1):Nat):Int):=by split<;>lia
   rw[e];refine⟨ad,?_⟩
   rw[show(((min i (p.length-1):Nat):Int)+1-1).toNat=min i (p.length-1)by lia]
   exact q
  .intro j l Q' hj q;have hj1:j<i:=ad
   have hj2:j<p.length-1:=ad
   left
   rw[show((p.length-1:Nat):Int)-(1+(j:Int))=((p.length-1-(j+1):Nat):Int)by lia,show 1+(i:Int)-(1+(j:Int))=((i+1-(j+1):Nat):Int)by lia]
   rw[aB6 ad,aB6 (by rw[uS];lia)]
   exact⟨.inr ⟨Sm.pow (k:=9) (aH (fO hp.small _) ac) ac,Sm.pow (fO bn _) ad⟩,q⟩
  .have es:((List.range<|min i<|p.length-1).map λj=>D.int (p.getD (p.length-1-(j+1)) 0*(eW p i).getD (i+1-(j+1)) 0))=((List.range<|min i<|p.length-1).map λj=>p.getD (p.length-1-(j+1)) 0*(eW p i).getD (i+1-(j+1)) 0).map D.int:=by
    rw[dZ];rfl
   rw[es];generalize hT:((List.range<|min i<|p.length-1).map λj=>p.getD (p.length-1-(j+1)) 0*(eW p i).getD (i+1-(j+1)) 0)=T
   left
   rw[b30];right;have last: ∀z:Int,z= -(lF p (i+1)<|eW p i)->(eW p i).map D.int++[D.int<|-z]=(eW p<|i+1).map D.int:=λz hz=>by
    rw[hz]
    conv=>rhs;unfold eW
    rw[bT];simp
   have lz:((eW p i).map D.int).length<sizeLine:=by
    rw[aG,uS];exact b9 (show _<100 by lia) ac
   by_cases hk:i+1<=p.length-1
   .rw[aA ad]
    rw[show((p.length-1:Nat):Int)-(1+(i:Int))=((p.length-1-(i+1):Nat):Int)by lia,aB6 ad]
    have hz1:T.sum+(1+(i:Int))*p.getD (p.length-1-(i+1)) 0= -(lF p (i+1)<|eW p i):=by
     unfold lF;rw[Int.neg_neg,aA hk,<-hT];rw[show i+1-1=i from rfl,show((i+1:Nat):Int)=1+(i:Int)by lia]
    right;rw[last _ hz1];exact⟨.inr ⟨b38 ad ad,Sm.pow (k:=9) (aH (fO hp.small _) ac) ac⟩,lz,_,_,rfl⟩
   .rw[a7 ad]
    have hz1:T.sum= -(lF p (i+1)<|eW p i):=by
     unfold lF;rw[Int.neg_neg,a7 hk,<-hT,a11];rfl
    rw[last _ hz1];exact⟨lz,_,_,rfl⟩
 .rintro ρ ⟨x4,x5,rfl⟩;left;exact h
theorem cR0: ∀ds Q,¬gP 0 ds Q:=by
 rintro ds Q ⟨t,rfl,sq,_⟩;have:=sq.pos;have:=sq.le;omega
theorem aR9 {t1:Nat}(n:Nat)(i1 i2:Nat->D)(ρ1:Ev)(hui: ∀Q:Nat->(Nat->D)->Ev->Prop,Q n (λi=> .tup [i1 i,i2 i]) ρ1->ui ρ Q)(hn:n<=1000000)
  (G:Option B->Option B->List D->Ev) (x0 y0:Option B) (h0:pC (uQ ρ1 js) cap last=G x0 y0 []) (h1: ∀x y l b c,((G x y l).set t0<|some b).set t1 (some c)=G (some b) (some c) l) (h1': ∀x y l,t0< (G x y l).length/\t1< (G x y l).length)
  (h2: ∀x y l (Q:List D->Prop),Q l->jS (G x y l) last Q) (h3: ∀x y l l',(G x y l).set last (↑l')=G x y l')
  (f:Nat->D) (hte: ∀i l (Q':B->Ev->Prop),i<n->Q' (.pu<|f i) (G (~~~i1 i) (~~~i2 i) l)->te (G (~~~i1 i) (~~~i2 i) l) Q') (hq:Q (.ow<|(List.range n).map f) (uQ ρ1 js)) :
  d5 js cap last ui (rM<|fV t0<|fV t1 rL) (λρ Q=>Q true ρ) te ρ Q:=by
 refine hui _ ⟨λi ρ'=> ∃x y,ρ'=G x y ((List.range i).map f),⟨x0,y0,h0⟩,?_,?_⟩
 .rintro i ρ' hi ⟨x,y,rfl⟩;refine⟨(h1' _ _ _).1,by rw[cZ];exact(h1' _ _ _).2,rfl,?_⟩
  rw[h1];right;rw[aA rfl];refine hte i _ _ hi (h2 _ _ _ _ ⟨?_,~~~i1 i,~~~i2 i,?_⟩)
  .rw[aG,jY];exact b9 hi (aH hn ac)
  .rw[h3,cS,bT];rfl
 .rintro ρ' ⟨x,y,rfl⟩;exact h2 _ _ _ _ hq
nonrec def rwF (n:Nat)(f:∅):List Int:=(List.range n).map f
theorem n6 (n:Nat)(f:∅):(rwF n f).length=n:=by simp[rwF]
theorem cX6 (h:i<n):(rwF n f)[i]? =some (f i):=by simp[rwF,h]
theorem bC (n:Nat)(f:∅):((rwF n f).map D.int).length=n:=by simp[rwF]
theorem mY (h:i<n):((rwF n f).map D.int)[i]? =some (.int<|f i):=by simp[rwF,h]
theorem iS (h:i<n):((rwF n f).map D.int).getD i .non= .int (f i):=by rw[aO,mY h];rfl
theorem fW (h:i<n):atI ((rwF n f).map D.int) (i:Int)=some (.int<|f i):=cG (mY h)
theorem tD {j:Nat}(h:j<n):((rwF n f).map D.int).set j (.int v)=(rwF n λx=>if x=j then v else f x).map D.int:=by
 apply pT
 intro k
 by_cases hk:k<n
 .rw[mY hk]
  by_cases e:j=k
  .subst e;rw[dB (by rw[bC];exact hk),aA rfl]
  .rw[get_set_ne e,mY hk,a7 λz=>e z.symm]
 .rw[fA (by rw[cZ,bC];omega),fA (by rw[bC];omega)]
theorem jJ {g:∅}(h: ∀i,i<n->f i=g i):rwF n f=rwF n g:=by
 apply u5
 intro i hi;exact h i (bZ.mp hi)
theorem b42 (r:List Int):r=rwF r.length (λj=>r.getD j 0):=by
 apply pT
 intro k
 by_cases hk:k<r.length
 .rw[cX6 hk,aO,aS hk];rfl
 .rw[fA aa,fA (by rw[n6];omega)]
theorem lH (n:Nat)(f:∅):(List.range n).map (λk=>D.int (f k))=(rwF n f).map D.int:=by
 unfold rwF;rw[dZ];rfl
nonrec def tbF (n m:Nat)(t:Nat->∅):List D:=(List.range n).map λi=>aN (rwF m<|t i)
theorem oK (n m:Nat)(t:Nat->∅):(tbF n m t).length=n:=by simp[tbF]
theorem cX7 (h:i<n):(tbF n m t)[i]? =some (aN<|rwF m<|t i):=by simp[tbF,h]
theorem a27 (h:i<n):atI (tbF n m t) (i:Int)=some (aN<|rwF m<|t i):=cG (cX7 h)
theorem cE4 (n m:Nat)(t:Nat->∅)(f:∅):tbF n m t++[aN<|rwF m f]=tbF (n+1) m (λi=>if i=n then f else t i):=by
 unfold tbF;rw[cS,bT]
 congr 1
 .apply u5
  intro i hi;have:=bZ.mp hi;show _=aN (rwF m<|if i=n then f else t i);rw[a7 aa]
 .simp
theorem b43 (h:i<n):ixN n (i:Int)=some i:=by
 unfold ixN;have h2:(i:Int)< (n:Int):=aa
 simp[h2]
theorem c48 (t:UE)(ρ:Ev)(Q:Bool->Ev->Prop):cU t ρ Q=t ρ (isB Q):=rfl
theorem c49 (g:D->D->(B->Prop)->Prop)(ta tb:UE)(ρ:Ev)(Q:B->Ev->Prop):uOp g ta tb ρ Q=ta ρ λx ρ1=>tb ρ1 λy ρ2=>g x.d y.d λb=>Q b ρ2:=rfl
theorem cX8 (c:UT)(t u:US)(E:UD)(ρ:Ev):fU c t u E ρ=c ρ λb ρ1=>if b=true then t E ρ1 else u E ρ1:=rfl
theorem bE2 {d:D}(h:ρ[i]? =some (~~~d)):aC i ρ Q=Q (.pu d) ρ:=by unfold aC aK3;rw[h]
theorem dV5 {l:List D}(h:ρ[i]? =some (↑l)):aC i ρ Q=Q (.pu<|.lst l) (ρ.set i<|~~~.lst l):=by unfold aC aK3;rw[h]
theorem bI6: ∀r:List Int,pdL (r.map D.int)=some (r.map PyData.int)
 | []=>by simp[pdL]
 | a::r=>by simp[pdL,pd,bI6 r]
theorem dH0 (r:List Int):pd (aN r)=some (.tuple<|r.map .int):=by simp[aN,pd,bI6]
theorem dH1 (r:List Int):pd (.lst<|r.map D.int)=some (.list<|r.map .int):=by simp[pd,bI6]
theorem bI7: ∀r:List Int,PyData.depthAll (r.map PyData.int)=0
 | []=>by simp[PyData.depthAll]
 | a::r=>by simp[PyData.depthAll,PyData.depth,bI7 r]
theorem dV6 (r:List Int):(PyData.tuple<|r.map .int).depth<=60:=by simp[PyData.depth,bI7]
theorem dV7 (r:List Int):(PyData.list<|r.map .int).depth<=60:=by simp[PyData.depth,bI7]
theorem dV8 (a b:List Int):(PyData.tuple<|a.map .int).eqv (.tuple<|b.map .int)=decide (a=b):=by simp only[PyData.eqv];exact PySem.W.ked_eqvAll a b
theorem dV9 (a b:List Int):(PyData.list<|a.map .int).eqv (.list<|b.map .int)=decide (a=b):=by simp only[PyData.eqv];exact PySem.W.ked_eqvAll a b
theorem cE5 {neg:Bool}{a b:List Int}{Q:B->Prop}(h:Q (.pu<|.bl<|neg ^^ decide (a=b))):cO4 neg (aN a) (aN b) Q:=⟨_,_,dH0 a,dH0 b,dV6 a,by rw[dV8];exact h⟩
theorem dH2 {neg:Bool}{a b:List Int}{Q:B->Prop}(h:Q (.pu<|.bl<|neg ^^ decide (a=b))):cO4 neg (.lst<|a.map .int) (.lst<|b.map .int) Q:=⟨_,_,dH1 a,dH1 b,dV7 a,by rw[dV9];exact h⟩
structure Tri (n:Nat)(t:Nat->∅):Prop where
 pos: ∀i,i<n->1<=t i i
 zero: ∀i,i<n-> ∀j,i<j->t i j=0
nonrec def mE (m:Int)(i:Nat):∅:=λj=>if j=i then m else 0
theorem yP (h:x.natAbs<=2^e)(he:e<9000):Sm x:=Sm.pow h he
theorem dW0 (h:k<=n):cutD ((rwF n f).map D.int) none (some (k:Int))=(rwF k f).map D.int:=by
 rw[c46 _ _ (by rw[bC];exact h),<-j3]
 congr 1
 unfold rwF;rw[<-j3,List.take_range,kZ h]
theorem p6:(2:Nat)^900<=2^1300:=cN ac ac
nonrec def jT (t:Nat->∅)(i:Nat)(f:∅):∅:=λj=>f j-(f i/t i i)*t i j
nonrec def gD (t:Nat->∅):Nat->∅->∅
 | 0,f=>f
 | i+1,f=>gD t i (jT t i f)
theorem aB7 {n:Nat}{t:Nat->∅}(S:Tri n t): ∀(i:Nat) (f:∅),i<=n-> ∀j,i<=j->gD t i f j=f j
 | 0,f,_,j,_=>rfl
 | i+1,f,hi,j,hj=>by
  show gD t i (jT t i f) j=f j
  rw[aB7 S i _ ad j ad]
  unfold jT;rw[S.zero i ad j ad]
  lia
theorem b83 {n:Nat}{t:Nat->∅}(S:Tri n t): ∀(i:Nat) (f:∅),i<=n-> ∀j,j<i->0<=gD t i f j/\gD t i f j<t j j
 | i+1,f,hi,j,hj=>by
  show 0<=gD t i (jT t i f) j/\gD t i (jT t i f) j<t j j
  by_cases e:j=i
  .subst e;rw[aB7 S j _ ad j<|aK _]
   have hp:=S.pos j ad
   have h1:=d8 (f j) (show t j j≠0 by lia)
   have h2:=dG (f j) (show 0<t j j by lia)
   have h3:jT t j f j=f j%t j j:=by
    have:=Int.emod_add_mul_ediv (f j) (t j j);unfold jT;rw[uH<|f j/t j j]
    lia
   rw[h3];exact⟨h1,h2⟩
  .exact b83 S i _ ad j ad
theorem aB8 {g:∅}{b:Nat}(ht: ∀j,(t i j).natAbs<=2^900)(hg: ∀j,(g j).natAbs<=2^b): ∀j,(jT t i g j).natAbs<=2^(b+901):=by
 intro j;unfold jT;have h1:=hg j;have h2:(g i/t i i).natAbs<=2^b:=aH (tV _ _) (hg i);have h3:((g i/t i i)*t i j).natAbs<=2^b*2^900:=by rw[dW];exact fJ h2 (ht j)
 have h4:(g j-(g i/t i i)*t i j).natAbs<=(g j).natAbs+((g i/t i i)*t i j).natAbs:=aQ2 _ _;have e:2^(b+901)=2^b*2^900+2^b*2^900:=by
  rw[show b+901=b+900+1 from rfl,pow_succ,j5];lia
 have h5:2^b<=2^b*2^900:=aN7 _ (Nat.pow_pos ac)
 generalize 2^b*2^900=X at *;generalize 2^b=Y at *;generalize 2^(b+901)=Z at *
 lia
nonrec def fnL (l:List Int):∅:=λj=>l.getD j 0
theorem dW1 (h:l.length=n):aN l=aN (rwF n<|fnL l):=by
 rw[<-h];exact fK aN (b42 l)
theorem dH3 (h:l.length=n): ∀j,n<=j->fnL l j=0:=λj hj=>by
 unfold fnL;rw[aO,fA ad]
 rfl
nonrec def jR (t:Nat->∅):Nat->Nat->∅
 | 0=>λ_ _=>0
 | i+1=>λr=>if r=i then gD (jR t i) i (t i)else jR t i r
theorem aX1 (t:Nat->∅): ∀{i r:Nat},r<i->jR t i r=gD (jR t r) r (t r)
 | i+1,r,h=>by
  show(if r=i then gD (jR t i) i (t i)else jR t i r)=_
  by_cases e:r=i
  .rw[aA e,e]
  .rw[a7 e];exact aX1 t ad
theorem dW2 (t:Nat->∅){r:Nat}(h:r<i)(h2:r<k):jR t i r=jR t k r:=by rw[aX1 t h,aX1 t h2]
theorem yQ (h:i<n):(tbF n m t).getD i .non=aN (rwF m<|t i):=by rw[aO,cX7 h];rfl
nonrec def tbX (n m:Nat)(t:Nat->∅):List D:=(List.range n).map λi=> .lst ((rwF m<|t i).map .int)
theorem aI1 (n m:Nat)(t:Nat->∅):(tbX n m t).length=n:=by simp[tbX]
theorem aX2 (h:i<n):(tbX n m t)[i]? =some (.lst<|(rwF m<|t i).map .int):=by simp[tbX,h]
theorem cR1 (h:i<n):atI (tbX n m t) (i:Int)=some (.lst<|(rwF m<|t i).map .int):=cG (aX2 h)
theorem cX9 {u u':Nat->∅}(hi:i<n)(h: ∀r,r≠i->u' r=u r):(tbX n m u).set i (.lst<|(rwF m<|u' i).map .int)=tbX n m u':=by
 apply pT
 intro j
 by_cases e:i=j
 .subst e;rw[dB (by rw[aI1];exact hi),aX2 hi]
 .rw[get_set_ne e]
  by_cases hj:j<n
  .rw[aX2 hj,aX2 hj,h j λz=>e z.symm]
  .rw[fA (by rw[aI1];lia),fA (by rw[aI1];lia)]
def swp (u:Nat->∅)(l:∅)(i:Nat):Nat->∅:=λr=>if r=i then l else u r
def bI8 (u:Nat->∅)(l:∅)(m q:Int)(i:Nat):∅:=λj=>if j<i then(u i j-q*l j)%m else if j=i then u i i-q*l i else 0
theorem dW3 {u:Nat->∅}{l:∅}(hi:i<n)(T:Tri n u)(lz: ∀j,i<j->l j=0)(l1:1<=l i):Tri n (swp u l i):=by
 have nr: ∀r,r≠i->swp u l i r=u r:=λr hr=>a7 hr
 have nl:swp u l i i=l:=aA rfl;refine⟨λr hr=> ?_,λr hr j hj=> ?_⟩
 .by_cases e:r=i
  .subst e;rw[nl];exact l1
  .rw[nr r e];exact T.pos r hr
 .by_cases e:r=i
  .subst e;rw[nl];exact lz j hj
  .rw[nr r e];exact T.zero r hr j hj
theorem dH4 {u:Nat->∅}{l:∅}{m:Int}(hi:i<n):((rwF i λj=>(u i j-q*l j)%m).map D.int++[D.int<|u i i-q*l i]++(replicate (n-1-i) [D.int 0]).flatten:List D)=(rwF n<|bI8 u l m q i).map .int:=by
 rw[hJ];apply pT;intro j
 by_cases h1:j<i
 .rw[iW (by simp[rwF];lia),iW (by simp[rwF];lia),mY h1,mY ad]
  unfold bI8;rw[aA h1]
 .by_cases h2:j=i
  .subst h2;rw[iW<|by simp[rwF],jW<|by simp[rwF],bC,uI,mY hi]
   unfold bI8;rw[a7 h1,aA rfl];rfl
  .rw[jW (by simp[rwF];lia)]
   simp only[cB,bC,dP,nN];rw[aZ,pJ]
   by_cases h3:j<n
   .rw[aA ad,mY h3]
    unfold bI8;rw[a7 h1,a7 h2];rfl
   .rw[a7 ad,fA (by rw[bC];lia)]
    rfl
structure Tk (n:Nat)(m:Int)(t:Nat->∅):Prop extends Tri n t where
 lo: ∀i j,0<=t i j
 hi: ∀i j,t i j<=m
structure FK (i:Nat)(T:Nat->∅):Prop where
 tri:Tri i T
 bd: ∀r j,(T r j).natAbs<=2^500
theorem p5':(2:Int)^500=((2^500:Nat):Int):=by norm_cast
theorem c50 {n:Nat}{m:Int}{t:Nat->∅}(ok:Tk n m t)(m2:m.natAbs<=2^500): ∀i,i<=n->FK i (jR t i)
 | 0,_=>⟨⟨λi hi=>absurd hi (aR3 _),λi hi=>absurd hi (aR3 _)⟩,λr j=>eH _⟩
 | i+1,hi=>by
  have F:=c50 ok m2 i ad
  have new:jR t (i+1) i=gD (jR t i) i (t i):=aA rfl;have old: ∀r,r≠i->jR t (i+1) r=jR t i r:=λr hr=>a7 hr
  have ab: ∀j,i<=j->gD (jR t i) i (t i) j=t i j:=aB7 F.tri i (t i) (aK _);refine⟨⟨λr hr=> ?_,λr hr j hj=> ?_⟩,λr j=> ?_⟩
  .by_cases e:r=i
   .subst e;rw[new,ab r<|aK _];exact ok.pos r ad
   .rw[old r e];exact F.tri.pos r ad
  .by_cases e:r=i
   .subst e;rw[new,ab j ad];exact ok.zero r ad j hj
   .rw[old r e];exact F.tri.zero r ad j hj
  .by_cases e:r=i
   .subst e;rw[new]
    by_cases hj:j<r
    .have:=b83 F.tri r (t r) (aK _) j hj;have:=F.bd j j
     lia
    .rw[ab j ad]
     have:=ok.lo r j;have:=ok.hi r j
     lia
   .rw[old r e];exact F.bd r j
def aX3:Φ:=λds Q=> ∃(n:Nat) (m:Int) (L:List (List Int)),ds=[.int (n:Int),.int m,.lst<|L.map aN]/\1<=n/\n<=8/\1<=m/\m<=2^500/\(∀l∈L,l.length=n)/\ ∀T,Tri n T->(∀r j,(T r j).natAbs<=2^500)->Q (.pu<|.tup<|tbF n n T)
def yR:US:=(bJ 5<|uOp eB (uOp eB (aC 9)<|fL<|a8 (aC 8) aL)<|uOp dE (fL<|a8 @0 aL)<|uOp M.gSub (uOp M.gSub (aC 0)<|@1)<|aC 6)
def qK:US:=(aU (vU 3 (aC 5)<|aC 6) yR)
def qL:US:=(aU (bJ 9<|d5 [7,1] [none,none,some 7,some 1,none] 4 (dC5<|a8 (aC 9)<|a8 (aC 5) aL) (rM<|fV 0<|fV 1 rL) (λρ Q=>Q true ρ)<|uOp kP (uOp M.gSub (aC 0)<|uOp dE (aC 2)<|aC 1)<|aC 3) qK)
def yS:US:=(aU (bJ 9<|uSl (uV<|uIx (aT 3)<|aC 6) jE<|mJ<|aC 6) qL)
def qM:US:=(aU (bJ 8<|uOp M.gSub (uIx (uV<|uIx (aT 3)<|aC 6)<|aC 6)<|uOp dE (aC 7)<|uIx (aT 5)<|aC 6) yS)
def qN:US:=(aU (bJ 7<|uOp aJ5 (uIx (uV<|uIx (aT 3)<|aC 6)<|aC 6)<|uIx (aT 5)<|aC 6) qM)
def uW:US:=(b23 (cU<|uOp (fS true) (uIx (aT 5)<|aC 6)<|@0) qN)
def a28:US:=(gW (b80<|a8 (uOp M.gSub (aC 0)<|@1)<|a8 (mM<|@1)<|a8 (mM<|@1) aL) (bS 6) uW)
def a29:US:=(aU (bJ 5<|d5 [1] [none,some 1,none] 2 (dS<|aC 4) (bS 0) (λρ Q=>Q true ρ)<|uOp kP (aC 0)<|aC 1) a28)
def aB9:US:=(vU 3 (d5 [7] [none,none,some 7,none] 3 (dC5<|a8 (uIx (aT 3)<|aC 10)<|a8 (uIx (aT 3)<|aC 11) aL) (rM<|fV 0<|fV 1 rL) (λρ Q=>Q true ρ)<|uOp M.gSub (aC 0)<|uOp dE (aC 2)<|aC 1)<|aC 10)
def uX:US:=(aU (bJ 7<|uOp aJ5 (uIx (uV<|uIx (aT 3)<|aC 10)<|aC 11)<|uIx (uV<|uIx (aT 3)<|aC 11)<|aC 11) aB9)
def aX4:US:=(gW (b80<|a8 (uOp M.gSub (aC 10)<|@1)<|a8 (mM<|@1)<|a8 (mM<|@1) aL) (bS 11) uX)
def bI9:US:=(d6<|aR cC<|a8 (d5 [] [none,none] 1 (dS<|aC 3) (bS 0) (λρ Q=>Q true ρ)<|aR cC<|a8 (aC 0) aL) aL)
def bJ0:US:=(aU (gW (fQ<|a8 (aC 0) aL) (bS 10) aX4) bI9)
def aS0:US:=(aU (gW (dS<|aC 2) (bS 4) a29) bJ0)
def bJ1:US:=(aU (bJ 3<|d5 [0,1] [none,some 0,some 1,none] 3 (fQ<|a8 (aC 0) aL) (bS 0) (λρ Q=>Q true ρ)<|d5 [2,0] [none,some 2,some 0,none] 3 (fQ<|a8 (aC 1) aL) (bS 0) (λρ Q=>Q true ρ)<|uOp dE (aC 1)<|aR aA2<|a8 (uOp (fS false) (aC 2)<|aC 0) aL) aS0)
theorem dH5 {m:Int}{s4 s10:Option B}(n8:n<=8)(hin:i<n)(m1:1<=m)(m2:m<=2^500)
  (h: ∀u l x5 x7 x8 x9,x5=some (B.pu<|.lst<|(rwF n l).map .int)\/x5=some (B.ow<|(rwF n l).map .int)->Tri n u->(∀r j,0<=u r j)->(∀r j,u r j<=m)->(∀j,i<=j->l j=0)->(∀j,0<=l j/\l j<m)->
   E.nx [!(n:Int),!m,~~~.lst (L.map aN),↑(tbX n n u),s4,x5,!(i:Int),x7,x8,x9,s10,s11])
  {u:Nat->∅} {l:∅} {x5 x7 x8 x9:Option B} (hx5:x5=some (B.pu<|.lst<|(rwF n l).map .int)\/x5=some (B.ow<|(rwF n l).map .int)) (T:Tri n u) (lo: ∀r j,0<=u r j) (hi: ∀r j,u r j<=m) (lz: ∀j,i<j->l j=0) (lb: ∀j,0<=l j/\l j<m) :
  uW E [!(n:Int),!m,~~~.lst (L.map aN),↑(tbX n n u),s4,x5,!(i:Int),x7,x8,x9,s10,s11]:=by
 have big:(10000:Nat)<=sizeLine:=ac
 rw[p5']at m2;have t6: ∀x:Int,0<=x->x<=m->Sm x:=λx h1 h2=>yP (e:=500) ad ad
 unfold uW
 refine⟨λk ρ=> ∃u l x5 x7 x8 x9,ρ=[!(n:Int),!m,~~~.lst (L.map aN),↑(tbX n n u),s4,x5,!(i:Int),x7,x8,x9,s10,s11]/\(x5=some (B.pu<|.lst<|(rwF n l).map .int)\/x5=some (B.ow<|(rwF n l).map .int))/\k=(l i).toNat/\Tri n u/\(∀r j,0<=u r j)/\(∀r j,u r j<=m)/\(∀j,i<j->l j=0)/\(∀j,0<=l j/\l j<m),⟨_,u,l,x5,x7,x8,x9,rfl,hx5,rfl,T,lo,hi,lz,lb⟩,?_⟩
 rintro k ρ ⟨u,l,x5,x7,x8,x9,rfl,hx5,rfl,T,lo,hi,lz,lb⟩;have e1:atI ((rwF n l).map D.int) (i:Int)=some (.int<|l i):=fW hin;have e2:atI (tbX n n u) (i:Int)=some (.lst<|(rwF n<|u i).map .int):=cR1 hin;have e3:atI ((rwF n<|u i).map D.int) (i:Int)=some (.int<|u i i):=fW hin
 have body:1<=l i-> ∀(Z:UD),(∀l' x7 x8 x9,l'=bI8 u l m (u i i/l i) i->Z.nx [!(n:Int),!m,~~~.lst (L.map aN),↑(tbX n n (swp u l i)),s4,↑((rwF n l').map .int),!(i:Int),x7,x8,x9,s10,s11])->
   qN Z [!(n:Int),!m,~~~.lst (L.map aN),↑(tbX n n u),s4,x5,!(i:Int),x7,x8,x9,s10,s11]:=by
  intro l1 Z hD;have sl:Sm (l i):=t6 _ (lb i).1 (by have:=(lb i).2;lia)
  have sq:Sm (u i i/l i):=yP (e:=500) (aH (tV _ _) (by have:=lo i i;have:=hi i i;lia)) ad
  have el: ∀j,Sm (l j):=λj=>t6 _ (lb j).1 (by have:=(lb j).2;lia)
  have fin:qL Z [!(n:Int),!m,~~~.lst (L.map aN),↑(tbX n n u),s4,x5,!(i:Int),!u i i/l i,!u i i-u i i/l i*l i,↑((rwF i<|u i).map .int),s10,s11]:=by
   unfold qL;rw[aM,kA]
   refine aR9 (t0:=0) (t1:=1) i (λj=>((rwF i<|u i).map D.int).getD j .non) (λj=>((rwF n l).map D.int).getD j .non) [!(n:Int),!m,~~~.lst (L.map aN),↑(tbX n n u),s4,~~~.lst ((rwF n l).map .int),!(i:Int),!u i i/l i,!u i i-u i i/l i*l i,~~~.lst ((rwF i<|u i).map .int),s10,s11] ?_ ad
    (λx y z=>[x,y,!u i i/l i,!m,↑z]) none none rfl (λ_ _ _ _ _=>rfl) (λ_ _ _=>⟨ae,ae⟩) (λ_ _ _ _ q=>q) (λ_ _ _ _=>rfl) (λj=> .int ((u i j-u i i/l i*l j)%m)) ?_ ?_
   .intro Q' q;rcases hx5 with rfl|rfl
    .left
     rw[bC,bC,kZ ad]
     exact q
    .left
     rw[bC,bC,kZ ad]
     exact q
   .intro j z Q' hj q;rw[iS hj,iS ad]at q⊢
    left
    rw[dD _ ad]
    exact⟨.inr ⟨sq,el j⟩,ad,q⟩
   rw[lH];show qK _ [!(n:Int),!m,~~~.lst (L.map aN),↑(tbX n n u),s4,~~~.lst ((rwF n l).map .int),!(i:Int),!u i i/l i,!u i i-u i i/l i*l i,some<|.ow<|(rwF i λj=>(u i j-u i i/l i*l j)%m).map .int,s10,s11]
   unfold qK;rw[aM];left;rw[aI1,aH7 hin];right;have es:(tbX n n u).set i (.lst<|(rwF n l).map .int)=tbX n n (swp u l i):=by
    have:=cX9 (m:=n) (u:=u) (u':=swp u l i) hin λr hr=>a7 hr
    rw[show swp u l i i=l from aA rfl]at this
    exact this
   rw[es];unfold yR;left;rw[show((n:Int)-1-(i:Int)).toNat=n-1-i by lia]
   have er:=dH4 (u:=u) (l:=l) (m:=m) (q:=u i i/l i) hin;have eln:=fK length er;rw[bC]at eln;simp only[cB,bC,dP,nN]at eln;refine⟨ad,by rw[bC];lia,ad,⟨ad,ad,ad⟩,?_,?_⟩
   .simp only[cB,bC,dP,nN]
    lia
   .rw[er];exact hD _ _ _ _ rfl
  have tail:qM Z [!(n:Int),!m,~~~.lst (L.map aN),↑(tbX n n u),s4,x5,!(i:Int),!u i i/l i,x8,x9,s10,s11]:=by
   unfold qM;rw[aM];rcases hx5 with rfl|rfl
   all_goals
    left
    simp only[e1,e2,e3];refine⟨.inr ⟨sq,sl⟩,?_⟩;unfold yS;rw[aM];left;simp only[e2];rw[dW0 ad]
    exact fin
  unfold qN;rw[aM];rcases hx5 with rfl|rfl
  all_goals
   left
   simp only[e1,e2,e3];rw[lB _ ad]
   exact⟨⟨ad,sl⟩,tail⟩
 have lp:=lb i;have lz0:l i=0-> ∀j,i<=j->l j=0:=λc j hj=>by
  by_cases e:j=i
  .rw[e];exact c
  .exact lz j ad
 have stp:1<=l i-> ∀(l':∅),l'=bI8 u l m (u i i/l i) i->(l' i).toNat< (l i).toNat/\Tri n (swp u l i)/\(∀r j,0<=swp u l i r j)/\(∀r j,swp u l i r j<=m)/\(∀j,i<j->l' j=0)/\(∀j,0<=l' j/\l' j<m):=λl1 l' e=>by
  subst e;have em:=Int.emod_add_mul_ediv (u i i) (l i);have m0:=d8 (u i i) (show l i≠0 by lia)
  have mlt:=dG (u i i) (show 0<l i by lia)
  rw[uH]at em;have ei:bI8 u l m (u i i/l i) i i=u i i-u i i/l i*l i:=by
   unfold bI8;rw[a7 ad,aA rfl]
  have sw: ∀r j,0<=swp u l i r j/\swp u l i r j<=m:=λr j=>by
   unfold swp;split
   .have:=lb j;lia
   .exact⟨lo r j,hi r j⟩
  refine⟨by rw[ei];lia,dW3 hin T lz l1,λr j=>(sw r j).1,λr j=>(sw r j).2,λj hj=> ?_,λj=> ?_⟩
  .unfold bI8;rw[a7 ad,a7 ad]
  .by_cases c1:j<i
   .unfold bI8;rw[aA c1];exact⟨d8 _ ad,dG _ ad⟩
   .by_cases c2:j=i
    .rw[c2,ei];lia
    .unfold bI8;rw[a7 c1,a7 c2];lia
 rcases hx5 with e5|e5
 all_goals
  subst e5;left;simp only[e1]
  by_cases c:l i=0
  .rw[a7 ad]
   exact h u l _ x7 x8 x9 (by first|exact .inl rfl|exact .inr rfl) T lo hi (lz0 c) lb
  .rw[aA c];refine body ad _ λl' y7 y8 y9 e=> ?_
   obtain⟨s1,s2,s3,s4',s6,s7⟩:=stp ad l' e
   exact⟨_,s1,swp u l i,l',_,y7,y8,y9,rfl,.inr rfl,rfl,s2,s3,s4',s6,s7⟩
theorem dW4 {m:Int}{x5 x6 x7 x8 x9 s10:Option B}(n1:1<=n)(n8:n<=8)(m1:1<=m)(m2:m<=2^500)(ok:Tk n m t)(hr:r.length=n)
  (h: ∀u s4 x5 x6 x7 x8 x9,Tk n m u->E.nx [!(n:Int),!m,~~~.lst (L.map aN),↑(tbX n n u),s4,x5,x6,x7,x8,x9,s10,s11]) :
  a29 E [!(n:Int),!m,~~~.lst (L.map aN),↑(tbX n n t),~~~aN r,x5,x6,x7,x8,x9,s10,s11]:=by
 have big:(10000:Nat)<=sizeLine:=ac
 unfold a29;rw[aM,kA,dW1 hr];simp only[aN]
 refine cJ (t0:=0) n (λj=>((rwF n<|fnL r).map D.int).getD j .non) [!(n:Int),!m,~~~.lst (L.map aN),↑(tbX n n t),~~~.tup ((rwF n<|fnL r).map .int),x5,x6,x7,x8,x9,s10,s11] ?_ ad (λx l=>[x,!m,↑l]) none rfl (λ_ _ _=>rfl) (λ_ _=>bQ _) (λ_ _ _ q=>q) (λ_ _ _=>rfl) (λj=> .int (fnL r j%m)) ?_ ?_
 .intro Q' q;left;rw[bC];exact q
 .intro j l Q' hj q;rw[iS hj]at q⊢;left;rw[dD _ ad]
  exact⟨ad,q⟩
 rw[lH];show a28 _ [!(n:Int),!m,~~~.lst (L.map aN),↑(tbX n n t),~~~.tup ((rwF n<|fnL r).map .int),some<|.ow<|(rwF n λj=>fnL r j%m).map .int,x6,x7,x8,x9,s10,s11]
 unfold a28;have l0: ∀j,0<=(λj=>fnL r j%m) j/\(λj=>fnL r j%m) j<m:=λj=>⟨d8 _ ad,dG _ ad⟩
 have lz: ∀j,n<=j->(λj=>fnL r j%m) j=0:=λj hj=>by
  show fnL r j%m=0
  rw[dH3 hr j hj];rfl
 generalize (λj=>fnL r j%m)=l00 at l0 lz⊢
 refine bI n (λk=> .int ((n:Int)-1-k)) [!(n:Int),!m,~~~.lst (L.map aN),↑(tbX n n t),~~~.tup ((rwF n<|fnL r).map .int),↑((rwF n l00).map .int),x6,x7,x8,x9,s10,s11] ?_
  (λk ρ=> ∃(u:Nat->∅) (l:∅) (y5 y6 y7 y8 y9:Option B),ρ=[!(n:Int),!m,~~~.lst (L.map aN),↑(tbX n n u),~~~.tup ((rwF n<|fnL r).map .int),y5,y6,y7,y8,y9,s10,s11]/\(y5=some (B.pu<|.lst<|(rwF n l).map .int)\/y5=some (B.ow<|(rwF n l).map .int))/\Tri n u/\(∀r j,0<=u r j)/\(∀r j,u r j<=m)/\(∀j,n-k<=j->l j=0)/\(∀j,0<=l j/\l j<m))
  ⟨t,l00,_,_,_,_,_,rfl,.inr rfl,ok.toTri,ok.lo,ok.hi,lz,l0⟩ ?_ ?_
 .intro Q' q;left;refine⟨trivial,⟨ad,ad,ad,ad⟩,?_⟩
  rw[show((n:Int)-1- -1).toNat=n by lia]
  exact q
 .rintro k ρ hk ⟨u,l,y5,y6,y7,y8,y9,rfl,h5,T,lo,hi,lz,lb⟩;obtain⟨i,hi0⟩: ∃i:Nat,i=n-1-k:=⟨_,rfl⟩;have ei:(n:Int)-1-(k:Int)=(i:Int):=ad
  have eN:n-k=i+1:=ad
  have eN':n-(k+1)=i:=ad
  rw[ei];rw[eN]at lz;refine⟨ae,?_⟩
  refine dH5 (i:=i) n8 ad m1 m2 ?_ h5 T lo hi (λj hj=>lz j ad) lb
  intro u l z5 z7 z8 z9 h1 h2 h3 h4 h6 h7;exact⟨u,l,z5,!(i:Int),z7,z8,z9,rfl,h1,h2,h3,h4,(by rw[eN'];exact h6),h7⟩
 .rintro ρ ⟨u,l,y5,y6,y7,y8,y9,rfl,h5,T,lo,hi,lz,lb⟩;exact h u _ _ _ _ _ _ ⟨T,lo,hi⟩
theorem cR2 (n:Nat)(it:Nat->D)(ρ1:Ev)(hui: ∀Q:Nat->(Nat->D)->Ev->Prop,Q n it ρ1->ui ρ Q)(hn:n<=1000000)
  (G:Option B->List D->Ev) (x0:Option B) (h0:pC (uQ ρ1 js) cap last=G x0 []) (h1: ∀x l b,(G x l).set t0 (some b)=G (some b) l) (h1': ∀x l,t0< (G x l).length) (h2: ∀x l (Q:List D->Prop),Q l->jS (G x l) last Q) (h3: ∀x l l',(G x l).set last (↑l')=G x l')
  (f:Nat->List D) (hte: ∀i l (Q':B->Ev->Prop),i<n->Q' (.ow<|f i) (G (~~~it i) l)->te (G (~~~it i) l) Q') (hq:Q (.ow<|(List.range n).map λi=> .lst (f i)) (uQ ρ1 js)) :
  d5 js cap last ui (bS t0) (λρ Q=>Q true ρ) te ρ Q:=by
 refine hui _ ⟨λi ρ'=> ∃x,ρ'=G x ((List.range i).map λi=> .lst (f i)),⟨x0,h0⟩,?_,?_⟩
 .rintro i ρ' hi ⟨x,rfl⟩;refine⟨h1' _ _,?_⟩;rw[h1];refine hte i _ _ hi (h2 _ _ _ ⟨?_,~~~it i,?_⟩)
  .rw[aG,jY];exact b9 hi (aH hn ac)
  .rw[h3,cS,bT];rfl
 .rintro ρ' ⟨x,rfl⟩;exact h2 _ _ _ hq
theorem dH6 (i:Nat)(t ti:UE)(D:UD)(ρ:Ev):vU i t ti D ρ=t ρ λb ρ1=>jS ρ1 i λ_=>ti ρ1 λj ρ2=>jS ρ2 i λl=>match j.d with
 | .int k=>(match ixN l.length k with
  | some n=>D.nx (ρ2.set i<|↑(l.set n b.d))
  | none=>False)
 | _=>False:=rfl
nonrec def rO (t:Nat->∅)(i:Nat)(g:∅):Nat->∅:=λr=>if r<i then jR t i r else if r=i then g else t r
theorem dH7: Ra aX3 bJ1 ["a","b","c","d","e","f","g","h","i","j","k","l"]:=by
 rintro ds Q ⟨n,m,L,rfl,n1,n8,m1,m2,ok,h⟩;have big:(10000:Nat)<=sizeLine:=ac
 have m2':m.natAbs<=2^500:=by have:=m2;rw[p5']at this;lia
 unfold bJ1;show(aU _ _:US) _ [!(n:Int),!m,~~~.lst (L.map aN),none,none,none,none,none,none,none,none,none];rw[aM,kA]
 refine cR2 (t0:=0) n (λk=> .int (0+(k:Int))) [!(n:Int),!m,~~~.lst (L.map aN),none,none,none,none,none,none,none,none,none] ?_ ad (λx l=>[x,!(n:Int),!m,↑l]) none rfl (λ_ _ _=>rfl) (λ_ _=>bQ _) (λ_ _ _ q=>q) (λ_ _ _=>rfl) (λk=>(rwF n<|mE m k).map .int) ?_ ?_
 .intro Q' q;left;refine⟨⟨ad,ad⟩,?_⟩
  rw[bE];exact q
 .intro k l Q' hk q;refine cJ (t0:=0) n (λj=> .int (0+(j:Int))) [!(0+(k:Int)),!(n:Int),!m,↑l] ?_ ad (λx l=>[x,!m,!(0+(k:Int)),↑l]) none rfl (λ_ _ _=>rfl) (λ_ _=>bQ _) (λ_ _ _ q=>q) (λ_ _ _=>rfl) (λj=> .int (mE m k j)) ?_ ?_
  .intro Q' q;left;refine⟨⟨ad,ad⟩,?_⟩
   rw[bE];exact q
  .intro j l Q' hj q;left;have em:(m*if 0+(k:Int)=0+(j:Int)then 1 else 0)=mE m k j:=by
    unfold mE
    by_cases e:j=k
    .subst e;rw[aA rfl,aA rfl];lia
    .rw[a7 ad,a7 e];lia
   rw[em];exact⟨.inr ⟨yP m2' ad,by split<;>exact yP (e:=1) ac ac⟩,q⟩
  .rw[lH];exact q
 show aS0 _ [!(n:Int),!m,~~~.lst (L.map aN),↑(tbX n n (mE m)),none,none,none,none,none,none,none,none]
 unfold aS0;rw[aM];have ok0:Tk n m (mE m):=by
  refine⟨⟨λi _=>by unfold mE;rw[aA rfl];exact m1,λi _ j hj=>by unfold mE;rw[a7 ad]⟩,λi j=> ?_,λi j=> ?_⟩
  .unfold mE;split<;>lia
  .unfold mE;split<;>lia
 refine bI (L.map aN).length (λi=>(L.map aN).getD i .non) [!(n:Int),!m,~~~.lst (L.map aN),↑(tbX n n (mE m)),none,none,none,none,none,none,none,none] ?_
  (λi ρ=> ∃(t:Nat->∅) (x4 x5 x6 x7 x8 x9:Option B),ρ=[!(n:Int),!m,~~~.lst (L.map aN),↑(tbX n n t),x4,x5,x6,x7,x8,x9,none,none]/\Tk n m t)
  ⟨_,none,none,none,none,none,none,rfl,ok0⟩ ?_ ?_
 .intro Q' q;left;exact q
 .rintro i ρ hi ⟨t,x4,x5,x6,x7,x8,x9,rfl,okt⟩;rw[aG]at hi;have hm:=cE hi;have ei:(L.map aN).getD i .non=aN L[i]:=by rw[aO,aZ,aS hi];rfl
  rw[ei];refine⟨ae,?_⟩
  refine dW4 n1 n8 m1 m2 okt (ok _ hm) ?_
  intro u s4 y5 y6 y7 y8 y9 oku;exact⟨u,_,_,_,_,_,_,rfl,oku⟩
 .rintro ρ ⟨t,x4,x5,x6,x7,x8,x9,rfl,okt⟩;have up: ∀{x:Int},x.natAbs<=2^500->x.natAbs<=2^900:=λh=>aH h (cN ac ac)
  have tt: ∀r j,(t r j).natAbs<=2^900:=λr j=>up (by have:=okt.lo r j;have:=okt.hi r j;lia)
  try right
  unfold bJ0;rw[aM];have mid0: ∀i,rO t i (t i)=λr=>if r<i then jR t i r else t r:=λi=>by
   funext r
   unfold rO;split
   .rfl
   .split
    .rename_i e;rw[e]
    .rfl
  refine bI n (λi=> .int (0+(i:Int))) [!(n:Int),!m,~~~.lst (L.map aN),↑(tbX n n t),x4,x5,x6,x7,x8,x9,none,none] ?_
   (λi ρ=> ∃(y7 y10 y11:Option B),ρ=[!(n:Int),!m,~~~.lst (L.map aN),↑(tbX n n (rO t i (t i))),x4,x5,x6,y7,x8,x9,y10,y11]) ⟨x7,none,none,?_⟩ ?_ ?_
  .intro Q' q;left;refine⟨⟨ad,ad⟩,?_⟩
   rw[bE];exact q
  .rw[mid0];rfl
  .rintro i ρ hi ⟨y7,y10,y11,rfl⟩;refine⟨ae,?_⟩
   have F:=c50 okt m2' i ad
   unfold aX4;show(gW _ _ _:US) _ [!(n:Int),!m,~~~.lst (L.map aN),↑(tbX n n (rO t i (t i))),x4,x5,x6,y7,x8,x9,!(0+(i:Int)),y11]
   refine bI i (λk=> .int (0+(i:Int)-1-k)) [!(n:Int),!m,~~~.lst (L.map aN),↑(tbX n n (rO t i (t i))),x4,x5,x6,y7,x8,x9,!(0+(i:Int)),y11] ?_
    (λk ρ=> ∃(g:∅) (y7 y11:Option B),ρ=[!(n:Int),!m,~~~.lst (L.map aN),↑(tbX n n (rO t i g)),x4,x5,x6,y7,x8,x9,!(0+(i:Int)),y11]/\gD (jR t i) (i-k) g=gD (jR t i) i (t i)/\ ∀j,(g j).natAbs<=2^(900+901*k)) ⟨t i,_,_,rfl,rfl,λj=>by rw[Nat.mul_zero];exact tt i j⟩ ?_ ?_
   .intro Q' q;left;refine⟨trivial,⟨ad,ad,ad,ad⟩,?_⟩
    rw[show(0+(i:Int)-1- -1).toNat=i by lia]
    exact q
   .rintro k ρ hk ⟨g,z7,z11,rfl,hr,hb⟩;obtain⟨q,hq⟩: ∃q:Nat,q=i-1-k:=⟨_,rfl⟩;have eq:0+(i:Int)-1-(k:Int)=(q:Int):=ad
    have ez:0+(i:Int)=(i:Int):=ad
    rw[eq,ez];refine⟨ae,?_⟩
    show uX _ [!(n:Int),!m,~~~.lst (L.map aN),↑(tbX n n (rO t i g)),x4,x5,x6,z7,x8,x9,!(i:Int),!(q:Int)]
    have ri:rO t i g i=g:=by unfold rO;rw[a7 ad,aA rfl]
    have rq:rO t i g q=jR t i q:=by unfold rO;rw[aA ad]
    have e1:atI (tbX n n<|rO t i g) (i:Int)=some (.lst<|(rwF n g).map .int):=by rw[cR1 ad,ri]
    have e2:atI (tbX n n<|rO t i g) (q:Int)=some (.lst<|(rwF n<|jR t i q).map .int):=by rw[cR1 ad,rq]
    have e3:atI ((rwF n g).map D.int) (q:Int)=some (.int<|g q):=fW ad
    have e4:atI ((rwF n<|jR t i q).map D.int) (q:Int)=some (.int<|jR t i q q):=fW ad
    have dp:=F.tri.pos q ad
    unfold uX;rw[aM];left;simp only[e1,e2,e3,e4];rw[lB _ ad]
    refine⟨⟨ad,yP (F.bd q q) ad⟩,?_⟩
    unfold aB9;rw[dH6];refine aR9 (t0:=0) (t1:=1) n (λj=>((rwF n g).map D.int).getD j .non) (λj=>((rwF n<|jR t i q).map D.int).getD j .non) [!(n:Int),!m,~~~.lst (L.map aN),↑(tbX n n (rO t i g)),x4,x5,x6,!g q/jR t i q q,x8,x9,!(i:Int),!(q:Int)] ?_ ad
     (λx y z=>[x,y,!g q/jR t i q q,↑z]) none none rfl (λ_ _ _ _ _=>rfl) (λ_ _ _=>⟨ae,ae⟩) (λ_ _ _ _ q=>q) (λ_ _ _ _=>rfl) (λj=> .int (jT (jR t i) q g j)) ?_ ?_
    .intro Q' q';left;simp only[e1,e2];rw[bC,bC,Nat.min_self];exact q'
    .intro j l Q' hj q';rw[iS hj,iS ad]at q'⊢
     left
     refine⟨.inr ⟨yP (aH (tV _ _)<|hb q) ad,yP (F.bd q j) ac⟩,?_⟩
     exact q'
    .left
     rw[lH,aI1,aH7 hi];right;have es:(tbX n n<|rO t i g).set i (.lst<|(rwF n<|jT (jR t i) q g).map .int)=tbX n n (rO t i<|jT (jR t i) q g):=by
      have:=cX9 (m:=n) (u:=rO t i g) (u':=rO t i (jT (jR t i) q g)) hi λr hr=>by unfold rO;rw[a7 hr,a7 hr]
      rw[show rO t i (jT (jR t i) q g) i=jT (jR t i) q g by unfold rO;rw[a7 ad,aA rfl]]at this
      exact this
     rw[es];refine⟨jT (jR t i) q g,_,_,rfl,?_,λj=> ?_⟩
     .rw[<-hr,show i-k=q+1 by lia,show i-(k+1)=q by lia]
      rfl
     .have:=aB8 (i:=q) (λj=>up (F.bd q j)) hb j
      rw[show 900+901*(k+1)=900+901*k+901 by lia]
      exact this
   .rintro ρ ⟨g,z7,z11,rfl,hr,hb⟩;refine⟨z7,!(0+(i:Int)),z11,?_⟩;rw[uI]at hr;have eg:g=gD (jR t i) i (t i):=hr;have:rO t i g=rO t (i+1) (t<|i+1):=by
     rw[mid0,eg]
     funext r
     unfold rO
     by_cases c1:r<i
     .rw[aA c1,aA ad]
      exact dW2 t c1 ad
     .by_cases c2:r=i
      .subst c2;rw[a7 c1,aA rfl,aA ad]
       exact(aX1 t ad).symm
      .rw[a7 c1,a7 c2,a7 ad]
    rw[this]
  .rintro ρ ⟨y7,y10,y11,rfl⟩;unfold bI9;have F:=c50 okt m2' n (aK _);have ht:tbX n n (rO t n<|t n)=tbX n n (jR t n):=by
    unfold tbX;refine u5 λr hr=> ?_
    rw[show rO t n (t n) r=jR t n r from aA (bZ.mp hr)]
   rw[ht];right;rw[gT,dO,dM];refine cJ (t0:=0) n (λi=>(tbX n n<|jR t n).getD i .non) [!(n:Int),!m,~~~.lst (L.map aN),~~~.lst (tbX n n (jR t n)),x4,x5,x6,y7,x8,x9,y10,y11] ?_ ad (λx l=>[x,↑l]) none rfl (λ_ _ _=>rfl) (λ_ _=>bQ _) (λ_ _ _ q=>q) (λ_ _ _=>rfl) (λi=>aN (rwF n<|jR t n i)) ?_ ?_
   .intro Q' q;left;rw[aI1];exact q
   .intro i l Q' hi q;have eg:(tbX n n<|jR t n).getD i .non= .lst ((rwF n<|jR t n i).map .int):=by rw[aO,aX2 hi];rfl
    rw[eg]at q⊢;left;exact q
   .left
    exact h _ F.tri F.bd
nonrec def jC (f:∅):Nat->Nat
 | 0=>0
 | n+1=>if f n=0 then jC f n else n+1
theorem a31 (f:∅): ∀n,jC f n<=n
 | 0=>aK _
 | n+1=>by
  unfold jC;split
  .have:=a31 f n;lia
  .exact aK _
theorem a33 {f:∅}{k:Nat}: ∀{n:Nat},k<=n->(∀m,k<=m->m<n->f m=0)->(k=0\/f (k-1)≠0)->jC f n=k
 | 0,h,_,_=>by have:k=0:=ad
               rw[this];rfl
 | n+1,h,hz,hl=>by
  unfold jC
  by_cases e:k=n+1
  .subst e;rw[a7];rcases hl with h0|h0
   .lia
   .exists h0
  .rw[aA<|hz n ad ad]
   exact a33 ad (λm h1 h2=>hz m h1 ad) hl
theorem bJ2 {f g:∅}: ∀{n:Nat},(∀m,m<n->f m=g m)->jC f n=jC g n
 | 0,_=>rfl
 | n+1,h=>by
  unfold jC;rw[h n<|pU n,bJ2 λm hm=>h m (kW hm)]
theorem bJ3 (n k:Nat)(f:∅)(h:k<=n):(rwF n f).take k=rwF k f:=by
 unfold rwF;rw[<-j3,List.take_range,kZ h]
def aC0:Φ:=λds Q=> ∃(n:Nat) (f:∅),ds=[aN<|rwF n f]/\n<=1000/\Q (.pu<|aN<|rwF (jC f n) f)
def bJ4:US:=(aU (bJ 1<|iH<|aT 0)<|aU (b23 (cN0 (cU<|uOp (mT λi j=>decide (j<i)) (aC 1)<|@0)<|cU<|uOp (fS false) (uIx (aT 0)<|uOp M.gSub (aC 1)<|@1)<|@0)<|cC0 1 (gI2 λi j Q=>Q (.pu<|.int<|i-j))<|@1)<|d6<|dC2 (aC 0) jE<|mJ<|aC 1)
theorem dH8: Ra aC0 bJ4 ["r","s"]:=by
 rintro ds Q ⟨n,f,rfl,hn,h⟩;unfold bJ4;simp only[aN];show(aU _ _:US) _ [~~~.tup ((rwF n f).map .int),none];rw[aM];left;rw[bC];refine⟨λm ρ=>ρ=[~~~.tup ((rwF n f).map .int),!(m:Int)]/\m<=n/\jC f m=jC f n,⟨n,rfl,aK _,rfl⟩,?_⟩
 rintro m ρ ⟨rfl,hm,hc⟩;left;have fin:jC f m=m->Q (.pu<|.tup<|cutD ((rwF n f).map D.int) none<|some (m:Int)):=λe=>by
  rw[c46 _ _ (by rw[bC];exact hm),<-j3,bJ3 _ _ _ hm]
  rw[<-hc,e]at h;exact h
 split
 .rename_i h0
  obtain⟨m',rfl⟩: ∃m',m=m'+1:=⟨m-1,ad⟩
  rw[show((m'+1:Nat):Int)-1=(m':Int)by lia,fW<|show m'<n by lia]
  right;split
  .rename_i h1
   refine⟨m',ad,?_,ad,?_⟩
   .simp
   .rw[<-hc];show _=if f m'=0 then jC f m' else m'+1;rw[aA h1]
  .rename_i h1
   refine fin ?_
   show(if f m'=0 then jC f m' else m'+1)=m'+1
   rw[a7 h1]
 .have:m=0:=ad
  subst this;exact fin rfl
nonrec def shF (b:∅)(n m:Nat):Int:=if n<=m then b (m-n)else 0
nonrec def aS1 (b:∅)(d n:Nat)(f:∅):∅:=λm=>f m-f (n+d)*shF b n m
nonrec def bJ5 (b:∅)(d:Nat):Nat->∅->∅
 | 0,f=>f
 | n+1,f=>bJ5 b d n (aS1 b d n f)
nonrec def a34 (b:∅)(d:Nat):Nat->∅->∅
 | 0,_=>λ_=>0
 | n+1,f=>λx=>if x=n then f (n+d)else a34 b d n (aS1 b d n f) x
structure dH9 (L d a e:Nat)(f b:∅):Prop where
 L9:L<=100
 d9:d<=100
 one:b d=1
 beyond: ∀j,d<j->b j=0
 fb: ∀m,m<L->(f m).natAbs<=2^a
 bb: ∀j,(b j).natAbs<=2^e
 room:a+(e+1)*L<8000
 e8:e<8000
theorem cR3 {b:∅}{d a L:Nat}(hn:n+d<L)(hf: ∀m,m<L->(f m).natAbs<=2^a)(hb: ∀j,(b j).natAbs<=2^e): ∀m,m<L->(aS1 b d n f m).natAbs<=2^(a+(e+1)):=by
 intro m hm;unfold aS1;have h1:=hf m hm;have h2:=hf (n+d) hn;have h3:(shF b n m).natAbs<=2^e:=by
  unfold shF;split
  .exact hb _
  .simp
 have h4:(f (n+d)*shF b n m).natAbs<=2^a*2^e:=by rw[dW];exact fJ h2 h3
 have h5:=aQ2 (f m) (f (n+d)*shF b n m);have h6:2^a<=2^a*2^e:=aN7 _ (Nat.pow_pos ac)
 lia
theorem aI2 (k:Nat):(replicate k [D.int 0]).flatten=(rwF k λ_=>0).map .int:=by
 rw[hJ]
 congr 1
 apply fG<;>simp[rwF]
def gJ:Φ:=λds Q=> ∃(L d a e:Nat) (f b:∅),ds=[aN<|rwF L f,aN<|rwF (d+1) b]/\dH9 L d a e f b/\
 Q (.pu<|.tup [aN<|rwF (jC (a34 b d (L-d) f)<|L-d)<|a34 b d (L-d) f,aN<|rwF (jC (bJ5 b d (L-d) f) L)<|bJ5 b d (L-d) f])
def vY:US:=(d6<|jG<|a8 (aR aC0<|a8 (aR cC<|a8 (aC 5) aL) aL)<|a8 (aR aC0<|a8 (aR cC<|a8 (aC 4) aL) aL) aL)
def vZ:US:=(aU (gW (cW3<|a8 (aC 3) aL) (bS 6)<|aU (bJ 7<|uIx (aT 4)<|uOp eB (aC 6)<|aC 2)<|aU (vU 5 (aC 7)<|aC 6)<|gW (dC6<|a8 (aC 1) aL) (rM<|fV 8<|fV 9 rL)<|dC3 4 (λi j=>i-j) (uOp eB (aC 6)<|aC 8)<|uOp dE (aC 7)<|aC 9) vY)
def qO:US:=(aU (bJ 2<|uOp M.gSub (iH<|aT 1)<|@1)<|aU (bJ 3<|aR dA8<|a8 @0<|a8 (uOp M.gSub (iH<|aT 0)<|aC 2) aL)<|aU (bJ 4<|aR rE<|a8 (aC 0) aL)<|aU (bJ 5<|uOp dE (fL<|a8 @0 aL)<|aC 3) vZ)
theorem b44: Ra gJ qO ["f","g","d","s","l","q","a","m","j","c"]:=by
 rintro ds Q ⟨L,d,a,e,f,b,rfl,ok,h⟩;have L9:=ok.L9;have d9:=ok.d9;have room:=ok.room;unfold qO;simp only[aN]at h⊢;show(aU _ _:US) _ [~~~.tup ((rwF L f).map .int),~~~.tup ((rwF (d+1) b).map .int),none,none,none,none,none,none,none,none];left;rw[bC,bC];obtain⟨N,hN⟩: ∃N:Nat,N=L-d:=⟨_,rfl⟩;have e1:((d+1:Nat):Int)-1=(d:Int):=ad
 have e2:(if(L:Int)-(d:Int)>0 then(L:Int)-(d:Int)else 0)=(N:Int):=by split<;>lia
 rw[e1,e2,bE,aI2];refine⟨ac,⟨ad,ad,aH (show 1*N<=100 by lia) ac⟩,?_⟩
 unfold vZ;rw[aM];rw[<-hN]at h;refine bI N (λk=> .int (((N:Int))-1-k)) [~~~.tup ((rwF L f).map .int),~~~.tup ((rwF (d+1) b).map .int),!(d:Int),!(N:Int),↑((rwF L f).map .int),some<|.ow<|(rwF N λ_=>0).map .int,none,none,none,none] ?_
  (λk ρ=> ∃g q z6 z7 z8 z9,ρ=[~~~.tup ((rwF L f).map .int),~~~.tup ((rwF (d+1) b).map .int),!(d:Int),!(N:Int),↑((rwF L g).map .int),↑((rwF N q).map .int),z6,z7,z8,z9]/\
   bJ5 b d (N-k) g=bJ5 b d N f/\(∀x,x<N->a34 b d N f x=if x<N-k then a34 b d (N-k) g x else q x)/\ ∀m,m<L->(g m).natAbs<=2^(a+(e+1)*k))
  ⟨f,λ_=>0,none,none,none,none,rfl,rfl,λx hx=>by rw[Nat.sub_zero,aA hx],λm hm=>by simpa using ok.fb m hm⟩ ?_ ?_
 .intro Q' q;left;refine⟨⟨ad,ad⟩,?_⟩
  rw[bE];exact q
 .rintro k ρ hk ⟨g,q,z6,z7,z8,z9,rfl,hL,hQ,hb⟩;obtain⟨i,hi⟩: ∃i:Nat,i=N-1-k:=⟨_,rfl⟩;have ei:(N:Int)-1-(k:Int)=(i:Int):=ad
  have hiN:i<N:=ad
  have hid:i+d<L:=ad
  rw[ei];have c1:(i:Int)+(d:Int)=((i+d:Nat):Int):=ad
  left
  rw[c1,fW hid];right;rw[bC,b43 hiN];right;rw[tD hiN];refine⟨ae,?_⟩
  have smg:Sm (g<|i+d):=Sm.pow (hb _ hid) (by
   have:(e+1)*k<=(e+1)*L:=u6 _ ad
   lia)
  refine bI (d+1) (λj=> .tup [.int (j:Int),((rwF (d+1) b).map D.int).getD j .non]) [~~~.tup ((rwF L f).map .int),~~~.tup ((rwF (d+1) b).map .int),!(d:Int),!(N:Int),↑((rwF L g).map .int),some<|.ow<|(rwF N λx=>if x=i then g (i+d)else q x).map .int,!(i:Int),!g (i+d),z8,z9] ?_
   (λj ρ=> ∃z8 z9,ρ=[~~~.tup ((rwF L f).map .int),~~~.tup ((rwF (d+1) b).map .int),!(d:Int),!(N:Int),some<|.ow<|(rwF L λm=>if m<i+j then aS1 b d i g m else g m).map .int,some<|.ow<|(rwF N λx=>if x=i then g (i+d)else q x).map .int,!(i:Int),!g (i+d),z8,z9]) ⟨z8,z9,?_⟩ ?_ ?_
  .intro Q' qq;left;rw[bC];exact qq
  .have:(rwF L λm=>if m<i+0 then aS1 b d i g m else g m)=rwF L g:=by
    apply jJ
    intro m hm
    by_cases c:m<i+0
    .rw[aA c];unfold aS1 shF;rw[a7 ad]
     lia
    .rw[a7 c]
   rw[this]
  .rintro j ρ hj ⟨z8,z9,rfl⟩;rw[iS hj];have hij:i+j<L:=ad
   have c2:(i:Int)+(j:Int)=((i+j:Nat):Int):=ad
   simp only[dC3];left;rw[c2,bC];refine⟨ae,ae,trivial,_,i+j,g<|i+j,rfl,b43 hij,by rw[mY hij,a7 ad],.inr ⟨smg,Sm.pow (ok.bb j) (by have:=ok.e8;lia)⟩,_,rfl,!(j:Int),!b j,?_⟩
   rw[tD hij];have:(rwF L λx=>if x=i+j then g (i+j)-g (i+d)*b j else if x<i+j then aS1 b d i g x else g x)=rwF L λm=>if m<i+(j+1)then aS1 b d i g m else g m:=by
    apply jJ
    intro m hm
    by_cases c:m=i+j
    .subst c;rw[aA rfl,aA ad]
     unfold aS1 shF;rw[aA ad,show i+j-i=j by lia]
    .rw[a7 c]
     by_cases c3:m<i+j
     .rw[aA c3,aA ad]
     .rw[a7 c3,a7 ad]
   rw[this]
  .rintro ρ ⟨z8,z9,rfl⟩;have eg:(rwF L λm=>if m<i+(d+1)then aS1 b d i g m else g m)=rwF L (aS1 b d i g):=by
    apply jJ
    intro m hm
    by_cases c:m<i+(d+1)
    .rw[aA c]
    .rw[a7 c];unfold aS1 shF;rw[aA ad,ok.beyond _ ad]
     lia
   rw[eg];have en:N-k=i+1:=ad
   have en2:N-(k+1)=i:=ad
   rw[en]at hL hQ;refine⟨_,_,_,_,_,_,rfl,by rw[en2];exact hL,λx hx=> ?_,?_⟩
   .rw[en2,hQ x hx]
    by_cases c:x<i
    .rw[aA c,aA ad]
     show(if x=i then _ else a34 b d i (aS1 b d i g) x)=_
     rw[a7 ad]
    .rw[a7 c]
     by_cases c2:x=i
     .subst c2;rw[aA ad,aA rfl]
      show(if x=x then _ else _)=_
      rw[aA rfl]
     .rw[a7 ad,a7 c2]
   .have:=cR3 hid hb ok.bb;rw[show a+(e+1)*(k+1)=a+(e+1)*k+(e+1)by rw[Nat.mul_succ];lia]
    exact this
 .rintro ρ ⟨g,q,z6,z7,z8,z9,rfl,hL,hQ,hb⟩;right;unfold vY;rw[uI]at hL hQ;have hg:g=bJ5 b d N f:=hL;have hq: ∀x,x<N->a34 b d N f x=q x:=λx hx=>by rw[hQ x hx,a7 ad]
  left
  refine⟨N,q,rfl,ad,?_⟩
  refine⟨L,g,rfl,ad,?_⟩
  left
  refine⟨ac,?_⟩
  have e3:jC (a34 b d N f) N=jC q N:=bJ2 λm hm=>hq m hm
  have e4:rwF (jC q N) (a34 b d N f)=rwF (jC q N) q:=jJ λm hm=>hq m (by have:=a31 q N;lia)
  rw[e3,e4,<-hg]at h;exact h
nonrec def conv (u b:∅):Nat->∅
 | 0,_=>0
 | n+1,m=>conv u b n m+u n*shF b n m
theorem b84 (h:0<n):atI ((rwF n f).map D.int) (-1)=some (.int<|f<|n-1):=by
 unfold L2.atI;have e:ixN ((rwF n f).map D.int).length (-1)=some (n-1):=by
  unfold ixN;rw[bC,a7 ac,aA ad]
  congr 1
  lia
 rw[e];exact mY ad
nonrec def md (p:Int)(f:∅):∅:=λj=>f j%p
nonrec def c51 (c p:Int):∅
 | 0=>1
 | n+1=>c51 c p n*c%p
theorem bJ6 {c p:Int}(hp:2<=p): ∀n,0<=c51 c p n/\c51 c p n<p
 | 0=>⟨by show(0:Int)<=1;lia,by show(1:Int)<p;lia⟩
 | n+1=>⟨d8 _ ad,dG _ ad⟩
structure Pr (p:Int):Prop where
 lo:2<=p
 hi:p<200
 inv: ∀c:Int,0<c->c<p->c51 c p (p.toNat-2)*c%p=1
theorem b85 {b:∅}{d:Nat}: ∀(n:Nat) (f:∅) (x:Nat),n<=x->a34 b d n f x=0
 | 0,_,_,_=>rfl
 | n+1,f,x,h=>by
  show(if x=n then f (n+d)else a34 b d n (aS1 b d n f) x)=0
  rw[a7 ad]
  exact b85 n _ x ad
def j8:Φ:=λds Q=> ∃(n:Nat) (f:∅) (p:Int),ds=[aN<|rwF n f,.int p]/\n<=1000/\0<p/\Q (.pu<|aN<|rwF (jC (md p f) n)<|md p f)
def wQ:US:=(d6<|aR aC0<|a8 (aR cC<|a8 (d5 [1] [none,some 1,none] 2 (dS<|aC 0) (bS 0) (λρ Q=>Q true ρ)<|uOp kP (aC 0)<|aC 1) aL) aL)
theorem dW5 (Q:B->Ev->Prop)(n:Nat)(f:∅)(p:Int)(hn:n<=1000)(hp:0<p)(k:Nat->D)(iN:Ev)(x0:D)(hx:x0=aN (rwF n f)\/x0= .lst ((rwF n f).map .int))(h:Q (.ow<|(rwF n<|md p f).map .int) (some (.pu x0)::some (.pu<|.int p)::iN)) :
  (d5 [1] [none,some 1,none] 2 (dS<|aC 0) (bS 0) (λρ Q=>Q true ρ) (uOp kP (aC 0)<|aC 1):UE) (some (.pu x0)::some (.pu<|.int p)::iN) Q:=by
 refine cJ (t0:=0) n (λk=>((rwF n f).map D.int).getD k .non) (some (.pu x0)::some (.pu<|.int p)::iN) ?_ ad (λx l=>[x,!p,↑l]) none rfl (λ_ _ _=>rfl) (λ_ _=>bQ _) (λ_ _ _ q=>q) (λ_ _ _=>rfl) (λk=> .int (md p f k)) ?_ ?_
 .intro Q' q;rcases hx with rfl|rfl
  .simp only[aN]at q⊢;left;rw[bC];exact q
  .left
   rw[bC];exact q
 .intro k l Q' hk q;rw[iS hk]at q⊢;left;refine⟨ad,?_⟩
  rw[dD _ hp];exact q
 .rw[lH];exact h
theorem bQ7: Ra j8 wQ ["r","p"]:=by
 rintro ds Q ⟨n,f,p,rfl,hn,hp,h⟩;unfold wQ;show(d6 _:US) _ [~~~aN (rwF n f),!p];rw[gT,dO,dM,dO,dM];refine dW5 _ n f p hn hp (λ_=> .non) [] _ (.inl rfl) ?_
 left
 exact⟨n,md p f,rfl,hn,h⟩
theorem cR4 (u b:∅)(i N:Nat):(rwF N λm=>if m<i+0 then conv u b (i+1) m else conv u b i m)=rwF N (conv u b i):=by
 apply jJ
 intro m hm
 by_cases c:m<i+0
 .rw[aA c];show conv u b i m+u i*shF b i m=_;unfold shF
  lia
 .rw[a7 c]
theorem cR5 {b:∅}{V N:Nat}(hz: ∀j,V<=j->b j=0):(rwF N λm=>if m<i+V then conv u b (i+1) m else conv u b i m)=rwF N (conv u b (i+1)):=by
 apply jJ
 intro m hm
 by_cases c:m<i+V
 .rw[aA c]
 .rw[a7 c];show _=conv u b i m+u i*shF b i m;unfold shF;rw[hz _ ad]
  lia
theorem cR6 (u b:∅)(i j N:Nat):(rwF N λx=>if x=i+j then conv u b i (i+j)+u i*b j else if x<i+j then conv u b (i+1) x else conv u b i x)=rwF N λm=>if m<i+(j+1)then conv u b (i+1) m else conv u b i m:=by
 apply jJ
 intro m hm
 by_cases c:m=i+j
 .subst c;rw[aA rfl,aA ad]
  show _=conv u b i (i+j)+u i*shF b i (i+j)
  unfold shF;rw[aA ad,show i+j-i=j by lia]
 .rw[a7 c]
  by_cases c3:m<i+j
  .rw[aA c3,aA ad]
  .rw[a7 c3,a7 ad]
theorem md_nat {p:Int}(h1:2<=p)(h2:p<200)(f:∅)(j:Nat):(md p f j).natAbs<=2^8:=by
 unfold md;have a1:=d8 (f j) (show p≠0 by lia)
 have a2:=dG (f j) (show 0<p by lia)
 lia
def w6:Φ:=λds Q=> ∃(n:Nat) (f:∅) (k p:Int),ds=[aN<|rwF n f,.int k,.int p]/\n<=1000/\0<=k/\k<200/\0<p/\Q (.pu<|aN<|rwF (jC (λj=>k*f j%p) n) λj=>k*f j%p)
def aC1:US:=(d6<|aR j8<|a8 (aR cC<|a8 (d5 [1] [none,some 1,none] 2 (dS<|aC 0) (bS 0) (λρ Q=>Q true ρ)<|uOp dE (aC 1)<|aC 0) aL)<|a8 (aC 2) aL)
theorem cE6: Ra w6 aC1 ["f","k","p"]:=by
 rintro ds Q ⟨n,f,k,p,rfl,hn,k0,k9,hp,h⟩;unfold aC1;show(d6 _:US) _ [~~~aN (rwF n f),!k,!p];rw[gT,dO,dM,dO,dM]
 refine cJ (t0:=0) n (λi=>((rwF n f).map D.int).getD i .non) [~~~aN (rwF n f),!k,!p] ?_ ad (λx l=>[x,!k,↑l]) none rfl (λ_ _ _=>rfl) (λ_ _=>bQ _) (λ_ _ _ q=>q) (λ_ _ _=>rfl) (λi=> .int (k*f i)) ?_ ?_
 .intro Q' q;simp only[aN]at q⊢;left;rw[bC];exact q
 .intro i l Q' hk q;rw[iS hk]at q⊢;left;exact⟨cmL ad ad,q⟩
 .rw[lH];left;exact⟨n,λi=>k*f i,p,rfl,hn,hp,h⟩
def sD:Φ:=λds Q=> ∃c p:Int,ds=[.int c,.int p]/\0<=c/\c<p/\2<=p/\p<200/\Q (.pu<|.int<|c51 c p<|p.toNat-2)
def sE:US:=(aU (bJ 2<|@1)<|aU (gW (fQ<|a8 (uOp M.gSub (aC 1)<|@2) aL) (bS 3)<|bJ 2<|uOp kP (uOp dE (aC 2)<|aC 0)<|aC 1)<|pB 2)
theorem bB1: Ra sD sE ["c","p","v","s"]:=by
 rintro ds Q ⟨c,p,rfl,c0,c1,p2,p9,h⟩;unfold sE;show(aU _ _:US) _ [!c,!p,none,none];left;refine bI (p.toNat-2) (λk=> .int (0+k)) [!c,!p,!1,none] ?_
  (λk ρ=> ∃z,ρ=[!c,!p,!c51 c p k,z]) ⟨none,rfl⟩ ?_ ?_
 .intro Q' q;left;refine⟨⟨ad,ad⟩,?_⟩
  rw[show(p-2).toNat=p.toNat-2 by lia]
  exact q
 .rintro k ρ hk ⟨z,rfl⟩;have:=bJ6 (c:=c) p2 k;left;refine⟨ae,cmL ad ad,ad,!(0+(k:Int)),?_⟩
  rw[dD _ ad]
  rfl
 .rintro ρ ⟨z,rfl⟩;left;exact h
def sF:Φ:=λds Q=> ∃(n k d:Nat) (f g:∅) (p:Int),ds=[aN<|rwF n f,aN<|rwF k g,.int p]/\n<=50/\k<=50/\Pr p/\(∀j,k<=j->g j=0)/\d<k/\(∀j,d<j->md p g j=0)/\md p g d≠0/\
 ∀t,t*md p g d%p=1->0<=t->t<p->
  let b:=λj=>t*md p g j%p
  let LA:=jC (md p f) n
  let q:=a34 b d (LA-d) (md p f)
  let r:=bJ5 b d (LA-d) (md p f)
  Q (.pu<|.tup [aN<|rwF (jC (λj=>t*q j%p)<|jC q<|LA-d) λj=>t*q j%p,aN<|rwF (jC (md p r)<|jC r LA)<|md p r])
def yT:US:=(d6<|jG<|a8 (aR w6<|a8 (aC 5)<|a8 (aC 4)<|a8 (aC 2) aL)<|a8 (aR j8<|a8 (aC 6)<|a8 (aC 2) aL) aL)
def qP:US:=(aU (d19 (aR gJ<|a8 (aR j8<|a8 (aC 0)<|a8 (aC 2) aL)<|a8 (aR w6<|a8 (aC 3)<|a8 (aC 4)<|a8 (aC 2) aL) aL)<|rM<|fV 5<|fV 6 rL) yT)
def sG:US:=(aU (bJ 3<|aR j8<|a8 (aC 1)<|a8 (aC 2) aL)<|aU (bJ 4<|aR sD<|a8 (uIx (aT 3)<|mM<|@1)<|a8 (aC 2) aL) qP)
theorem bB2: Ra sF sG ["a","b","p","l","t","q","r"]:=by
 rintro ds Q ⟨n,k,d,f,g,p,rfl,hn,hk,pp,gz,dk,dz,d0,h⟩;have p2:=pp.lo;have p9:=pp.hi;unfold sG;show(aU _ _:US) _ [~~~aN (rwF n f),~~~aN (rwF k g),!p,none,none,none,none];have ed:jC (md p g) k=d+1:=a33 ad (λm m1 m2=>dz m ad) (.inr<|by exists d0)
 have c1:=d8 (g d) (show p≠0 by lia)
 have c2:=dG (g d) (show 0<p by lia)
 have c3:0<md p g d:=by
  have:md p g d=g d%p:=rfl
  lia
 have tR:=bJ6 (c:=md p g d) p2 (p.toNat-2);have ht:=pp.inv _ c3 c2;generalize et:c51 (md p g d) p (p.toNat-2)=t at tR ht;have bA: ∀j,0<=t*md p g j%p/\t*md p g j%p<p:=λj=>⟨d8 _ ad,dG _ ad⟩
 have hc:jC (λj=>t*md p g j%p) (d+1)=d+1:=a33 (aK _) (λm a b=>ad) (.inr (by
  show t*md p g d%p≠0
  rw[ht];decide))
 have LA9:=a31 (md p f) n;have low:aN (rwF (jC (md p g) k)<|md p g)= .tup ((rwF (d+1)<|md p g).map .int):=by rw[ed];rfl
 left
 refine⟨k,g,p,rfl,ad,ad,?_⟩
 rw[low];left;rw[b84 ad]
 left
 refine⟨md p g d,p,rfl,ad,c2,p2,p9,?_⟩
 rw[et];show qP _ [~~~aN (rwF n f),~~~aN (rwF k g),!p,~~~aN (rwF (d+1) (md p g)),!t,none,none];unfold qP;left;refine⟨n,f,p,rfl,ad,ad,?_⟩
 refine⟨d+1,md p g,t,p,rfl,ad,ad,ad,ad,?_⟩
 rw[hc];refine⟨jC (md p f) n,d,8,8,md p f,λj=>t*md p g j%p,rfl,⟨ad,ad,ht,λj hj=>by
  show t*md p g j%p=0
  rw[dz j hj,jZ,a06],λm _=>md_nat p2 p9 f m,λj=>by
   have:=bA j;show(t*md p g j%p).natAbs<=256
   lia,ad,ac⟩,?_⟩
 have hh:=h t ht tR.1 tR.2;have q9:=a31 (a34 (λj=>t*md p g j%p) d (jC (md p f) n-d)<|md p f) (jC (md p f) n-d)
 have r9:=a31 (bJ5 (λj=>t*md p g j%p) d (jC (md p f) n-d)<|md p f) (jC (md p f) n)
 simp only[]at hh;left;refine⟨ae,ae,trivial,?_⟩
 unfold yT;left;refine⟨_,_,t,p,rfl,ad,ad,ad,ad,?_⟩
 refine⟨_,_,p,rfl,ad,ad,?_⟩
 left
 exact⟨ac,hh⟩
nonrec def prB (i k:Nat):Bool:=if(2:Int)+(i:Int)=2+(k:Int)then true else not<|decide (((2:Int)+(i:Int))%(2+(k:Int))=0)
nonrec def prC (i:Nat):Bool:=((List.range 13).map<|prB i).all id
nonrec def prL:List Int:=((List.range 198).filter prC).map λi:Nat=>(2:Int)+(i:Int)
theorem cE7 {c p:Nat}(hp:2<=p): ∀n,c51 (c:Int) (p:Int) n=((c^n%p:Nat):Int)
 | 0=>by
  rw[Nat.pow_zero,Nat.mod_eq_of_lt ad]
  rfl
 | n+1=>by
  show c51 (c:Int) (p:Int) n*(c:Int)%(p:Int)=_
  rw[cE7 hp n,<-aR1,<-Int.natCast_emod,pow_succ,Nat.mod_mul_mod]
theorem pr_all:prL.all (λp=>decide (2<=p)&&decide (p<200)&&(List.range p.toNat).all λc=>decide (c=0)||decide (c^(p.toNat-2)%p.toNat*c%p.toNat=1))=true:=af
theorem bJ7 {p:Int}(h:p∈prL):Pr p:=by
 have h1:=cL.mp pr_all p h;simp only[cQ,fY,cL,bZ,a00]at h1;obtain⟨⟨a,b⟩,c⟩:=h1;refine⟨a,b,λx x0 x1=> ?_⟩
 obtain⟨q,rfl⟩: ∃q:Nat,p=(q:Int):=⟨p.toNat,ad⟩
 obtain⟨y,rfl⟩: ∃y:Nat,x=(y:Int):=⟨x.toNat,ad⟩
 have h2:=c y ad
 rw[bE]at h2⊢;rw[cE7 ad,<-aR1,<-Int.natCast_emod]
 rcases h2 with h2|h2
 .lia
 .rw[h2];rfl
nonrec def T_SMALL_PRIMES:List Int:=[2,3,5,7,11,13,17,19,23,29,31,37,41,43,47,53,59,61,67,71,73,79,83,89,97,101,103,107,109,113,127,131,137,139,149,151,157,163,167,173,179,181,191,193,197,199]
theorem tp_ok: ∀p∈T_SMALL_PRIMES,2<=p/\p<200:=af
theorem c52:T_SMALL_PRIMES.length=46:=rfl
def kN:Φ:=λds Q=>ds=[]/\Q (.ow<|T_SMALL_PRIMES.map .int)
def oM:US:=(d6<|aR rE<|a8 (uC<|.tup<|T_SMALL_PRIMES.map .int) aL)
theorem aX5: Ra kN oM []:=by
 rintro ds Q ⟨rfl,h⟩;unfold oM;show(d6 _:US) _ [];left;exact h
theorem dI0:prL=T_SMALL_PRIMES:=af
nonrec def ps (f:∅)(z:Int):∅
 | 0=>0
 | n+1=>ps f z n+f n*z^n
nonrec def hor (f:∅)(n:Nat)(z:Int):∅
 | 0=>0
 | k+1=>hor f n z k*z+f (n-1-k)
theorem dI1 (f:∅)(n:Nat)(z:Int): ∀k,k<=n->hor f n z k*z^(n-k)+ps f z (n-k)=ps f z n
 | 0,_=>by show(0:Int)*_+_=_;rw[a12,cF];rfl
 | k+1,h=>by
  have ih:=dI1 f n z k ad
  obtain⟨m,hm⟩: ∃m,n-k=m+1:=⟨n-k-1,ad⟩
  have e1:n-(k+1)=m:=ad
  have e2:n-1-k=m:=ad
  rw[hm]at ih;show(hor f n z k*z+f (n-1-k))*z^(n-(k+1))+ps f z (n-(k+1))=_;rw[e1,<-ih];show _=hor f n z k*z^(m+1)+(ps f z m+f m*z^m);rw[Int.pow_succ]
  lia
theorem c53 (f:∅)(n:Nat)(z:Int):hor f n z n=ps f z n:=by
 have:=dI1 f n z n (aK _);have e:hor f n z n*z^0+ps f z 0=hor f n z n:=by
  show hor f n z n*z^0+0=_
  rw[pow_zero,pZ,a11]
 lia
theorem aI3 {f:∅}{n a b:Nat}{z:Int}(hf: ∀j,(f j).natAbs<=2^a)(hz:z.natAbs<=2^b): ∀k,(hor f n z k).natAbs<=2^(a+(b+1)*k)
 | 0=>by simp[hor]
 | k+1=>by
  show(hor f n z k*z+f (n-1-k)).natAbs<=_
  have ih:=aI3 (n:=n) hf hz k;have h1:(hor f n z k*z).natAbs<=2^(a+(b+1)*k)*2^b:=by rw[dW];exact fJ ih hz
  have h2:=hf (n-1-k);have h3:=u8 (hor f n z k*z) (f<|n-1-k);have e1:2^(a+(b+1)*(k+1))=2^(a+(b+1)*k)*2^b+2^(a+(b+1)*k)*2^b:=by
   rw[Nat.mul_succ,<-a07,<-a07,pow_succ,j5 2 (a+(b+1)*k) b];lia
  have h4:2^a<=2^(a+(b+1)*k)*2^b:=by
   rw[<-j5];exact cN ac ad
  lia
theorem dI2 {a b:Nat}(hf: ∀j,(f j).natAbs<=2^a)(hz:z.natAbs<=2^b):(ps f z n).natAbs<=2^(a+(b+1)*n):=by
 rw[<-c53];exact aI3 hf hz n
structure dI3 (n a b:Nat)(f:∅)(z:Int):Prop where
 fb: ∀j,(f j).natAbs<=2^a
 zb:z.natAbs<=2^b
 room:a+(b+1)*n<8000
 b8:b<8000
 n9:n<=200
def tE:Φ:=λds Q=> ∃(n a b:Nat) (f:∅) (z:Int),ds=[aN<|rwF n f,.int z]/\dI3 n a b f z/\Q (.pu<|.int<|ps f z n)
def a35:US:=(aU (bJ 2<|@0)<|aU (gW (cW5<|a8 (aC 0) aL) (bS 3)<|bJ 2<|uOp eB (uOp dE (aC 2)<|aC 1)<|aC 3)<|pB 2)
theorem c54: Ra tE a35 ["f","z","v","c"]:=by
 rintro ds Q ⟨n,a,b,f,z,rfl,ok,h⟩;unfold a35;simp only[aN];show(aU _ _:US) _ [~~~.tup ((rwF n f).map .int),!z,none,none];left;refine bI n (λk=>((rwF n f).map D.int).getD (n-1-k) .non) [~~~.tup ((rwF n f).map .int),!z,!0,none] ?_
  (λk ρ=> ∃c,ρ=[~~~.tup ((rwF n f).map .int),!z,!hor f n z k,c]) ⟨none,rfl⟩ ?_ ?_
 .intro Q' q;left;rw[bC];exact q
 .rintro k ρ hk ⟨c,rfl⟩;rw[iS aa]
  left
  have room:=ok.room;have:(b+1)*k<=(b+1)*n:=u6 _ aa
  exact⟨ae,.inr ⟨Sm.pow (aI3 ok.fb ok.zb k) aa,Sm.pow ok.zb (by have:=ok.b8;omega)⟩,_,rfl⟩
 .rintro ρ ⟨c,rfl⟩;left;rw[c53];exact h
theorem dW6 (f g:∅)(n m:Nat):shF (λj=>f j+g j) n m=shF f n m+shF g n m:=by
 unfold shF;right;split<;>lia
theorem bW8 (u f g:∅)(m:Nat): ∀n,conv u (λj=>f j+g j) n m=conv u f n m+conv u g n m
 | 0=>rfl
 | n+1=>by
  show conv u (λj=>f j+g j) n m+u n*shF (λj=>f j+g j) n m=conv u f n m+u n*shF f n m+(conv u g n m+u n*shF g n m)
  rw[bW8 u f g m n,dW6,Int.mul_add]
  lia
theorem cE8 (c:Int)(k:Nat)(hu: ∀j,n<=j->u j=0)(m:Nat):conv u (λj=>if j=k then c else 0) n m=c*shF u k m:=by
 have e: ∀n,conv u (λj=>if j=k then c else 0) n m=if k<=m/\m-k<n then c*u (m-k)else 0:=by
  intro n
  induction n with
  | zero=>rw[a7 aa];rfl
  | succ n ih=>
   show conv u (λj=>if j=k then c else 0) n m+u n*shF (λj=>if j=k then c else 0) n m=_
   have sh:shF (λj=>if j=k then c else 0) n m=if n<=m/\m-n=k then c else 0:=by
    unfold shF;right
    by_cases h3:n<=m
    .rw[aA h3]
     by_cases h4:m-n=k
     .rw[aA h4,aA ⟨h3,h4⟩]
     .rw[a7 h4,a7 λz=>h4 z.2]
    .rw[a7 h3,a7 λz=>h3 z.1]
   rw[ih,sh]
   by_cases h1:k<=m/\m-k<n
   .rw[aA h1,a7<|show ¬(n<=m/\m-n=k)by omega,aA<|show k<=m/\m-k<n+1 by omega,jZ,a11]
   .rw[a7 h1]
    by_cases h2:k<=m/\m-k=n
    .rw[aA<|show n<=m/\m-n=k by omega,aA<|show k<=m/\m-k<n+1 by omega,h2.2,cF,uH]
    .rw[a7<|show ¬(n<=m/\m-n=k)by omega,a7<|show ¬(k<=m/\m-k<n+1)by omega,jZ]
     rfl
 rw[e n];unfold shF
 by_cases h1:k<=m
 .rw[aA h1]
  by_cases h2:m-k<n
  .rw[aA ⟨h1,h2⟩]
  .rw[a7 aa,hu _ aa,jZ]
 .rw[a7 h1,a7 aa,jZ]
theorem d40 {b:∅}{U V:Nat}(hu: ∀j,U<=j->u j=0)(hb: ∀j,V<=j->b j=0)(m:Nat):conv u b U m=conv b u V m:=by
 have e: ∀n,conv u b n m=conv b (λj=>if j<n then u j else 0) V m:=by
  intro n
  induction n with
  | zero=>
   have:(λj=>if j<0 then u j else 0)=λj=>if j=0 then(0:Int)else 0:=funext λj=>ae
   rw[this,cE8 0 0 hb,a12];rfl
  | succ n ih=>
   have:(λj=>if j<n+1 then u j else 0)=λj=>(if j<n then u j else 0)+(if j=n then u n else 0):=funext λj=>by
    by_cases h1:j<n
    .rw[aA ad,aA h1,a7 ad,a11]
    .by_cases h2:j=n
     .subst h2;rw[aA ad,a7 h1,aA rfl,cF]
     .rw[a7 ad,a7 h1,a7 h2];rfl
   rw[this,bW8 b (λj=>if j<n then u j else 0) λj=>if j=n then u n else 0,cE8 _ _ hb,<-ih]
   rfl
 rw[e U]
 congr 1
 funext j
 by_cases h:j<U
 .rw[aA h]
 .rw[a7 h,hu j ad]
structure MP (p:Int)(n:Nat)(f:∅):Prop where
 top:f n=1
 hi: ∀j,n<j->f j=0
 rng: ∀j,0<=f j/\f j<p
nonrec def c55:Nat×∅:=(0,λj=>if j=0 then 1 else 0)
theorem MP.one {p:Int}(hp:2<=p):MP p c55.1 c55.2:=⟨rfl,λj hj=>a7 (by have:0<j:=hj;lia),λj=>by show 0<=(if j=0 then(1:Int)else 0)/\(if j=0 then(1:Int)else 0)<p;split<;>lia⟩
nonrec def bJ8 (c:Int):Nat×∅:=(1,λj=>if j=0 then c else if j=1 then 1 else 0)
theorem MP.lin {p:Int}(hp:2<=p)(h0:0<=c)(h1:c<p):MP p (bJ8 c).1 (bJ8 c).2:=⟨rfl,λj hj=>by
  have:1<j:=hj;show(if j=0 then c else if j=1 then 1 else 0)=0;rw[a7 ad,a7 ad],λj=>by
  show 0<=(if j=0 then c else if j=1 then 1 else 0)/\(if j=0 then c else if j=1 then 1 else 0)<p
  split
  .lia
  .split<;>lia⟩
nonrec def hqA (c:Int)(f:∅)(n:Nat):∅
 | 0=>f n
 | k+1=>f (n-1-k)-c*hqA c f n k
nonrec def hq (c:Int)(f:∅)(n:Nat):∅:=λj=>if j<n then hqA c f n (n-1-j)else 0
nonrec def aC2 (x:(Nat×∅)×Nat):D:= .tup [aN<|rwF (x.1.1+1) x.1.2,.int (x.2:Int)]
structure Pt (p:Int)(n:Nat)(x:(Nat×∅)×Nat):Prop where
 mp:MP p x.1.1 x.1.2
 lo:1<=x.1.1
 on:1<=x.2
 dg:x.1.1*x.2<=n
theorem Pt.le {p:Int}{x:(Nat×∅)×Nat}(h:Pt p n x):x.1.1<=n:=aH (aN7 _ h.on) h.dg
def uY:Φ:=λds Q=> ∃(n:Nat) (f:∅) (p:Int),ds=[aN<|rwF (n+1) f,.int p]/\n<=40/\Pr p/\MP p n f/\ ∀(xs:List ((Nat×∅)×Nat)) (L:Nat×∅),(∀x∈xs,Pt p n x)->xs.length<=p.toNat->MP p L.1 L.2->L.1<=n->Q (.pu<|.tup [.lst<|xs.map aC2,aN<|rwF (L.1+1) L.2])
def a81:US:=(d6<|jG<|a8 (aC 2)<|a8 (aC 3) aL)
def a82:US:=(aU (gW (fQ<|a8 (aC 1) aL) (bS 4)<|aU (bJ 5<|@0)<|aU (b23 (cU<|uOp (fS false) (uOp kP (aR tE<|a8 (aC 3)<|a8 (mM<|aC 4) aL)<|aC 1)<|@0)<|aU (bJ 3<|uIx (uV<|aR sF<|a8 (aC 3)<|a8 (jG<|a8 (aC 4)<|a8 @1 aL)<|a8 (aC 1) aL)<|@0)<|cC0 5 (gI2 λi j Q=>Q (.pu<|.int<|i+j))<|@1)<|fU (cU<|uOp (mT λi j=>decide (j<i)) (aC 5)<|@0) (aR4 2<|jG<|a8 (jG<|a8 (aC 4)<|a8 @1 aL)<|a8 (aC 5) aL) dN) a81)
def a83:US:=(aU (bJ 3<|aC 0) a82)
def uZ:US:=(aU (bJ 2<|fL aL) a83)
theorem dI4 {p:Int}(pp:Pr p){L:Nat×∅}(mp:MP p L.1 L.2)(hz:ps L.2 (-c) (L.1+1)%p=0){t:Int}(ht:t*md p (bJ8 c).2 1%p=1)(t0:0<=t)(t1:t<p) :
  1<=L.1/\ ∃u:∅,MP p (L.1-1) u/\
   (let b:=λj=>t*md p (bJ8 c).2 j%p
    let LA:=jC (md p L.2) (L.1+1)
    let q:=a34 b 1 (LA-1) (md p L.2)
    rwF (jC (λj=>t*q j%p)<|jC q<|LA-1) (λj=>t*q j%p)=rwF L.1 u):=by
 have p2:=pp.lo;have mt:md p L.2 L.1=1:=by
  show L.2 L.1%p=1
  rw[mp.top];exact nI ac ad
 have l1:1<=L.1:=by
  refine Nat.pos_of_ne_zero λz=> ?_
  rw[z]at hz;have e:ps L.2 (-c) (0+1)=L.2 0*(-c)^0:=by show 0+L.2 0*(-c)^0=_;lia
  have e2:L.2 0=1:=by have:=mp.top;rw[z]at this;exact this
  rw[e,e2,pow_zero,pZ,nI ac ad]at hz
  cases hz
 have te:t=1:=by
  have e:md p (bJ8 c).2 1=1:=by
   show(1:Int)%p=1
   exact nI ac ad
  rw[e,pZ,nI t0 t1]at ht;exact ht
 have eLA:jC (md p L.2) (L.1+1)=L.1+1:=a33 (aK _) (λm h1 h2=>ad) (.inr (by rw[aP8,mt];decide))
 right;rw[eLA,aP8];generalize hb:(λj=>t*md p (bJ8 c).2 j%p)=b
 obtain⟨m,hm⟩: ∃m,L.1=m+1:=⟨L.1-1,ad⟩
 have qt:a34 b 1 L.1 (md p L.2) (L.1-1)=1:=by
  rw[hm]at mt⊢;show(if m+1-1=m then md p L.2 (m+1)else _)=1;rw[aA ad,mt]
 have qb:=λx=>b85 (b:=b) (d:=1) L.1 (md p L.2) x
 generalize a34 b 1 L.1 (md p L.2)=q at *;have ut:t*q (L.1-1)%p=1:=by rw[te,qt];exact nI ac ad
 refine⟨l1,λj=>t*q j%p,⟨ut,λj hj=>by rw[qb j ad,jZ,a06],λj=>⟨d8 _ ad,dG _ ad⟩⟩,?_⟩
 rw[a33 (k:=L.1) (f:=q) (aK _) (λm h1 h2=>ad)<|.inr (by rw[qt];decide),a33 (k:=L.1) (aK _) (λm h1 h2=>ad)<|.inr (by rw[ut];decide)]
theorem dI5 {p:Int}(pp:Pr p)(h:MP p n f)(j:Nat):(f j).natAbs<=2^8:=by
 have h1:=h.rng j;have h2:=pp.hi
 lia
theorem bJ9: Ra uY uZ ["f","p","a","l","c","o"]:=by
 rintro ds Q ⟨n,f,p,rfl,n4,pp,mp,h⟩;have p2:=pp.lo;have p3:=pp.hi;unfold uZ;show(aU _ _:US) _ [~~~aN (rwF (n+1) f),!p,none,none,none,none];rw[aM];left;refine⟨ac,?_⟩
 unfold a83;rw[aM];left;unfold a82;rw[aM];refine bI p.toNat (λi=> .int (0+i)) [~~~aN (rwF (n+1) f),!p,↑[],~~~aN (rwF (n+1) f),none,none] ?_
  (λi ρ=> ∃(xs:List ((Nat×∅)×Nat)) (L:Nat×∅) (x y:Option B),ρ=[~~~aN (rwF (n+1) f),!p,↑(xs.map aC2),~~~aN (rwF (L.1+1) L.2),x,y]/\(∀x∈xs,Pt p n x)/\xs.length<=i/\MP p L.1 L.2/\L.1<=n)
  ⟨[],(n,f),none,none,rfl,ae,eH _,mp,aK _⟩ ?_ ?_
 .intro Q' q;left;refine⟨⟨ad,ad⟩,?_⟩
  exact q
 .rintro i ρ hi ⟨xs,L,x,y,rfl,hx,hl,mL,Ln⟩;have mlin:=MP.lin p2 (c:=(i:Int)) ad ad
  rw[cF];left;refine⟨ae,?_⟩
  refine⟨λk ρ=> ∃(o:Nat) (L':Nat×∅),ρ=[~~~aN (rwF (n+1) f),!p,↑(xs.map aC2),~~~aN (rwF (L'.1+1) L'.2),!(i:Int),!(o:Int)]/\k=L'.1/\L'.1+o<=n/\MP p L'.1 L'.2,⟨L.1,0,L,rfl,rfl,Ln,mL⟩,?_⟩
  rintro k ρ ⟨o,L',rfl,rfl,hL',mp'⟩;left;refine⟨L'.1+1,8,8,L'.2,-(i:Int),rfl,⟨dI5 pp mp',by have:(2:Nat)^8=256:=rfl;lia,ad,ac,ad⟩,?_⟩
  left
  refine⟨ad,?_⟩
  rw[dD _ ad]
  by_cases c:ps L'.2 (-(i:Int)) (L'.1+1)%p=0
  .rw[aA c];refine⟨ac,L'.1+1,2,1,L'.2,(bJ8 (i:Int)).2,p,rfl,ad,ac,pp,λj hj=>mlin.hi j hj,ac,λj hj=>by show(bJ8 (i:Int)).2 j%p=0;rw[mlin.hi j hj,a06],by show(1:Int)%p≠0;rw[nI ac ad];decide,λt ht t0 t1=> ?_⟩
   obtain⟨l1,u,mu,er⟩:=dI4 pp mp' c ht t0 t1;dsimp only at er⊢;rw[er,aW8];right;have eL:rwF L'.1 u=rwF (L'.1-1+1) u:=by rw[show L'.1-1+1=L'.1 by lia]
   rw[eL];exact⟨L'.1-1,ad,o+1,(L'.1-1,u),by rw[Int.natCast_succ],rfl,by show L'.1-1+(o+1)<=n;lia,mu⟩
  .rw[a7 c]
   by_cases c2:(0:Int)< (o:Int)
   .rw[aA c2];refine⟨ac,ac,?_,xs++[(bJ8 (i:Int),o)],L',_,_,by rw[bT];rfl,λz hz=> ?_,?_,mp',ad⟩
    .rw[aG];exact nF hl (b9 hi<|aH (show p.toNat<=200 by lia) ac)
    .rcases cR.mp hz with hz|hz
     .exact hx z hz
     .rw[fE.mp hz];exact⟨mlin,aK _,show 1<=o by lia,show 1*o<=n by lia⟩
    .rw[cB];exact aQ5 hl
   .rw[a7 c2];exact⟨xs,L',_,_,rfl,hx,aQ1 hl,mp',ad⟩
 .rintro ρ ⟨xs,L,x,y,rfl,hx,hl,mL,Ln⟩;right;unfold a81;left;exact⟨ac,h xs L hx hl mL Ln⟩
nonrec def quF (v u:Int):Nat×∅:=(2,λj=>if j=0 then v else if j=1 then u else if j=2 then 1 else 0)
theorem MP.qu {p u:Int}(hp:2<=p)(v0:0<=v)(v1:v<p)(u0:0<=u)(u1:u<p):MP p (quF v u).1 (quF v u).2:=⟨rfl,λj hj=>by
  have:2<j:=hj;show(if j=0 then v else if j=1 then u else if j=2 then 1 else 0)=0;rw[a7 ad,a7 ad,a7 ad],λj=>by
  show 0<=(if j=0 then v else if j=1 then u else if j=2 then 1 else 0)/\(if j=0 then v else if j=1 then u else if j=2 then 1 else 0)<p
  split
  .lia
  .split
   .lia
   .split<;>lia⟩
def sI:Φ:=λds Q=> ∃(f:∅) (p:Int),ds=[aN<|rwF 5 f,.int p]/\Pr p/\MP p 4 f/\
 (∀v u w s:Int,0<=v->v<p->0<=u->u<p->0<=w->w<p->0<=s->s<p->Q (.ow [aN [v,u,1],aN [w,s,1]]))/\Q (.ow [])
def yU:US:=(d6<|fL aL)
def sJ:US:=(aU (gW (fQ<|a8 (aC 1) aL) (bS 2)<|aU (bJ 3<|uOp kP (uOp M.gSub (uIx (aT 0)<|@3)<|aC 2)<|aC 1)<|aU (bJ 4<|uOp M.gSub (uIx (aT 0)<|@2)<|uOp dE (aC 2)<|aC 3)<|gW (fQ<|a8 (aC 1) aL) (bS 5)<|aU (bJ 6<|uOp kP (uOp M.gSub (aC 4)<|aC 5)<|aC 1)<|fU (cN0 (cU<|uOp (fS false) (uOp kP (uOp dE (aC 5)<|aC 6)<|aC 1)<|uIx (aT 0)<|@0)<|cU<|uOp (fS false) (uOp kP (uOp eB (uOp dE (aC 2)<|aC 6)<|uOp dE (aC 5)<|aC 3)<|aC 1)<|uIx (aT 0)<|@1) (d6<|fL<|a8 (jG<|a8 (aC 5)<|a8 (aC 2)<|a8 @1 aL)<|a8 (jG<|a8 (aC 6)<|a8 (aC 3)<|a8 @1 aL) aL) dN) yU)
theorem bB3: Ra sI sJ ["f","p","u","s","t","v","w"]:=by
 rintro ds Q ⟨f,p,rfl,pp,mp,yes,no⟩;have p2:=pp.lo;have p3:=pp.hi;have a0:atI ((rwF 5 f).map D.int) 0=some (.int<|f 0):=fW (i:=0) ac
 have a1:atI ((rwF 5 f).map D.int) 1=some (.int<|f 1):=fW (i:=1) ac
 have a2:atI ((rwF 5 f).map D.int) 2=some (.int<|f 2):=fW (i:=2) ac
 have a3:atI ((rwF 5 f).map D.int) 3=some (.int<|f 3):=fW (i:=3) ac
 unfold sJ;simp only[aN];show(aU _ _:US) _ [~~~.tup ((rwF 5 f).map .int),!p,none,none,none,none,none];rw[aM];refine bI p.toNat (λi=> .int (0+i)) [~~~.tup ((rwF 5 f).map .int),!p,none,none,none,none,none] ?_
  (λi ρ=> ∃x y z a b,ρ=[~~~.tup ((rwF 5 f).map .int),!p,x,y,z,a,b])
  ⟨none,none,none,none,none,rfl⟩ ?_ ?_
 .intro Q' q;left;refine⟨⟨ad,ad⟩,?_⟩
  exact q
 .rintro i ρ hi ⟨x,y,z,a,b,rfl⟩;rw[cF];left;rw[a3];right;refine⟨ae,ad,?_⟩
  rw[dD _ ad,a2]
  right;have s0:=d8 (f 3-(i:Int)) (show p≠0 by lia)
  have s1:=dG (f 3-(i:Int)) (show 0<p by lia)
  generalize hS:(f 3-(i:Int))%p=S at *;refine⟨cmL ad ad,?_⟩
  refine bI p.toNat (λi=> .int (0+i)) [~~~.tup ((rwF 5 f).map .int),!p,!(i:Int),!S,!(f 2-(i:Int)*S),a,b] ?_
   (λj ρ=> ∃a b,ρ=[~~~.tup ((rwF 5 f).map .int),!p,!(i:Int),!S,!(f 2-(i:Int)*S),a,b])
   ⟨a,b,rfl⟩ ?_ ?_
  .intro Q' q;left;refine⟨⟨ad,ad⟩,?_⟩
   exact q
  .rintro j ρ hj ⟨a,b,rfl⟩;rw[cF];left;refine⟨ae,ad,?_⟩
   rw[dD _ ad]
   have w0:=d8 (f 2-(i:Int)*S-(j:Int)) (show p≠0 by lia)
   have w1:=dG (f 2-(i:Int)*S-(j:Int)) (show 0<p by lia)
   generalize hW:(f 2-(i:Int)*S-(j:Int))%p=W at *;refine⟨cmL ad ad,ad,?_⟩
   rw[dD _ ad,a0]
   right
   by_cases c1:(j:Int)*W%p=f 0
   .rw[aA c1];refine⟨cmL ad ad,cmL ad ad,ad,?_⟩
    rw[dD _ ad,a1]
    right
    by_cases c2:((i:Int)*W+(j:Int)*S)%p=f 1
    .rw[aA c2];refine⟨ac,ac,ac,yes (j:Int) (i:Int) W S ad ad ad ad w0 w1 s0 s1⟩
    .rw[a7 c2];exact⟨_,_,rfl⟩
   .rw[a7 c1];exact⟨_,_,rfl⟩
  .rintro ρ ⟨a,b,rfl⟩;exact⟨_,_,_,_,_,rfl⟩
 .rintro ρ ⟨x,y,z,a,b,rfl⟩;right;unfold yU;left;exact⟨ac,no⟩
theorem at0 {a b:D}:atI [a,b] 0=some a:=cG rfl
theorem at1 {a b:D}:atI [a,b] 1=some b:=cG rfl
def mO:Φ:=λds Q=> ∃(n m:Nat) (f:∅) (p:Int),ds=[aN<|rwF (n+1) f,.int p]/\n<=4/\n<=m/\Pr p/\MP p n f/\ ∀rs:List ((Nat×∅)×Nat),(∀x∈rs,Pt p m x)->rs.length<=2->Q (.ow<|rs.map aC2)
def rP:US:=(d6<|d5 [] [none,none] 1 (dS<|aR cP3<|a8 (aC 2) aL) (bS 0) (λρ Q=>Q true ρ)<|jG<|a8 (aC 0)<|a8 @1 aL)
def rQ:US:=(aU (fU (cU<|uOp (cO4 false) (uIx (aT 2)<|@0)<|uIx (aT 2)<|@1) (d6<|fL<|a8 (jG<|a8 (uIx (aT 2)<|@0)<|a8 @2 aL) aL) dN) rP)
def iT:US:=(aU (fU (cU<|uOp (fS false) (iH<|aT 2)<|@0) (d6<|fL<|a8 (jG<|a8 (aC 0)<|a8 @1 aL) aL) dN) rQ)
def rR:US:=(aU (bJ 2<|uIf (cU<|uOp (fS false) (iH<|aT 0)<|@5) (aR sI<|a8 (aC 0)<|a8 (aC 1) aL)<|fL aL) iT)
def mP:US:=(aU (fU (cU<|uOp (fS false) (iH<|aT 0)<|@1) (d6<|fL aL) dN) rR)
theorem aJ7: Ra mO mP ["f","p","a"]:=by
 rintro ds Q ⟨n,m,f,p,rfl,n4,nm,pp,mp,h⟩;have p2:=pp.lo;unfold mP;simp only[aN];show(aU _ _:US) _ [~~~.tup ((rwF (n+1) f).map .int),!p,none];rw[aM];left;rw[bC]
 by_cases n0:n=0
 .rw[aA ad]
  exact⟨ac,h [] ae ac⟩
 rw[a7 ad]
 have alone:iT {Q with} [~~~.tup ((rwF (n+1) f).map .int),!p,↑[]]:=by
  unfold iT;rw[aM];left;rw[aA<|by rfl]
  refine⟨ac,ac,h [((n,f),1)] (λx hx=> ?_)<|show 1<=2 by decide⟩
  rw[fE.mp hx];exact⟨mp,show 1<=n by lia,aK _,show n*1<=m by lia⟩
 unfold rR;rw[aM];left;simp only[uIf,iH,aT,bV1,uC,isB,B.d,oG,fS,tY,bC]
 by_cases c:n=4
 .subst c;rw[aA<|by rfl]
  refine⟨f,p,rfl,pp,mp,λv u w s v0 v1 u0 u1 w0 w1 s0 s1=> ?_,?_⟩
  .have m1:=MP.qu p2 v0 v1 u0 u1;have m2:=MP.qu p2 w0 w1 s0 s1;right;simp only[aN];unfold iT;rw[aM];left;rw[a7 ac]
   unfold rQ;rw[aM];left;rw[at0,at1];right;refine cE5 ?_
   by_cases c:[v,u,(1:Int)]=[w,s,1]
   .rw[gH c];right;rw[aA ac]
    refine⟨ac,ac,h [(quF v u,2)] (λx hx=> ?_)<|show 1<=2 by decide⟩
    rw[fE.mp hx];exact⟨m1,show 1<=2 by decide,show 1<=2 by decide,show 2*2<=m by lia⟩
   .rw[eF c];right;rw[a7 ac]
    unfold rP;rw[gT];have fin2: ∀(v u w s:Int),MP p (quF v u).1 (quF v u).2->MP p (quF w s).1 (quF w s).2->Q (.ow [.tup [.tup<|[v,u,1].map D.int,.int 1],.tup [.tup<|[w,s,1].map D.int,.int 1]]):=λv u w s m1 m2=>by
     refine h [(quF v u,1),(quF w s,1)] (λx hx=> ?_) (aK _)
     rcases bB.mp hx with rfl|hx
     .exact⟨m1,show 1<=2 by decide,aK _,show 2*1<=m by lia⟩
     .rw[fE.mp hx];exact⟨m2,show 1<=2 by decide,aK _,show 2*1<=m by lia⟩
    refine cJ (t0:=0) 2 (λk=>(if ltL [w,s,1] [v,u,1]=true then [D.tup<|[w,s,1].map D.int,.tup<|[v,u,1].map D.int]else [.tup<|[v,u,1].map D.int,.tup<|[w,s,1].map D.int]).getD k .non) [~~~.tup ((rwF (4+1) f).map .int),!p,~~~.lst [.tup<|[v,u,1].map D.int,.tup<|[w,s,1].map D.int]] ?_ ac (λx l'=>[x,↑l']) none rfl (λ_ _ _=>rfl) (λ_ _=>bQ _) (λ_ _ _ q=>q) (λ_ _ _=>rfl)
     (λk=> .tup [(if ltL [w,s,1] [v,u,1]=true then [D.tup<|[w,s,1].map D.int,.tup<|[v,u,1].map D.int]else [.tup<|[v,u,1].map D.int,.tup<|[w,s,1].map D.int]).getD k .non,.int 1]) ?_ ?_
    .intro Q' q;left;refine⟨v,w,[u,1],[s,1],rfl,?_⟩;cases l:ltL [w,s,1] [v,u,1]
     .rw[l]at q;exact q
     .rw[l]at q;exact q
    .intro k l' Q' hk q;left;exact⟨ac,q⟩
    .cases l:ltL [w,s,1] [v,u,1]
     .exact fin2 v u w s m1 m2
     .exact fin2 w s v u m2 m1
  .exact alone
 .rw[a7 (by simp;lia)]
  refine⟨ac,?_⟩
  exact alone
structure SP (p:Int)(n:Nat)(xs:List ((Nat×∅)×Nat)):Prop where
 mem: ∀x∈xs,Pt p n x
 len:xs.length<=300
def wR:Φ:=λds Q=> ∃(n:Nat) (g:∅) (p:Int),ds=[aN<|rwF (n+1) g,.int p]/\n<=4/\p∈prL/\MP p n (md p g)/\ ∀xs,SP p n xs->Q (.ow<|xs.map aC2)
def aC3:US:=(d6<|uOp eB (aC 2)<|aR mO<|a8 (aC 3)<|a8 (aC 1) aL)
def aC4:US:=(aU (d19 (aR uY<|a8 (aR j8<|a8 (aC 0)<|a8 (aC 1) aL)<|a8 (aC 1) aL)<|rM<|fV 2<|fV 3 rL) aC3)
def wS:US:=(aU (fU (cU<|uOp (gIn true) (aC 1)<|aR kN aL) (λ_ _=>False) dN) aC4)
theorem bQ8: Ra wR wS ["f","p","a","l"]:=by
 rintro ds Q ⟨n,g,p,rfl,n4,hp,mp,h⟩;have pp:=bJ7 hp;have p2:=pp.lo;unfold wS;show(aU _ _:US) _ [~~~aN (rwF (n+1) g),!p,none,none];rw[aM];left;refine⟨rfl,p,T_SMALL_PRIMES,rfl,.inr<|.inl rfl,?_⟩;rw[gH (show p∈T_SMALL_PRIMES by rw[<-dI0];exact hp)]
 right;rw[a7 ac]
 unfold aC4;rw[aM];left;refine⟨n+1,g,p,rfl,ad,ad,?_⟩
 left
 have e:jC (md p g) (n+1)=n+1:=a33 (aK _) (λm h1 h2=>ad) (.inr (by rw[aP8,mp.top];decide))
 rw[e];refine⟨n,md p g,p,rfl,ad,pp,mp,λxs L hx hl mL hL=> ?_⟩
 left
 refine⟨ac,ac,trivial,?_⟩
 unfold aC3;rw[gT,c49];left;refine⟨L.1,n,L.2,p,rfl,ad,hL,pp,mL,λrs hr rl=> ?_⟩
 have p3:=pp.hi;have e2:xs.map aC2++rs.map aC2=(xs++rs).map aC2:=bT.symm;have sl:(xs++rs).length<=300:=by rw[cB];lia
 left
 rw[e2];refine⟨?_,h _ ⟨λx hx'=> ?_,sl⟩⟩
 .rw[<-cB,e2,aG];exact aH sl ac
 .rcases cR.mp hx' with z|z
  .exact hx x z
  .exact hr x z
theorem cE9 {t1:Nat}(n:Nat)(it i1 i2:Nat->D)(hit: ∀i,i<n->it i= .tup [i1 i,i2 i])(ρ1:Ev)(hui: ∀Q:Nat->(Nat->D)->Ev->Prop,Q n it ρ1->ui ρ Q)(hn:n<=1000000)
  (G:Option B->Option B->List D->Ev) (x0 y0:Option B) (h0:pC (uQ ρ1 js) cap last=G x0 y0 []) (h1: ∀x y l b c,((G x y l).set t0<|some b).set t1 (some c)=G (some b) (some c) l) (h1': ∀x y l,t0< (G x y l).length/\t1< (G x y l).length)
  (h2: ∀x y l (Q:List D->Prop),Q l->jS (G x y l) last Q) (h3: ∀x y l l',(G x y l).set last (↑l')=G x y l')
  (f:Nat->D) (hte: ∀i l (Q':B->Ev->Prop),i<n->Q' (.pu<|f i) (G (~~~i1 i) (~~~i2 i) l)->te (G (~~~i1 i) (~~~i2 i) l) Q') (hq:Q (.ow<|(List.range n).map f) (uQ ρ1 js)) :
  d5 js cap last ui (rM<|fV t0<|fV t1 rL) (λρ Q=>Q true ρ) te ρ Q:=by
 refine hui _ ⟨λi ρ'=> ∃x y,ρ'=G x y ((List.range i).map f),⟨x0,y0,h0⟩,?_,?_⟩
 .rintro i ρ' hi ⟨x,y,rfl⟩;rw[hit i hi];refine⟨(h1' _ _ _).1,by rw[cZ];exact(h1' _ _ _).2,rfl,?_⟩
  rw[h1];right;rw[aA rfl];refine hte i _ _ hi (h2 _ _ _ _ ⟨?_,~~~i1 i,~~~i2 i,?_⟩)
  .rw[aG,jY];exact b9 hi (aH hn ac)
  .rw[h3,cS,bT];rfl
 .rintro ρ' ⟨x,y,rfl⟩;exact h2 _ _ _ _ hq
theorem cF0 {tt:UT}(n:Nat)(it:Nat->D)(ρ1:Ev)(hui: ∀Q:Nat->(Nat->D)->Ev->Prop,Q n it ρ1->ui ρ Q)(hn:n<=1000)
  (G:Option B->List D->Ev) (x0:Option B) (h0:pC (uQ ρ1 js) cap last=G x0 []) (h1: ∀x l b,(G x l).set t0 (some b)=G (some b) l) (h1': ∀x l,t0< (G x l).length) (h2: ∀x l (Q:List D->Prop),Q l->jS (G x l) last Q) (h3: ∀x l l',(G x l).set last (↑l')=G x l')
  (c:Nat->Bool) (P:D->Prop) (htt: ∀i l (Q':Bool->Ev->Prop),i<n->Q' (c i) (G (~~~it i) l)->tt (G (~~~it i) l) Q')
  (hte: ∀i l (Q':B->Ev->Prop),i<n->c i=true->(∀d,P d->Q' (.pu d) (G (~~~it i) l))->te (G (~~~it i) l) Q') (hq: ∀l:List D,l.length<=n->(∀d∈l,P d)->Q (.ow l) (uQ ρ1 js)) :
  d5 js cap last ui (bS t0) tt te ρ Q:=by
 refine hui _ ⟨λi ρ'=> ∃x l,l.length<=i/\(∀d∈l,P d)/\ρ'=G x l,⟨x0,[],aK _,ae,h0⟩,?_,?_⟩
 .rintro i ρ' hi ⟨x,l,hl,hP,rfl⟩;refine⟨h1' _ _,?_⟩;rw[h1];right;refine htt i _ _ hi ?_
  by_cases hc:c i=true
  .rw[aA hc];refine hte i _ _ hi hc λd hd=>h2 _ _ _ ⟨?_,~~~it i,l++[d],?_,?_,?_⟩
   .exact nF hl (b9 hi<|aH hn ac)
   .rw[cB];exact aQ5 hl
   .intro e he;rcases cR.mp he with he|he
    .exact hP e he
    .have:e=d:=by exists he
     rw[this];exact hd
   .rw[h3];rfl
  .rw[a7 hc];exact⟨~~~it i,l,aQ1 hl,hP,rfl⟩
 .rintro ρ' ⟨x,l,hl,hP,rfl⟩;exact h2 _ _ _ (hq l hl hP)
nonrec def bK0 (n:Nat)(f:∅)(g:Nat×∅):List Int:=rwF (jC (bJ5 g.2 g.1 (n+1-g.1) f)<|n+1) (bJ5 g.2 g.1 (n+1-g.1) f)
nonrec def ptD (n:Nat)(f:∅)(x:(Nat×∅)×Nat):D:= .tup [aN<|rwF (x.1.1+1) x.1.2,.int (x.2:Int),aN<|bK0 n f x.1]
def wT:Φ:=λds Q=> ∃(n:Nat) (f:∅) (p:Int),ds=[aN<|rwF (n+1) f,.int p]/\n<=4/\p∈prL/\MP p n (md p f)/\(∀j,(f j).natAbs<=2^9)/\ ∀xs,SP p n xs->Q (.ow<|xs.map<|ptD n f)
def wU:US:=(d6<|d5 [0] [none,none,some 0,none] 3 (dS<|aR wR<|a8 (aC 0)<|a8 (aC 1) aL) (rM<|fV 0<|fV 1 rL) (λρ Q=>Q true ρ)<|jG<|a8 (aC 0)<|a8 (aC 1)<|a8 (uIx (uV<|aR gJ<|a8 (aC 2)<|a8 (aC 0) aL)<|@1) aL)
theorem cY0 {p:Int}(pp:Pr p)(n4:n<=4)(fb: ∀j,(f j).natAbs<=2^9){g:Nat×∅}(mg:MP p g.1 g.2)(g4:g.1<=4):dH9 (n+1) g.1 9 8 f g.2:=
 ⟨ad,ad,mg.top,mg.hi,λm _=>fb m,λj=>dI5 pp mg j,ad,ac⟩
theorem bQ9: Ra wT wU ["f","p"]:=by
 rintro ds Q ⟨n,f,p,rfl,n4,hp,mp,fb,h⟩;have pp:=bJ7 hp;unfold wU;show(d6 _:US) _ [~~~aN (rwF (n+1) f),!p];rw[gT]
 have key: ∀xs,SP p n xs->d5 [0] [none,none,some 0,none] 3 (λρ Q=>Q (xs.map aC2).length (λi=>(xs.map aC2).getD i .non) ρ) (rM<|fV 0<|fV 1 rL) (λρ Q=>Q true ρ) (jG<|a8 (aC 0)<|a8 (aC 1)<|a8 (uIx (uV<|aR gJ<|a8 (aC 2)<|a8 (aC 0) aL)<|@1) aL) [~~~aN (rwF (n+1) f),!p] λb _=>Q b:=by
  intro xs sp
  refine cE9 (t0:=0) (t1:=1) xs.length (λi=>(xs.map aC2).getD i .non) (λi=>aN (rwF ((xs.getD i (c55,0)).1.1+1) (xs.getD i (c55,0)).1.2)) (λi=> .int ((xs.getD i (c55,0)).2:Int)) (λi hi=> ?_) [~~~aN (rwF (n+1) f),!p] (λQ' q=> ?_) (aH sp.len ac) (λx y l=>[x,y,~~~aN (rwF (n+1) f),↑l]) none none rfl (λ_ _ _ _ _=>rfl) (λ_ _ _=>⟨ae,ae⟩) (λ_ _ _ _ q=>q) (λ_ _ _ _=>rfl) (λi=>ptD n f (xs.getD i (c55,0))) ?_ ?_
  .rw[aO,aZ,aO,aS hi];rfl
  .rw[aG];exact q
  .intro i l Q' hi q;have hm:xs.getD i (c55,0)∈xs:=by
    rw[aO,aS hi];exact cE hi
   have px:=sp.mem _ hm;have mx:=px.mp;have x4:=aH px.le n4;generalize xs.getD i (c55,0)=x at *;left;refine⟨n+1,x.1.1,9,8,f,x.1.2,rfl,cY0 pp n4 fb mx x4,?_⟩;left;rw[at1];exact⟨ac,q⟩
  .have e:(List.range xs.length).map (λi=>ptD n f (xs.getD i (c55,0)))=xs.map (ptD n f):=by
    apply fG
    .simp
    .intro i h1 h2;simp at h1;simp[aO,h1]
   rw[e];exact h xs sp
 exact⟨n,f,p,rfl,n4,hp,mp,λxs sp=>key xs sp⟩
structure RF (n:Nat)(f:∅):Prop where
 n1:1<=n
 n4:n<=4
 top:f n=1
 hi: ∀j,n<j->f j=0
 fb: ∀j,(f j).natAbs<=2^9
theorem RF.mp (h:RF n f){p:Int}(hp:2<=p):MP p n (md p f):=by
 refine⟨?_,λj hj=> ?_,λj=>⟨d8 _ ad,dG _ ad⟩⟩
 .show f n%p=1
  rw[h.top];exact nI ac ad
 .show f j%p=0
  rw[h.hi j hj,a06]
def PRow (n:Nat)(f:∅)(size:Int)(d:D):Prop:= ∃(p:Int) (xs:List ((Nat×∅)×Nat)),p∈prL/\size%(p*p)=0/\SP p n xs/\d= .tup [.int p,.lst<|xs.map<|ptD n f]
def v3:Φ:=λds Q=> ∃(n:Nat) (f:∅) (size:Int),ds=[aN<|rwF (n+1) f,.int size]/\RF n f/\ ∀l:List D,l.length<=46->(∀d∈l,PRow n f size d)->Q (.ow l)
def v5:US:=(d6<|d5 [0,1] [none,some 0,some 1,none] 3 (dS<|aR kN aL) (bS 0) (cU<|uOp (fS false) (uOp kP (aC 2)<|uOp dE (aC 0)<|aC 0)<|@0)<|jG<|a8 (aC 0)<|a8 (aR wT<|a8 (aC 1)<|a8 (aC 0) aL) aL)
theorem bK1: Ra v3 v5 ["f","s"]:=by
 rintro ds Q ⟨n,f,size,rfl,rf,h⟩;unfold v5;show(d6 _:US) _ [~~~aN (rwF (n+1) f),!size];rw[gT]
 refine cF0 (t0:=0) 46 (λi=>(T_SMALL_PRIMES.map D.int).getD i .non) [~~~aN (rwF (n+1) f),!size] (λQ' q=> ?_) ac (λx l=>[x,~~~aN (rwF (n+1) f),!size,↑l]) none rfl (λ_ _ _=>rfl) (λ_ _=>bQ _) (λ_ _ _ q=>q) (λ_ _ _=>rfl)
  (λi=>decide (size%(T_SMALL_PRIMES.getD i 0*T_SMALL_PRIMES.getD i 0)=0)) (PRow n f size) ?_ ?_ (λl hl hP=>h l hl hP)
 .exact⟨rfl,q⟩
 .intro i l Q' hi q;have e:(T_SMALL_PRIMES.map D.int).getD i .non= .int (T_SMALL_PRIMES.getD i 0):=by
   have hi':i<T_SMALL_PRIMES.length:=by rw[c52];exact hi
   rw[aO,aZ,aO,aS hi'];rfl
  have hm:T_SMALL_PRIMES.getD i 0∈T_SMALL_PRIMES:=by
   have hi':i<T_SMALL_PRIMES.length:=by rw[c52];exact hi
   rw[aO,aS hi'];exact cE hi'
  obtain⟨p2,p3⟩:=tp_ok _ hm;rw[e]at q⊢;generalize T_SMALL_PRIMES.getD i 0=p at *;have pq:0<p*p:=uK ad ad
  left
  refine⟨cmL ad ad,ad,?_⟩
  rw[dD _ pq];exact q
 .intro i l Q' hi hc q;have e:(T_SMALL_PRIMES.map D.int).getD i .non= .int (T_SMALL_PRIMES.getD i 0):=by
   have hi':i<T_SMALL_PRIMES.length:=by rw[c52];exact hi
   rw[aO,aZ,aO,aS hi'];rfl
  have hm:T_SMALL_PRIMES.getD i 0∈prL:=by
   have hi':i<T_SMALL_PRIMES.length:=by rw[c52];exact hi
   rw[dI0,aO,aS hi'];exact cE hi'
  have pp:=bJ7 hm;have hc':=zW hc;rw[e]at q⊢;generalize T_SMALL_PRIMES.getD i 0=p at *;left;refine⟨n,f,p,rfl,rf.n4,hm,rf.mp pp.lo,rf.fb,λxs sp=> ?_⟩
  left
  exact⟨ac,q _ ⟨p,xs,hm,hc',sp,rfl⟩⟩
structure dW7 (n:Nat)(f:∅)(size p:Int)(g:Nat×∅):Prop where
 pr:p∈prL
 sq:size%(p*p)=0
 mg:MP p g.1 g.2
 g1:1<=g.1
 g4:g.1<=4
 tw:g.1*2<=n
 all: ∀c∈bK0 n f g,c%(p*p)=0
nonrec def dW8 (n:Nat)(f:∅)(g:Nat×∅):List Int:=rwF (jC (a34 g.2 g.1 (n+1-g.1) f)<|n+1-g.1) (a34 g.2 g.1 (n+1-g.1) f)
def sK:Φ:=λds Q=> ∃(n:Nat) (f:∅) (size:Int) (l:List D),ds=[aN<|rwF (n+1) f,.lst l]/\RF n f/\l.length<=46/\(∀d∈l,PRow n f size d)/\Q (.pu .non)/\ ∀p g,dW7 n f size p g->Q (.pu<|.tup [.int p,aN<|dW8 n f g])
def b45:US:=(d6<|uC .non)
def sL:US:=(aU (gW (dS<|aC 1) (rM<|fV 2<|fV 3 rL)<|gW (dS<|aC 3) (rM<|fV 4<|fV 5<|fV 6 rL)<|fU (cN0 (cU<|uOp (mT λi j=>decide (j<=i)) (aC 5)<|@2)<|cU<|aR bG2<|a8 (d5 [2] [none,some 2,none] 2 (dS<|aC 6) (bS 0) (λρ Q=>Q true ρ)<|uOp (fS false) (uOp kP (aC 0)<|uOp dE (aC 1)<|aC 1)<|@0) aL) (d6<|jG<|a8 (aC 2)<|a8 (uIx (uV<|aR gJ<|a8 (aC 0)<|a8 (aC 4) aL)<|@0) aL) dN) b45)
theorem bB4: Ra sK sL ["f","r","p","a","g","o","c"]:=by
 rintro ds Q ⟨n,f,size,l,rfl,rf,l46,hP,h0,h1⟩;unfold sL;show(aU _ _:US) _ [~~~aN (rwF (n+1) f),~~~.lst l,none,none,none,none,none];rw[aM];refine bI l.length (λi=>l.getD i .non) [~~~aN (rwF (n+1) f),~~~.lst l,none,none,none,none,none] (λQ' q=>q)
  (λi ρ=> ∃a b c d e,ρ=[~~~aN (rwF (n+1) f),~~~.lst l,a,b,c,d,e]) ⟨none,none,none,none,none,rfl⟩ ?_ ?_
 .rintro i ρ hi ⟨a,b,c,d,e,rfl⟩;have hm:l.getD i .non∈l:=by
   rw[aO,aS hi];exact cE hi
  obtain⟨p,xs,hp,hs,sp,e1⟩:=hP _ hm;have pp:=bJ7 hp;rw[e1];refine⟨ae,ae,rfl,?_⟩
  show(gW _ _ _:US) _ [~~~aN (rwF (n+1) f),~~~.lst l,!p,~~~.lst (xs.map (ptD n f)),c,d,e]
  refine bI xs.length (λi=>(xs.map<|ptD n f).getD i .non) [~~~aN (rwF (n+1) f),~~~.lst l,!p,~~~.lst (xs.map (ptD n f)),c,d,e] (λQ' q=> ?_)
   (λj ρ=> ∃c d e,ρ=[~~~aN (rwF (n+1) f),~~~.lst l,!p,~~~.lst (xs.map (ptD n f)),c,d,e]) ⟨c,d,e,rfl⟩ ?_ ?_
  .left
   rw[aG];exact q
  .rintro j ρ hj ⟨c,d,e,rfl⟩;have hx:xs[j]∈xs:=cE hj;have e2:(xs.map<|ptD n f).getD j .non=ptD n f xs[j]:=by
    rw[aO,aZ,aS hj];rfl
   rw[e2];have px:=sp.mem _ hx;have mx:=px.mp;have x1:=px.lo;have x4:=aH px.le rf.n4;have tw:2<=xs[j].2->xs[j].1.1*2<=n:=λh2=>aH (u6 _ h2) px.dg
   clear px;generalize xs[j]=x at *;refine⟨ae,ae,ae,rfl,?_⟩
   show(fU _ _ _:US) _ [~~~aN (rwF (n+1) f),~~~.lst l,!p,~~~.lst (xs.map (ptD n f)),~~~aN (rwF (x.1.1+1) x.1.2),!(x.2:Int),~~~aN (bK0 n f x.1)]
   simp only[aN];left
   by_cases c2:(2:Int)<=(x.2:Int)
   .rw[aA c2];have p2:=pp.lo;have p3:=pp.hi;have pq:0<p*p:=uK ad ad
    generalize hr:bK0 n f x.1=r at *;have rl:r.length<=1000:=by
     rw[<-hr];unfold bK0;rw[n6];have:=a31 (bJ5 x.1.2 x.1.1 (n+1-x.1.1) f) (n+1);have:=rf.n4
     lia
    refine cJ (t0:=0) r.length (λk=>(r.map D.int).getD k .non) [~~~.tup ((rwF (n+1) f).map .int),~~~.lst l,!p,~~~.lst (xs.map (ptD n f)),~~~.tup ((rwF (x.1.1+1) x.1.2).map .int),!(x.2:Int),~~~.tup (r.map .int)] (λQ' q=> ?_) ad (λx l'=>[x,!p,↑l']) none rfl (λ_ _ _=>rfl) (λ_ _=>bQ _) (λ_ _ _ q=>q) (λ_ _ _=>rfl) (λk=> .bl (decide (r.getD k 0%(p*p)=0))) ?_ ?_
    .left
     rw[aG];exact q
    .intro k l' Q' hk q;have e3:(r.map D.int).getD k .non= .int (r.getD k 0):=by
      rw[aO,aZ,aO,aS hk];rfl
     rw[e3]at q⊢;left;refine⟨cmL ad ad,ad,?_⟩
     rw[dD _ pq];exact q
    .have e4:(List.range r.length).map (λk=>D.bl (decide (r.getD k 0%(p*p)=0)))=((List.range r.length).map λk=>decide (r.getD k 0%(p*p)=0)).map D.bl:=by rw[dZ];rfl
     rw[e4];right;rw[iI];right
     by_cases c3:(((List.range r.length).map λk=>decide (r.getD k 0%(p*p)=0)).all id)=true
     .rw[aA c3];left;refine⟨n+1,x.1.1,9,8,f,x.1.2,rfl,cY0 pp rf.n4 rf.fb mx x4,?_⟩;left;rw[at0];refine⟨ac,h1 p x.1 ⟨hp,hs,mx,x1,x4,tw ad,λc hc=> ?_⟩⟩
      rw[hr]at hc;obtain⟨k,hk,rfl⟩:=List.mem_iff_getElem.mp hc;rw[cL]at c3;have:=c3 (decide (r.getD k 0%(p*p)=0)) (bU.mpr ⟨k,bZ.mpr hk,rfl⟩);have:=zW (show decide (r.getD k 0%(p*p)=0)=true from this)
      rw[aO,aS hk]at this;exact this
     .rw[a7 c3];exact⟨_,_,_,rfl⟩
   .rw[a7 c2];exact⟨_,_,_,rfl⟩
  .rintro ρ ⟨c,d,e,rfl⟩;exact⟨_,_,_,_,_,rfl⟩
 .rintro ρ ⟨a,b,c,d,e,rfl⟩;exact h0
theorem dI6 (t:UE)(D:UD)(ρ:Ev):aV9 t D ρ=t ρ (λ_ ρ1=>D.nx ρ1):=rfl
structure eO (p:List Int):Prop where
 ok:bE1 p
 one: ∃q,p=q++[1]
nonrec def cF1 (c:Int):Bool:=decide ((if c<0 then -c else c)<=499)
nonrec def dW9 (p:List Int):Bool:=decide (3<=p.length)&&(decide (p.length<=5)&&(decide (p.getD (p.length-1) 0=1)&&p.all cF1))
theorem b46: ∀(q:List Int) (x:Int),(q++[x]).getD ((q++[x]).length-1) 0=x:=λq x=>by
 simp
theorem dI7 (p:List Int):dW9 p=true↔eO p:=by
 unfold dW9;simp only[cQ,fY,cL];constructor
 .rintro⟨h1,h2,h3,h4⟩;refine⟨⟨h1,h2,λx hx=> ?_⟩,?_⟩
  .have:=zW (h4 x hx);split at this<;>lia
  .rcases List.eq_nil_or_concat p with rfl| ⟨q,x,rfl⟩
   .simp at h1
   .rw[List.concat_eq_append]at h3⊢;rw[b46]at h3;exact⟨q,by rw[h3]⟩
 .intro h;refine⟨h.ok.lo,h.ok.hi,?_,λx hx=>gH ?_⟩
  .obtain⟨q,rfl⟩:=h.one;exact b46 q 1
  .have:=h.ok.small x hx;split<;>lia
theorem d41 (h:0<p.length):atI (p.map D.int) (-1)=some (.int<|p.getD (p.length-1) 0):=by
 rcases List.eq_nil_or_concat p with rfl| ⟨q,x,rfl⟩
 .simp at h
 .rw[List.concat_eq_append,b46,bT];exact d95 _ _
def oN:Φ:=λds Q=> ∃p:List Int,ds=[aN p]/\p.length<=1000/\Q (.pu<|.bl<|dW9 p)
def v6:US:=(d6<|aR bG2<|a8 (d5 [] [none,none] 1 (dS<|aC 0) (bS 0) (λρ Q=>Q true ρ)<|uOp (mT λi j=>decide (i<=j)) (aR cN6<|a8 (aC 0) aL)<|@499) aL)
def oO:US:=(aU (fU (uOr (cU<|uOp (mT λi j=>decide (i<j)) (iH<|aT 0)<|@3)<|uOr (cU<|uOp (mT λi j=>decide (j<i)) (iH<|aT 0)<|@5)<|cU<|uOp (fS true) (uIx (aT 0)<|mM<|@1)<|@1) (d6<|uC<|.bl false) dN) v6)
theorem aX6: Ra oN oO ["r"]:=by
 rintro ds Q ⟨p,rfl,hn,h⟩;have lp:(p.map D.int).length=p.length:=aG _;unfold oO;simp only[aN];show(aU _ _:US) _ [~~~.tup (p.map .int)];rw[aM];left;rw[lp];unfold dW9 at h
 by_cases h3:(p.length:Int)<3
 .rw[aA h3];rw[eF ad]at h
  exact h
 rw[a7 h3];rw[gH<|show 3<=p.length by lia,gU]at h
 by_cases h5:(5:Int)< (p.length:Int)
 .rw[aA h5];rw[eF<|show ¬p.length<=5 by lia]at h
  exact h
 rw[a7 h5];rw[gH<|show p.length<=5 by lia,gU]at h
 rw[d41 ad]
 right
 by_cases h1:p.getD (p.length-1) 0=1
 .rw[gH h1,gU]at h;rw[a7 λz=>z h1]
  unfold v6;rw[gT,dO,dM];refine cJ (t0:=0) p.length (λk=>(p.map D.int).getD k .non) [~~~.tup (p.map .int)] ?_ ad (λx l=>[x,↑l]) none rfl (λ_ _ _=>rfl) (λ_ _=>bQ _) (λ_ _ _ q=>q) (λ_ _ _=>rfl) (λk=> .bl (cF1<|p.getD k 0)) ?_ ?_
  .intro Q' q;simp only[dS];left;rw[lp];exact q
  .intro k l Q' hk q;have ek:(p.map D.int).getD k .non= .int (p.getD k 0):=by
    rw[aO,aZ,aO,aS hk];rfl
   rw[ek]at q⊢;left;exact q
  .have e:((List.range p.length).map λk=>D.bl (cF1<|p.getD k 0))=(p.map cF1).map D.bl:=by
    rw[dZ];refine fG ae λi h1 h2=> ?_
    simp at h1
    simp[h1]
   rw[e];left;rw[iI];show Q (.pu<|.bl<|(p.map cF1).all id);rw[List.all_map];exact h
 .rw[eF h1]at h;rw[aA h1];exact h
def hU:Φ:=λds Q=> ∃p:List Int,ds=[aN p]/\eO p/\Q (.pu .non)
def mQ:US:=(fU (cB6<|cU<|aR oN<|a8 (aC 0) aL) (λ_ _=>False) dN)
theorem aJ8: Ra hU mQ ["r"]:=by
 rintro ds Q ⟨p,rfl,hp,h⟩;have hi:=hp.ok.hi;unfold mQ;show(fU _ _ _:US) _ [~~~aN p];left;refine⟨p,rfl,ad,?_⟩
 rw[(dI7 p).mpr hp]
 exists h
nonrec def j9 (p:List Int):List (List Int):=(List.range<|p.length-1).map λi=>((eW p<|2*(p.length-1)-2).drop i).take (p.length-1)
def a36:Φ:=λds Q=> ∃p:List Int,ds=[aN p]/\eO p/\Q (.pu<|.int<|mW 4<|j9 p)
def a37:US:=(aU (aV9<|aR hU<|a8 (aC 0) aL)<|aU (bJ 1<|uOp M.gSub (iH<|aT 0)<|@1)<|aU (bJ 2<|aR uT<|a8 (aC 0)<|a8 (uOp M.gSub (uOp dE @2<|aC 1)<|@1) aL)<|d6<|aR (gP 4)<|a8 (aR cC<|a8 (d5 [1] [none,some 2,some 1,none] 3 (fQ<|a8 (aC 1) aL) (bS 0) (λρ Q=>Q true ρ)<|aR cC<|a8 (uSl (aT 1) (mJ<|aC 0)<|mJ<|uOp eB (aC 0)<|aC 2) aL) aL) aL)
theorem d42 (hp:bE1 p):Sq 4 (j9 p):=by
 have hlo:=hp.lo;have hhi:=hp.hi;have bn:=a26 hp (2*(p.length-1)-2) aa
 have nl:=uS p (2*(p.length-1)-2);have hl:(j9 p).length=p.length-1:=by unfold j9;simp
 refine⟨aa,aa,λr hr=> ?_,λr hr x hx=> ?_⟩
 .unfold j9 at hr;obtain⟨i,hi,rfl⟩:=bU.mp hr;have:=bZ.mp hi;rw[nJ,nK,nl];omega
 .unfold j9 at hr;obtain⟨i,hi,rfl⟩:=bU.mp hr;refine nF (bn x<|List.mem_of_mem_drop<|List.mem_of_mem_take hx) ?_;exact aO9 ac aa
theorem dX0 (l:List D)(i n:Nat)(h:i+n<=l.length):cutD l (some (i:Int)) (some ((i+n:Nat):Int))=(l.drop i).take n:=by
 unfold cutD;rw[HT.sIx_nat,HT.sIx_nat,kZ<|show i<=l.length by lia]
 congr 1
 lia
theorem c56: Ra a36 a37 ["p","n","s"]:=by
 rintro ds Q ⟨p,rfl,hp,h⟩;have hlo:=hp.ok.lo;have hhi:=hp.ok.hi;have lp:(p.map D.int).length=p.length:=aG _;have en:(p.length:Int)-1=((p.length-1:Nat):Int):=ad
 have nl:=uS p (2*(p.length-1)-2);have fin:(d6 (aR (gP 4)<|a8 (aR cC<|a8 (d5 [1] [none,some 2,some 1,none] 3 (fQ<|a8 (aC 1) aL) (bS 0) (λρ Q=>Q true ρ)<|aR cC<|a8 (uSl (aT 1) (mJ<|aC 0)<|mJ<|uOp eB (aC 0)<|aC 2) aL) aL) aL):US) {Q with}
   [~~~.tup (p.map .int),!((p.length-1:Nat):Int),↑((eW p<|2*(p.length-1)-2).map .int)]:=by
  rw[gT,dO,dM,dO,dM];refine cJ (t0:=0) (p.length-1) (λi=> .int (0+i)) [~~~.tup (p.map .int),!((p.length-1:Nat):Int),↑((eW p<|2*(p.length-1)-2).map .int)] ?_ ad
   (λx l=>[x,some<|.bo<|(eW p<|2*(p.length-1)-2).map .int,!((p.length-1:Nat):Int),↑l]) none rfl (λ_ _ _=>rfl) (λ_ _=>bQ _) (λ_ _ _ q=>q) (λ_ _ _=>rfl)
   (λi=>aN (((eW p<|2*(p.length-1)-2).drop i).take<|p.length-1)) ?_ ?_
  .intro Q' q;simp only[fQ];left;refine⟨ad,?_⟩
   rw[bE];exact q
  .intro i l Q' hi q;left;have e:cutD ((eW p<|2*(p.length-1)-2).map D.int) (some<|0+(i:Int)) (some<|0+(i:Int)+((p.length-1:Nat):Int))=(((eW p<|2*(p.length-1)-2).drop i).take<|p.length-1).map D.int:=by
    rw[cF,show(i:Int)+((p.length-1:Nat):Int)=((i+(p.length-1):Nat):Int)by lia,dX0 _ _ _ (by rw[aG,nl];lia),j3,nP]
   rw[e];exact q
  .simp only[cC,g1,B.d,aL,oG];refine⟨j9 p,?_,d42 hp.ok,h⟩;unfold d39 j9;rw[dZ];rfl
 unfold a37;show(aU _ _:US) _ [~~~.tup (p.map .int),none,none];rw[aM,dI6,dO,dM];simp only[aC,aK3,aL,B.d,tY];refine⟨p,rfl,hp,?_⟩;rw[aM,kA];simp only[uOp,iH,aT,bV1,uC,oG,M.gSub,gI2,B.d,tY,lp,bF0,bE9,en];rw[aM,kA,dO];simp only[a8,aL,uOp,aC,aK3,uC,M.gSub,dE,gI2,B.d,tY,List.getElem?_cons_succ];refine⟨cmL ac ac,?_⟩
 refine⟨p,2*(p.length-1)-1,?_,hp.ok,ad,ad,?_⟩
 .rw[show(2:Int)*((p.length-1:Nat):Int)-1=((2*(p.length-1)-1:Nat):Int)by lia];rfl
 .rw[show 2*(p.length-1)-1-1=2*(p.length-1)-2 by lia]
  exact fin
nonrec def one4 (e d c b:Int):Int:=12*e-3*b*d+c*c
nonrec def two4 (e d c b:Int):Int:=72*c*e+9*b*c*d-27*d*d-27*b*b*e-2*c*c*c
nonrec def dX1:List Int->Int
 | [c0,c1,_]=>c1*c1-4*c0
 | [d,c,b,_]=>b*b*c*c-4*c*c*c-4*b*b*b*d-27*d*d+18*b*c*d
 | [e,d,c,b,_]=>(4*one4 e d c b*one4 e d c b*one4 e d c b-two4 e d c b*two4 e d c b).fdiv 27
 | _=>0
theorem eO.cases {p:List Int}(h:eO p):(∃a b:Int,p=[a,b,1]/\a.natAbs<=499/\b.natAbs<=499)\/(∃a b c:Int,p=[a,b,c,1]/\a.natAbs<=499/\b.natAbs<=499/\c.natAbs<=499)\/
  ∃a b c d:Int,p=[a,b,c,d,1]/\a.natAbs<=499/\b.natAbs<=499/\c.natAbs<=499/\d.natAbs<=499:=by
 obtain⟨q,rfl⟩:=h.one;have lo:=h.ok.lo;have hi:=h.ok.hi;have sm: ∀x∈q,x.natAbs<=499:=λx hx=>h.ok.small x (pL _ hx)
 match q,lo,hi,sm with
 | [a,b],_,_,sm=>exact .inl ⟨a,b,rfl,sm a ae,sm b ae⟩
 | [a,b,c],_,_,sm=>exact .inr (.inl ⟨a,b,c,rfl,sm a ae,sm b ae,sm c ae⟩)
 | [a,b,c,d],_,_,sm=>exact .inr (.inr ⟨a,b,c,d,rfl,sm a ae,sm b ae,sm c ae,sm d ae⟩)
 | [],lo,_,_=>simp at lo
 | [_],lo,_,_=>simp at lo
 | _::_::_::_::_::_,_,hi,_=>simp at hi
nonrec def hkD2 (a b c:Int):Int:=1*a*c+(-1*b*b+0)
theorem hk2 (c b:Int):mW 4 (j9 [c,b,1])=hkD2 2 (-(0+1*b)) (-((b* -(0+1*b)+0)+2*c)):=by kernel_rfl
nonrec def rts3 (a b c:Int):List Int:=[-(a*b*c),a*b+a*c+b*c,-a-b-c]
nonrec def sqIn (rs:List Int)(i:Nat)(t:Int):∅
 | 0=>t
 | j+1=>sqIn rs i t j*(rs.getD i 0-rs.getD j 0)*(rs.getD i 0-rs.getD j 0)
nonrec def sqK (rs:List Int):∅
 | 0=>1
 | i+1=>sqIn rs i (sqK rs i) i
nonrec def okR (q rs:List Int):Bool:=(q.all λx=>decide (x.natAbs<=499))&&decide (dX1 (q++[1])=sqK rs rs.length)
nonrec def sh3 (a b c s:Int):List Int:=[a+s*b+s*s*c+s*s*s,b+2*s*c+3*s*s,c+3*s]
nonrec def sh4 (a b c d s:Int):List Int:=[a+s*b+s*s*c+s*s*s*d+s*s*s*s,b+2*s*c+3*s*s*d+4*s*s*s,c+3*s*d+6*s*s,d+4*s]
nonrec def dX2 (row:List Int)(r:Int):Nat->List Int
 | 0=>0::row
 | k+1=>(dX2 row r k).set k ((dX2 row r k).getD k 0-r*row.getD k 0)
nonrec def e22 (rs:List Int):List Int:=rs.foldl (λrow r=>dX2 row r row.length) [1]
theorem fr3 (a b c:Int):e22 [a,b,c]=rts3 a b c++[1]:=by
 simp[e22,dX2,rts3]
 grind
nonrec def b47 (row:List Int)(s:Int):Nat->List Int
 | 0=>row
 | k+1=>(b47 row s k).set (row.length-2-k) ((b47 row s k).getD (row.length-2-k) 0+s*(b47 row s k).getD (row.length-1-k) 0)
nonrec def shK (p:List Int)(s:Int):Nat->List Int
 | 0=>p
 | low+1=>b47 (shK p s low) s (p.length-1-low)
theorem she3 (a b c s:Int):shK [a,b,c,1] s 3=sh3 a b c s++[1]:=by
 simp[shK,b47,sh3]
 grind
theorem she4 (a b c d s:Int):shK [a,b,c,d,1] s 4=sh4 a b c d s++[1]:=by
 simp[shK,b47,sh4]
 grind
def b48:Φ:=λds Q=> ∃m:Int,ds=[.int m]/\0<=m/\Sm m/\ ∀r:Int,0<=r->r<=m->Q (.pu<|.int r)
def b49:US:=(aU (bJ 1<|aC 0)<|aU (bJ 2<|uOp aJ5 (uOp eB (aC 0)<|@1)<|@2)<|aU (b23 (cU<|uOp (mT λi j=>decide (i<j)) (aC 2)<|aC 1)<|aU (bJ 1<|aC 2)<|bJ 2<|uOp aJ5 (uOp eB (aC 1)<|uOp aJ5 (aC 0)<|aC 1)<|@2)<|pB 1)
theorem Sm.le {i m:Int}(h:Sm m)(h0:0<=i)(h1:i<=m):Sm i:=by
 exact nF ad h
theorem d43: Ra b48 b49 ["m","g","b"]:=by
 rintro ds Q ⟨m,rfl,m0,ms,h⟩;unfold b49;show(aU _ _:US) _ [!m,none,none];left;rw[lB _ ac]
 refine⟨⟨ac,b38 ac ac⟩,?_⟩
 refine⟨λn ρ=> ∃g b:Int,ρ=[!m,!g,!b]/\n=g.toNat/\0<=g/\g<=m/\((m=0/\b=0)\/(1<=g/\b=(g+m/g)/2)),⟨_,m,(m+1)/2,rfl,rfl,m0,Int.le_refl _,?_⟩,?_⟩
 .by_cases z:m=0
  .subst z;exact .inl ⟨rfl,rfl⟩
  .right
   rw[Int.ediv_self z];exact⟨ad,rfl⟩
 .rintro n ρ ⟨g,b,rfl,rfl,g0,gm,hb⟩;left;split
  .rcases hb with⟨rfl,rfl⟩| ⟨g1,rfl⟩
   .lia
   .have b1:1<=(g+m/g)/2:=by
     have:1<=m/g:=Int.le_ediv_of_mul_le ad ad
     lia
    rw[lB _<|show 0< (g+m/g)/2 by lia,lB _ ac]
    refine⟨⟨ad,ms.le ad ad⟩,⟨ac,b38 ac ac⟩,_,?_,_,_,rfl,rfl,ad,ad,.inr ⟨b1,rfl⟩⟩
    lia
  .exact h g g0 gm
nonrec def ev (p:List Int)(z:Int):Int:=ps (λj=>p.getD j 0) z p.length
theorem ev2 (a b z:Int):ev [a,b,1] z=a+b*z+z*z:=by simp[ev,ps];grind
theorem ev3 (a b c z:Int):ev [a,b,c,1] z=a+b*z+c*(z*z)+z*z*z:=by simp[ev,ps];grind
theorem ev4 (a b c d z:Int):ev [a,b,c,d,1] z=a+b*z+c*(z*z)+d*(z*z*z)+z*z*z*z:=by simp[ev,ps];grind
nonrec def qq (v u w s:Int):List Int:=[v*w,u*w+v*s,v+w+u*s,u+s,1]
def Red (p:List Int):Prop:=(∃z,ev p z=0)\/ ∃v u w s,p=qq v u w s
theorem eO.cs (h:eO p):(∃a b,p=[a,b,1])\/(∃a b c,p=[a,b,c,1])\/ ∃a b c d,p=[a,b,c,d,1]:=by
 obtain⟨q,rfl⟩:=h.one;have lo:=h.ok.lo;have hi:=h.ok.hi
 match q,lo,hi with
 | [a,b],_,_=>exact .inl ⟨a,b,rfl⟩
 | [a,b,c],_,_=>exact .inr (.inl ⟨a,b,c,rfl⟩)
 | [a,b,c,d],_,_=>exact .inr (.inr ⟨a,b,c,d,rfl⟩)
 | [],h,_=>simp at h
 | [_],h,_=>simp at h
 | _::_::_::_::_::_,_,h=>simp at h
theorem dI8 (h:eO p)(hz:ev p z=0):z∣p.getD 0 0:=by
 rcases h.cs with⟨a,b,rfl⟩| ⟨a,b,c,rfl⟩| ⟨a,b,c,d,rfl⟩
 .rw[ev2]at hz;exact⟨-(b+z),by show a=_;grind⟩
 .rw[ev3]at hz;exact⟨-(b+c*z+z*z),by show a=_;grind⟩
 .rw[ev4]at hz;exact⟨-(b+c*z+d*(z*z)+z*z*z),by show a=_;grind⟩
def NoZ (p:List Int):Prop:= ∀z,ev p z≠0
theorem cY1 (h:eO p):ev p 0=p.getD 0 0:=by
 rcases h.cs with⟨a,b,rfl⟩| ⟨a,b,c,rfl⟩| ⟨a,b,c,d,rfl⟩
 .rw[ev2];simp
 .rw[ev3];simp
 .rw[ev4];simp
nonrec def linB (z:Int):∅:=λj=>[-z,1].getD j 0
theorem bR0 (h1:a.natAbs<=m)(h2:b.natAbs<=n):(a*b).natAbs<=m*n:=by rw[dW];exact fJ h1 h2
def rF:Φ:=λds Q=> ∃m:Int,ds=[.int m]/\m.natAbs<=499/\ ∀l:List Int,(m=0->l=[0])->(m≠0-> ∀x,x∣m->x∈l)->(∀x∈l,x∣m/\x.natAbs<=499)->Q (.ow<|l.map .int)
def aC5:US:=(aU (bJ 1<|fL aL)<|aU (gW (bF7<|a8 @1<|a8 (uOp eB (aR cN6<|a8 (aC 0) aL)<|@1) aL) (bS 2)<|fU (cU<|uOp (fS false) (uOp kP (aC 0)<|aC 2)<|@0) (aU (aR4 1<|aC 2)<|aR4 1<|mM<|aC 2) dN)<|pB 1)
def wV:US:=(aU (fU (cU<|uOp (fS false) (aC 0)<|@0) (d6<|fL<|a8 @0 aL) dN) aC5)
theorem bR1: Ra rF wV ["m","f","d"]:=by
 rintro ds Q ⟨m,rfl,m9,h⟩;unfold wV;show(aU _ _:US) _ [!m,none,none];rw[aM];left
 by_cases m0:m=0
 .rw[aA m0];exact⟨ac,h [0] (λ_=>rfl) (λz=>absurd m0 z)<|by simp[m0]⟩
 rw[a7 m0];unfold aC5;rw[aM];left;refine⟨ac,?_⟩
 refine bI m.natAbs (λk=> .int (1+k)) [!m,↑[],none] ?_
  (λi ρ=> ∃(l:List Int) (z:Option B),ρ=[!m,↑(l.map .int),z]/\l.length<=2*i/\(∀x∈l,x∣m/\x.natAbs<=i)/\ ∀x,x∣m->1<=x.natAbs->x.natAbs<=i->x∈l) ⟨[],none,rfl,ae,ae,λx _ _ _=>ad⟩ ?_ ?_
 .intro Q' q;left;have e:(if m<0 then -m else m)=(m.natAbs:Int):=by split<;>lia
  rw[e];refine⟨ad,?_⟩
  rw[show((m.natAbs:Int)+1-1).toNat=m.natAbs by lia]
  exact q
 .rintro i ρ hi ⟨l,z,rfl,ll,hl,hm⟩;left;refine⟨ae,ad,?_⟩
  rw[dD _<|show(0:Int)<1+(i:Int)by lia]
  split
  .rename_i hd
   have dv:(1+(i:Int))∣m:=Int.dvd_of_emod_eq_zero hd;refine⟨?_,?_,l++[1+(i:Int),-(1+(i:Int))],!(1+(i:Int)),?_,?_,λx hx=> ?_,λx d1 d2 d3=> ?_⟩
   .rw[aG];exact b9 (show _<2000 by lia) ac
   .rw[cB,aG];exact b9 (show _<2000 by simp;lia) ac
   .rw[bT];simp
   .rw[cB];simp;lia
   .rcases cR.mp hx with hx|hx
    .have:=hl x hx;exact⟨this.1,ad⟩
    .rcases bB.mp hx with rfl|hx
     .exact⟨dv,ad⟩
     .rw[fE.mp hx];exact⟨Int.neg_dvd.mpr dv,ad⟩
   .by_cases c:x.natAbs<=i
    .exact pL _ (hm x d1 d2 c)
    .refine eZ _ ?_
     rcases(show x=1+(i:Int)\/x= -(1+(i:Int))by lia)with q|q
     .rw[q];exact .head _
     .rw[q];exact .tail _ (.head _)
  .rename_i hd
   refine⟨l,_,rfl,ad,λx hx=>⟨(hl x hx).1,by have:=(hl x hx).2;lia⟩,λx d1 d2 d3=> ?_⟩
   by_cases c:x.natAbs<=i
   .exact hm x d1 d2 c
   .exfalso
    refine hd (Int.emod_eq_zero_of_dvd ?_)
    rcases(show x=1+(i:Int)\/x= -(1+(i:Int))by lia)with q|q
    .rw[<-q];exact d1
    .rw[q]at d1;exact Int.neg_dvd.mp d1
 .rintro ρ ⟨l,z,rfl,ll,hl,hm⟩;left;refine h l (λz=>absurd z m0) (λ_ x d=> ?_) λx hx=>⟨(hl x hx).1,by have:=(hl x hx).2;lia⟩
  have e:=Int.natAbs_dvd_natAbs.mpr d;refine hm x d (Nat.pos_of_ne_zero λz=> ?_) (Nat.le_of_dvd ad e)
  rw[z]at e;have:=Nat.zero_dvd.mp e
  lia
def nT:Φ:=λds Q=> ∃p:List Int,ds=[aN p]/\eO p/\((∀z,ev p z≠0)->Q (.pu .non))/\((∃z,ev p z=0)-> ∀d e,Q<|.pu<|.tup [d,e])
def sT:US:=(d6<|uC .non)
def nU:US:=(aU (gW (dS<|aR rF<|a8 (uIx (aT 0)<|@0) aL) (bS 1)<|fU (cU<|uOp (fS false) (aR tE<|a8 (aC 0)<|a8 (aC 1) aL)<|@0) (aU (bJ 2<|jG<|a8 (mM<|aC 1)<|a8 @1 aL)<|d6<|jG<|a8 (aC 2)<|a8 (uIx (uV<|aR gJ<|a8 (aC 0)<|a8 (aC 2) aL)<|@0) aL) dN) sT)
theorem cF2 (p:List Int)(j:Nat)(h:p.length<=j):p.getD j 0=0:=by rw[aO,fA h];rfl
theorem aS2: Ra nT nU ["p","z","l"]:=by
 rintro ds Q ⟨p,rfl,hp,hn,hy⟩;have hlo:=hp.ok.lo;have hhi:=hp.ok.hi;have er:aN p=aN (rwF p.length λj=>p.getD j 0):=fK aN (b42 p)
 unfold nU;show(aU _ _:US) _ [~~~.tup (p.map .int),none,none];rw[aM];have p0:(p.getD 0 0).natAbs<=499:=fO hp.ok.small 0;unfold gW;simp only[dS];left;rw[aB5 ad]
 refine⟨p.getD 0 0,rfl,p0,λl l0 l1 lb=> ?_⟩
 right;rw[aG];refine⟨λi ρ=> ∃z1 z2,ρ=[~~~.tup (p.map .int),z1,z2]/\ ∀k,k<i->ev p (l.getD k 0)≠0,⟨none,none,rfl,λk hk=>absurd hk (aR3 k)⟩,?_,?_⟩
 .rintro i ρ hi ⟨z1,z2,rfl,hk⟩;have e3:(l.map D.int).getD i .non= .int (l.getD i 0):=by
   rw[aO,aZ,aS hi,aO,aS hi];rfl
  rw[e3];have mem:l.getD i 0∈l:=by rw[aO,aS hi];exact cE hi
  have zb:=(lb _ mem).2;generalize ez:l.getD i 0=z at zb;left;refine⟨ae,?_⟩
  refine⟨p.length,9,9,λj=>p.getD j 0,z,by rw[<-b42];rfl,⟨λj=>aH (fO hp.ok.small j) ac,aH zb ac,ad,ac,ad⟩,?_⟩
  show(if ev p z=0 then _ else _)
  by_cases c:ev p z=0
  .rw[aA c];refine⟨ac,?_⟩
   refine⟨p.length,1,9,9,λj=>p.getD j 0,linB z,?_,⟨ad,ac,rfl,λj hj=> ?_,λm hm=>aH (fO hp.ok.small m) ac,λj=> ?_,ad,ac⟩,?_⟩
   .rw[<-er];rfl
   .unfold linB;rw[cF2];simp;lia
   .unfold linB;refine fO (b:=2^9) (λx hx=> ?_) j
    simp at hx
    rcases hx with rfl|rfl
    .rw[a01];exact aH zb ac
    .decide
   .left
    rw[show ∀a b:D,atI [a,b] 0=some a from λa b=>cG (j:=0) rfl]
    exact⟨ac,hy ⟨z,c⟩ _ _⟩
  .rw[a7 c];refine⟨_,_,rfl,λk hk2=> ?_⟩
   by_cases ck:k<i
   .exact hk k ck
   .rw[show k=i by lia,ez]
    exact c
 .rintro ρ ⟨z1,z2,rfl,hk⟩;unfold sT;left;refine hn λz hz=> ?_
  have key:z∈l->False:=λhx=>by
   obtain⟨k,hk2,rfl⟩:=List.getElem_of_mem hx;have:=hk k hk2;rw[aO,aS hk2]at this;exact this hz
  by_cases c:p.getD 0 0=0
  .have e:=l0 c;subst e;exact hk 0 (bQ _) ((cY1 hp).trans c)
  .exact key (l1 c z<|dI8 hp hz)
def wW:Φ:=λds Q=> ∃t m:Int,ds=[.int t,.int m]/\t.natAbs<=2^20/\m.natAbs<=2^20/\ ∀l:List Int,(∀u∈l,u*(t-u)=m)->Q (.ow<|l.map .int)
def aC6:US:=(aU (fU (cU<|uOp (fS true) (uOp dE (aC 3)<|aC 3)<|aC 2) (d6<|fL aL) dN)<|d6<|fL<|a8 (uOp aJ5 (uOp eB (aC 0)<|aC 3)<|@2)<|a8 (uOp aJ5 (uOp M.gSub (aC 0)<|aC 3)<|@2) aL)
def aC7:US:=(aU (bJ 3<|aR b48<|a8 (aC 2) aL) aC6)
def aC8:US:=(aU (fU (cU<|uOp (mT λi j=>decide (i<j)) (aC 2)<|@0) (d6<|fL aL) dN) aC7)
def wX:US:=(aU (bJ 2<|uOp M.gSub (uOp dE (aC 0)<|aC 0)<|uOp dE @4<|aC 1) aC8)
theorem par {t g m:Int}(h:g*g=t*t-4*m):(t+g)%2=0/\(t-g)%2=0:=by
 have h1:(t-g)*(t+g)=4*m:=by grind
 rcases Int.emod_two_eq (t+g)with c|c
 .exact⟨c,ad⟩
 .exfalso
  obtain⟨a,ha⟩: ∃a,t+g=2*a+1:=⟨(t+g)/2,ad⟩
  obtain⟨b,hb⟩: ∃b,t-g=2*b+1:=⟨(t-g)/2,ad⟩
  rw[hb]at h1
  lia
theorem bR2: Ra wW wX ["t","m","s","g"]:=by
 rintro ds Q ⟨t,m,rfl,ht,hm,h⟩;have p20:(2:Nat)^20=1048576:=ac
 have tt:(t*t).natAbs<=2^20*2^20:=bR0 ht ht;unfold wX;show(aU _ _:US) _ [!t,!m,none,none];rw[aM];left;refine⟨cmL aa aa,cmL ac ac,?_⟩
 generalize esq:t*t-4*m=sq;have sqb:sq.natAbs<=2^60:=by
  have:(2:Nat)^60=1152921504606846976:=ac
  have:(2:Nat)^20*2^20=1099511627776:=ac
  omega
 have p60:(2:Nat)^60=1152921504606846976:=ac
 unfold aC8;rw[aM];left
 by_cases s0:sq<0
 .rw[aA s0];exact⟨ac,h [] ae⟩
 rw[a7 s0];unfold aC7;rw[aM];left;refine⟨sq,rfl,aa,Sm.pow sqb ac,λg g0 g1=> ?_⟩
 unfold aC6;right;rw[aM];left;refine⟨cmL aa aa,?_⟩
 by_cases c:g*g=sq
 .rw[a7 λz=>z c,lB _ ac,lB _ ac]
  have pp:=par (t:=t) (g:=g) (m:=m) (by rw[c,esq])
  refine⟨⟨ac,b38 ac ac⟩,⟨ac,b38 ac ac⟩,ac,?_⟩
  refine h [(t+g)/2,(t-g)/2] λu hu=> ?_
  have:4*(u*(t-u))=4*m:=by
   rcases bB.mp hu with rfl|hu
   .obtain⟨y,hy⟩: ∃y,(t+g)/2=y:=⟨_,rfl⟩;have:g=2*y-t:=aa
    rw[hy];rw[this]at c
    grind
   .rw[fE.mp hu];obtain⟨y,hy⟩: ∃y,(t-g)/2=y:=⟨_,rfl⟩;have:g=t-2*y:=aa
    rw[hy];rw[this]at c
    grind
  omega
 .rw[aA c];exact⟨ac,h [] ae⟩
theorem na2 {A B:Nat}(h:a.natAbs<=A)(h2:b.natAbs<=B):(a+b).natAbs<=A+B:=aH (u8 a b) (add_le_add h h2)
def dI9 (g:UG)(tb:US)(E:UD)(b:B)(ρ1:Ev):Prop:=match oG b.d with
 | some l=> ∃Pv:Nat->Ev->Prop,Pv 0 ρ1/\(∀i ρ,i<l.length->Pv i ρ->g (.pu<|l.getD i .non) ρ λρ2=>tb {E with nx:=Pv (i+1),ct:=Pv (i+1),bk:=E.nx} ρ2)/\ ∀ρ,Pv l.length ρ->E.nx ρ
 | none=>False
theorem bK2 {φ:Φ}{t:UA}:gW (dS<|aR φ t) g tb E ρ=t ρ λds ρ1=>φ ds λb=>dI9 g tb E b ρ1:=rfl
theorem b86 {ρ1:Ev}(l:List Int)(Pv:Nat->Ev->Prop)(h0:Pv 0 ρ1)(hs: ∀i ρ,i<l.length->Pv i ρ->g (.pu<|.int<|l.getD i 0) ρ λρ2=>tb {E with nx:=Pv (i+1),ct:=Pv (i+1),bk:=E.nx} ρ2)(hd: ∀ρ,Pv l.length ρ->E.nx ρ):dI9 g tb E (.ow<|l.map .int) ρ1:=by
 show ∃Pv:Nat->Ev->Prop,Pv 0 ρ1/\(∀i ρ,i< (l.map D.int).length->Pv i ρ->g (.pu<|(l.map D.int).getD i .non) ρ λρ2=>tb {E with nx:=Pv (i+1),ct:=Pv (i+1),bk:=E.nx} ρ2)/\ ∀ρ,Pv (l.map D.int).length ρ->E.nx ρ
 rw[aG];refine⟨Pv,h0,λi ρ hi hp=> ?_,hd⟩
 have e3:(l.map D.int).getD i .non= .int (l.getD i 0):=by
  rw[aO,aZ,aO,aS hi];rfl
 rw[e3];exact hs i ρ hi hp
theorem bW9 (hi:i<l.length):l.getD i 0∈l:=by rw[aO,aS hi];exact cE hi
def kI:Φ:=λds Q=> ∃a b c d:Int,ds=[aN [a,b,c,d,1]]/\(∀x∈[a,b,c,d],x.natAbs<=499)/\a≠0/\Q (.pu .non)/\((∃v u w s,[a,b,c,d,1]=qq v u w s)-> ∀x y,Q<|.pu<|.tup [x,y])
def kJ:US:=(aU (gW (dS<|aR rF<|a8 (uIx (aT 0)<|@0) aL) (bS 1)<|aU (bJ 2<|uOp aJ5 (uIx (aT 0)<|@0)<|aC 1)<|gW (dS<|aR wW<|a8 (uIx (aT 0)<|@3)<|a8 (uOp M.gSub (uOp M.gSub (uIx (aT 0)<|@2)<|aC 1)<|aC 2) aL) (bS 3)<|aU (bJ 4<|uOp M.gSub (uIx (aT 0)<|@3)<|aC 3)<|fU (cU<|uOp (fS false) (uOp eB (uOp dE (aC 3)<|aC 2)<|uOp dE (aC 1)<|aC 4)<|uIx (aT 0)<|@1) (d6<|jG<|a8 (jG<|a8 (aC 1)<|a8 (aC 3)<|a8 @1 aL)<|a8 (jG<|a8 (aC 2)<|a8 (aC 4)<|a8 @1 aL) aL) dN)<|d6<|uC .non)
theorem d44 {u t m:Int}(h:u*(t-u)=m)(ht:t.natAbs<=2^20)(hm:m.natAbs<=2^20):u.natAbs<=2^20:=by
 by_cases c:t-u=0
 .have:u=t:=ad
  rw[this];exact ht
 .have h1:m.natAbs=u.natAbs*(t-u).natAbs:=by rw[<-h,dW]
  have h2:u.natAbs*1<=u.natAbs*(t-u).natAbs:=u6 _ ad
  lia
theorem a92: Ra kI kJ ["p","v","w","u","s"]:=by
 rintro ds Q ⟨a,b,c,d,rfl,hs,a0,hn,hy⟩;simp only[aP0]at hs;obtain⟨ha,hb,hc,hd,_⟩:=hs;have p20:(2:Nat)^20=1048576:=ac
 unfold kJ;show(aU _ _:US) _ [~~~.tup [.int a,.int b,.int c,.int d,.int 1],none,none,none,none];have i0:atI [D.int a,.int b,.int c,.int d,.int 1] 0=some (.int a):=cG (j:=0) rfl;have i1:atI [D.int a,.int b,.int c,.int d,.int 1] 1=some (.int b):=cG (j:=1) rfl;have i2:atI [D.int a,.int b,.int c,.int d,.int 1] 2=some (.int c):=cG (j:=2) rfl
 have i3:atI [D.int a,.int b,.int c,.int d,.int 1] 3=some (.int d):=cG (j:=3) rfl;rw[aM,bK2];left;rw[i0];refine⟨a,rfl,ha,λl _ _ lb=> ?_⟩
 refine b86 l (λi ρ=> ∃z1 z2 z3 z4,ρ=[~~~.tup [.int a,.int b,.int c,.int d,.int 1],z1,z2,z3,z4]) ⟨none,none,none,none,rfl⟩ ?_ ?_
 .rintro i ρ hi ⟨z1,z2,z3,z4,rfl⟩;obtain⟨vd,vb⟩:=lb _ (bW9 hi);generalize l.getD i 0=v at vb vd;obtain⟨w,rfl⟩:=vd;have v0:v≠0:=λz=>a0 (by rw[z,a12])
  have wb:w.natAbs<=499:=by
   rw[dW]at ha;have:1*w.natAbs<=v.natAbs*w.natAbs:=aO8 _ ad
   lia
  refine⟨ae,?_⟩
  show(aU _ _:US) _ [~~~.tup [.int<|v*w,.int b,.int c,.int d,.int 1],!v,z2,z3,z4]
  rw[aM,kA];left;rw[i0];right;rw[Int.mul_fdiv_cancel_left _ v0];refine⟨⟨v0,b38 ad ad⟩,?_⟩
  rw[bK2];left;rw[i3,i2];right;refine⟨d,c-v-w,rfl,ad,ad,λus hus=> ?_⟩
  refine b86 us (λj ρ=> ∃z3 z4,ρ=[~~~.tup [.int<|v*w,.int b,.int c,.int d,.int 1],!v,!w,z3,z4]) ⟨_,_,rfl⟩ ?_ ?_
  .rintro j ρ hj ⟨z3,z4,rfl⟩;have um:=hus _ (bW9 hj);generalize us.getD j 0=u at um;have ub:=d44 um ad ad
   refine⟨ae,?_⟩
   show(aU _ _:US) _ [~~~.tup [.int<|v*w,.int b,.int c,.int d,.int 1],!v,!w,!u,z4]
   rw[aM];left;rw[i3];right;rw[i1];refine⟨cmL ad ad,cmL ad ad,?_⟩
   right
   by_cases q:u*w+v*(d-u)=b
   .rw[aA q];refine⟨ac,ac,ac,hy ⟨v,u,w,d-u,?_⟩ _ _⟩
    unfold qq;rw[<-q];have e1:v+w+u*(d-u)=c:=by rw[um];lia
    have e2:u+(d-u)=d:=ad
    rw[e1,e2]
   .rw[a7 q];exact⟨_,_,rfl⟩
  .rintro ρ ⟨z3,z4,rfl⟩;exact⟨_,_,_,_,rfl⟩
 .rintro ρ ⟨z1,z2,z3,z4,rfl⟩;left;exact hn
def aS3:Φ:=λds Q=> ∃p:List Int,ds=[aN p]/\eO p/\(NoZ p->Q (.pu .non))/\(Red p-> ∀x y,Q<|.pu<|.tup [x,y])
def rS:US:=(pB 1)
def aC9:US:=(aU (fU (cN0 (cU<|bQ4 false<|aC 1)<|cU<|uOp (fS false) (iH<|aT 0)<|@5) (bJ 1<|aR kI<|a8 (aC 0) aL) dN) rS)
def b87:US:=(aU (bJ 1<|aR nT<|a8 (aC 0) aL) aC9)
def aS4:US:=(aU (aV9<|aR hU<|a8 (aC 0) aL) b87)
theorem cR7: Ra aS3 aS4 ["p","q"]:=by
 rintro ds Q ⟨p,rfl,hp,hn,hy⟩;unfold aS4;show(aU _ _:US) _ [~~~.tup (p.map .int),none];rw[aM];left;refine⟨p,rfl,hp,?_⟩;try right
 unfold b87;rw[aM];left;refine⟨p,rfl,hp,λnr=> ?_,λred x y=> ?_⟩
 .try right
  unfold aC9;rw[aM];left;rw[aG]
  by_cases c:(p.length:Int)=5
  .simp only[c,j7];have sm:=hp.ok.small;rcases hp.cs with⟨a,b,rfl⟩| ⟨a,b,c',rfl⟩| ⟨a,b,c',d,rfl⟩
   .simp at c
   .simp at c
   .simp only[aP0]at sm;refine⟨a,b,c',d,rfl,by simp only[aP0];exact⟨sm.1,sm.2.1,sm.2.2.1,sm.2.2.2.1,ae⟩,λz=>nr 0 ((cY1 hp).trans z),?_,λq x y=> ?_⟩
    .unfold rS;left;exact hn nr
    .unfold rS;left;exact hy (.inr q) _ _
  .simp only[c,j7,fZ];unfold rS;left;exact hn nr
 .try right
  unfold aC9;rw[aM];left;unfold rS;left;exact hy (.inl red) _ _
nonrec def fOf (p:List Int):∅:=λj=>p.getD j 0
theorem eO.rf (h:eO p):RF (p.length-1) (fOf p):=by
 have lo:=h.ok.lo;have hi:=h.ok.hi;refine⟨aa,aa,?_,λj hj=> ?_,λj=> ?_⟩
 .obtain⟨q,rfl⟩:=h.one;show(q++[1]).getD _ 0=1;simp
 .show p.getD j 0=0
  rw[aO,fA aa]
  rfl
 .exact aH (fO h.ok.small j) ac
theorem eO.row (h:eO p):aN p=aN (rwF (p.length-1+1)<|fOf p):=by
 have lo:=h.ok.lo;have e:=b42 p;rw[show p.length-1+1=p.length by omega]
 exact fK aN e
def aD0:Φ:=λds Q=> ∃(r:List Int) (k:Int),ds=[aN r,.int k]/\r.length<=1000/\ -1000<=k/\k<=1000/\Q (.pu<|aN<|r++replicate (k-(r.length:Int)).toNat 0)
def aD1:US:=(d6<|uOp eB (aC 0)<|uOp cW7 (jG<|a8 @0 aL)<|uOp M.gSub (aC 1)<|iH<|aT 0)
theorem cF3: Ra aD0 aD1 ["r","s"]:=by
 rintro ds Q ⟨r,k,rfl,hr,k0,k1,h⟩;unfold aD1;simp only[aN];show(d6 _:US) _ [~~~.tup (r.map .int),!k];left;rw[aG];have e:(replicate (k-(r.length:Int)).toNat [D.int 0]).flatten=(replicate (k-(r.length:Int)).toNat 0).map D.int:=hJ _ _;rw[e,<-bT];refine⟨ac,⟨ae,ad,ad,aH (show 1*(k-(r.length:Int)).toNat<=1000 by lia) ac⟩,?_,h⟩
 rw[aG,iD];exact aH (show r.length+(k-(r.length:Int)).toNat<=3000 by lia) ac
def jF:ΦX:=λds Q Ex=> ∃p:List Int,ds=[aN p]/\eO p/\(NoZ p->Q (.pu .non))/\(Red p-> ∀es,Ex "FallsApart" es)
def mR:USX:=(λEx=>aU ((λ_=>(bJ 1<|aR aS3<|a8 (aC 0) aL)) Ex) ((λEx=>fU (cU<|bQ4 true<|aC 1) ((bD8 "FallsApart" (uIx (aT 1)<|@0)<|uIx (aT 1)<|@1) Ex) ((λ_=>dN) Ex)) Ex))
theorem aD2: ∀ds Q Ex,jF ds Q Ex->ds.length=1:=by rintro ds Q Ex ⟨p,rfl,_⟩;rfl
theorem aJ9: ∀ds Q Ex,jF ds Q Ex->mR Ex {Q with} (init ["p","q"] ds):=by
 rintro ds Q Ex ⟨p,rfl,rp,h0,h1⟩;unfold mR;right;show(aU _ _:US) _ [~~~aN p,none];rw[aM];left;refine⟨p,rfl,rp,λnz=> ?_,λred x y=> ?_⟩
 .left
  simpa using h0 nz
 .left
  simp only[at0,at1];exact h1 red _
def lY:ΦX:=λds Q Ex=> ∃(p:List Int) (size:Int),ds=[aN p,.int size]/\eO p/\Q (.pu .non)/\((∃q g,dW7 (p.length-1) (fOf p) size q g)-> ∀es,Ex "NotWhole" es)
def qQ:USX:=(λEx=>aU ((λ_=>(bJ 2<|aR sK<|a8 (aC 0)<|a8 (aR v3<|a8 (aC 0)<|a8 (aC 1) aL) aL)) Ex) ((λEx=>fU (cU<|bQ4 true<|aC 2) ((λEx=>aU ((λ_=>(d19 (aC 2)<|rM<|fV 3<|fV 4 rL)) Ex) ((bD8 "NotWhole" (aC 3)<|aR aD0<|a8 (aR cC<|a8 (d5 [3] [none,some 3,none] 2 (dS<|aC 4) (bS 0) (λρ Q=>Q true ρ)<|uOp kP (aC 0)<|aC 1) aL)<|a8 (uOp M.gSub (iH<|aT 0)<|@1) aL) Ex)) Ex) ((λ_=>dN) Ex)) Ex))
theorem aX7: ∀ds Q Ex,lY ds Q Ex->ds.length=2:=by rintro ds Q Ex ⟨p,size,rfl,_⟩;rfl
theorem b50: ∀ds Q Ex,lY ds Q Ex->qQ Ex {Q with} (init ["p","s","o","q","f"] ds):=by
 rintro ds Q Ex ⟨p,size,rfl,rp,h0,h1⟩;have rf:=rp.rf;rw[rp.row];generalize p.length-1=n at *;generalize fOf p=f at *;unfold qQ;right;show(aU _ _:US) _ [~~~aN (rwF (n+1) f),!size,none,none,none];rw[aM];left;refine⟨n,f,size,rfl,rf,λl hl hP=>⟨n,f,size,l,rfl,rf,hl,hP,?_,λq g outs=> ?_⟩⟩
 .left
  exists h0
 .have pp:=bJ7 outs.pr;have p2:=pp.lo;have p3:=pp.hi;have ql:(dW8 n f g).length<=5:=by
   unfold dW8;rw[n6];have:=a31 (a34 g.2 g.1 (n+1-g.1) f) (n+1-g.1);have:=rf.n4
   lia
  generalize dW8 n f g=r at *;simp only[aN];left;refine⟨ac,ac,trivial,?_⟩
  refine cJ (t0:=0) r.length (λk=>(r.map D.int).getD k .non) [~~~.tup ((rwF (n+1) f).map .int),!size,~~~.tup [.int q,.tup<|r.map .int],!q,~~~.tup (r.map .int)] (λQ' q=> ?_) ad (λx l'=>[x,!q,↑l']) none rfl (λ_ _ _=>rfl) (λ_ _=>bQ _) (λ_ _ _ q=>q) (λ_ _ _=>rfl) (λk=> .int (r.getD k 0%q)) ?_ ?_
  .left
   rw[aG];exact q
  .intro k l' Q' hk q';have e3:(r.map D.int).getD k .non= .int (r.getD k 0):=by
    rw[aO,aZ,aO,aS hk];rfl
   rw[e3]at q'⊢;left;refine⟨ad,?_⟩
   rw[dD _ ad]
   exact q'
  .have e4:(List.range r.length).map (λk=>D.int (r.getD k 0%q))=((List.range r.length).map λk=>r.getD k 0%q).map D.int:=by rw[dZ];rfl
   rw[e4];have n4:=rf.n4;left;refine⟨_,_,rfl,by rw[aG,jY];lia,?_,?_,h1 ⟨q,g,outs⟩ _⟩
   .rw[bC];lia
   .rw[bC];lia
structure dJ0 (p:List Int):Prop where
 rp:eO p
 irr: ¬Red p
 meas:(mW 4<|j9 p).natAbs<=39999
 whole: ¬ ∃q g,dW7 (p.length-1) (fOf p) (mW 4<|j9 p) q g
def yV:ΦM:=λds Q Ex=> ∃p:List Int,ds=[aN p]/\eO p/\(NoZ p->(mW 4<|j9 p).natAbs<=39999->Q [aN p,.int<|(p.length:Int)-1,.int<|mW 4<|j9 p])/\(Red p-> ∀es,Ex "FallsApart" es)/\(¬dJ0 p->Ex "TooGreat" []/\ ∀es,Ex "NotWhole" es)
def bK3:USX:=(λEx=>aU ((λ_=>(aV9<|aR hU<|a8 (aC 1) aL)) Ex) ((λEx=>aU ((λEx=>aV9 (c39 jF (a8 (aC 1) aL) Ex)) Ex) ((λEx=>aU ((λ_=>(bJ 2<|aR a36<|a8 (aC 1) aL)) Ex) ((λEx=>aU ((λEx=>fU (cU<|uOp (mT λi j=>decide (j<i)) (aR cN6<|a8 (aC 2) aL)<|@39999) ((c40 "TooGreat"<|a8 (uC<|.str "a ring's measure is from -39,999 to 39,999") aL) Ex) ((λ_=>dN) Ex)) Ex) ((λEx=>aV9 (c39 lY (a8 (aC 1)<|a8 (aC 2) aL) Ex)) Ex)) Ex)) Ex)) Ex))
def bK4:UE:=(aC 1)
def bK5:UE:=(uOp M.gSub (iH<|aT 1)<|@1)
def bK6:UE:=(aC 2)
theorem d45: ∀ds Q Ex,yV ds Q Ex->ds.length+1=2:=by rintro ds Q Ex ⟨p,rfl,_⟩;rfl
theorem dJ1: ∀a ds Q Ex,yV ds Q Ex->bK3 Ex {nx:=λρ=>ρ[0]? =some (~~~.adr a)/\bK4 ρ λb1 ρ1=>bK5 ρ1 λb2 ρ2=>bK6 ρ2 λb3 _=>Q [b1.d,b2.d,b3.d],rt:=λ_=>False} (init ["s","p","m"] (.adr a::ds)):=by
 rintro a ds Q Ex ⟨p,rfl,rp,h0,hr,h1⟩;have lo:=rp.ok.lo;unfold bK3;right;show(aU _ _:US) _ [~~~.adr a,~~~aN p,none];rw[aM];left;refine⟨p,rfl,rp,?_⟩;left;refine⟨p,rfl,rp,λnz=> ?_,hr⟩
 refine⟨p,rfl,rp,?_⟩
 left
 by_cases c:(39999:Int)< (if mW 4 (j9 p)<0 then -mW 4 (j9 p)else mW 4 (j9 p))
 .rw[aA c];refine⟨ac,(h1 λz=> ?_).1⟩
  have:=z.meas;split at c<;>omega
 .rw[a7 c];have me:(mW 4<|j9 p).natAbs<=39999:=by split at c<;>omega
  refine⟨p,mW 4<|j9 p,rfl,rp,⟨trivial,?_⟩,λo=>(h1 λz=>z.whole o).2⟩
  unfold bK4 bK5 bK6;simp only[aN];left;rw[aG];exact h0 nz me
nonrec def c57 (r:List Int)(m:Int):Bool:=r.any λc=>decide (c%m≠0)
nonrec def dJ2 (p:List Int)(size:Int):Bool:=prL.all λq=>decide (size%(q*q)≠0)||
 ((List.range q.toNat).all (λc=>c57 (bK0 (p.length-1) (fOf p)<|bJ8 (c:Int)) (q*q))&&
   (decide (p.length≠5)||(List.range q.toNat).all λv=>(List.range q.toNat).all λu=>c57 (bK0 (p.length-1) (fOf p)<|quF (v:Int) (u:Int)) (q*q)))
theorem mp_one {p:Int}{F:Nat×∅}(mp:MP p F.1 F.2)(h1:F.1=1):F=bJ8 (F.2 0):=by
 refine Prod.ext h1 (funext λj=> ?_)
 show F.2 j=if j=0 then F.2 0 else if j=1 then 1 else 0
 by_cases c0:j=0
 .rw[aA c0,c0]
 .by_cases c1:j=1
  .rw[aA c1,c1];have:=mp.top;rw[h1]at this;exact this
  .rw[a7 c0,a7 c1];exact mp.hi j ad
theorem mp_two {p:Int}{F:Nat×∅}(mp:MP p F.1 F.2)(h2:F.1=2):F=quF (F.2 0) (F.2 1):=by
 refine Prod.ext h2 (funext λj=> ?_)
 show F.2 j=if j=0 then F.2 0 else if j=1 then F.2 1 else if j=2 then 1 else 0
 by_cases c0:j=0
 .rw[aA c0,c0]
 .by_cases c1:j=1
  .rw[a7 c0,aA c1,c1]
  .by_cases c2:j=2
   .rw[a7 c1,aA c2,c2];have:=mp.top;rw[h2]at this;exact this
   .rw[a7 c0,a7 c1,a7 c2];exact mp.hi j ad
theorem aX8 {m:Int}(h: ∀c∈r,c%m=0):c57 r m=false:=by
 unfold c57;rw[aP9];intro c hc;simp[h c hc]
theorem dJ3 {size:Int}(rp:eO p)(h:dJ2 p size=true): ¬ ∃q g,dW7 (p.length-1) (fOf p) size q g:=by
 rintro⟨q,g,o⟩;have hi:=rp.ok.hi;have h1:=cL.mp h q o.pr;rw[a00,cQ]at h1;have nz: ¬decide (size%(q*q)≠0)=true:=by rw[fY];exact λz=>z o.sq
 obtain⟨h2,h3⟩:=h1.resolve_left nz;have dg:=o.tw;have g1:=o.g1
 by_cases c1:g.1=1
 .have eg:=mp_one o.mg c1;have r0:=o.mg.rng 0;have h4:=cL.mp h2 (g.2 0).toNat (bZ.mpr ad)
  rw[show(((g.2 0).toNat:Nat):Int)=g.2 0 by lia,<-eg,aX8 o.all]at h4
  cases h4
 .have c2:g.1=2:=ad
  have eg:=mp_two o.mg c2;have r0:=o.mg.rng 0;have r1:=o.mg.rng 1;have n5: ¬decide (p.length≠5)=true:=by rw[fY];lia
  have h4:=(a00 _ _▸h3).resolve_left n5;have h5:=cL.mp (cL.mp h4 (g.2 0).toNat<|bZ.mpr ad) (g.2 1).toNat (bZ.mpr ad)
  rw[show(((g.2 0).toNat:Nat):Int)=g.2 0 by lia,show(((g.2 1).toNat:Nat):Int)=g.2 1 by lia,<-eg,aX8 o.all]at h5
  cases h5
nonrec def qR:List (List Int):=[[5,0,1],[-10,0,1],[6,1,1],[-3,0,1],[-1,-1,0,1],[-2,0,0,1],[-1,4,0,1],[1,0,0,0,1],[-1,-1,0,0,1],[1,1,1,1,1],[-2,0,0,0,1],[1,0,-1,0,1]]
theorem cF4:qR.all (λp=>dJ2 p (mW 4<|j9 p)&&decide ((mW 4<|j9 p).natAbs<=39999))=true:=af
theorem v7: ∀p∈qR,eO p:=by
 intro p hp;have h:qR.all (λp=>decide (3<=p.length)&&decide (p.length<=5)&&p.all (λx=>decide (x.natAbs<=499))&&decide (p=p.dropLast++[1]))=true:=af
 have h1:=cL.mp h p hp;simp only[cQ,fY,cL]at h1;exact⟨⟨h1.1.1.1,h1.1.1.2,h1.1.2⟩,p.dropLast,h1.2⟩
theorem cY2 (f:∅)(z:Int): ∀n,∃k,ps f z (n+1)=f 0+z*k
 | 0=>⟨0,by show 0+f 0*z^0=_;rw[pow_zero,pZ,jZ];lia⟩
 | n+1=>by
  obtain⟨k,hk⟩:=cY2 f z n;refine⟨k+f (n+1)*z^n,?_⟩;show ps f z (n+1)+f (n+1)*z^(n+1)=_
  grind
theorem aS5 (h:z∣a)(ha:a≠0):z.natAbs<=a.natAbs:=Nat.le_of_dvd ad (Int.natAbs_dvd_natAbs.mpr h)
theorem c58:qR.all (λp=>decide (p.getD 0 0≠0)&&decide ((p.getD 0 0).natAbs<=10)&&(List.range 21).all λk=>decide (ev p ((k:Int)-10)≠0))=true:=af
theorem cR8:qR.all (λp=>decide (p.length≠5)||(decide ((p.getD 0 0).natAbs<=2)&&decide ((p.getD 2 0).natAbs<=1)&&decide ((p.getD 3 0).natAbs<=1)&&
  (List.range 5).all λv=>(List.range 5).all λw=>(List.range 7).all λu=>(List.range 9).all λs=>decide (p≠qq ((v:Int)-2) ((u:Int)-3) ((w:Int)-2) ((s:Int)-4))))=true:=af
theorem dJ4 {u:Int}(h1:(u+s).natAbs<=1)(h2:(u*s).natAbs<=5):u.natAbs<=3:=by
 refine aN1 λz=> ?_
 rcases(show 4<=u\/u<= -4 by lia)with c|c
 .have:4*3<=u*(-s):=a02 c ad ac ad
  lia
 .have:4*3<=(-u)*s:=a02 ad ad ac ad
  lia
theorem off {c:Nat}(h:z.natAbs<=c): ∃k:Nat,k<2*c+1/\(k:Int)-(c:Int)=z:=⟨(z+c).toNat,ad,ad⟩
theorem d46: ∀p∈qR,¬Red p:=by
 intro p hp;have h1:=cL.mp c58 p hp;simp only[cQ,fY,cL,bZ]at h1;obtain⟨⟨a0,a1⟩,a2⟩:=h1;have lo:=(v7 p hp).ok.lo;rintro(⟨z,hz⟩| ⟨v,u,w,s,e⟩)
 .unfold ev at hz;obtain⟨k,hk⟩:=cY2 (λj=>p.getD j 0) z (p.length-1)
  rw[show p.length-1+1=p.length by omega]at hk
  have dv:z∣p.getD 0 0:=⟨-k,by rw[Int.mul_neg];omega⟩
  obtain⟨k,hk,ez⟩:=off (aH (aS5 dv a0) a1);refine a2 k hk ?_;rw[show((10:Nat):Int)=10 from rfl]at ez
  rw[ez];exact hz
 .have h2:=cL.mp cR8 p hp;have l5:p.length=5:=by rw[e];rfl
  rw[a00]at h2;have h3:=h2.resolve_left (by rw[fY];omega)
  simp only[cQ,fY,cL,bZ]at h3;obtain⟨⟨⟨b0,b2⟩,b3⟩,b4⟩:=h3;have e0:p.getD 0 0=v*w:=by rw[e];rfl
  have e2:p.getD 2 0=v+w+u*s:=by rw[e];rfl
  have e3:p.getD 3 0=u+s:=by rw[e];rfl
  have v2:=aS5 ⟨w,e0⟩ a0;have w2:=aS5 ⟨v,by rw[e0,uH]⟩ a0
  rw[e2]at b2;rw[e3]at b3;have ng: ∀{z:Int} {A:Nat},z.natAbs<=A->(-z).natAbs<=A:=λh=>by rw[a01];exact h
  have u3:=dJ4 b3 (by
   have:=na2 (na2 b2<|ng<|aH v2 b0) (ng<|aH w2 b0);rw[show v+w+u*s+ -v+ -w=u*s by grind]at this
   exact this)
  obtain⟨kv,hv,ev⟩:=off (aH v2 b0);obtain⟨kw,hw,ew⟩:=off (aH w2 b0);obtain⟨ku,hu,eu⟩:=off u3;obtain⟨ks,hs,es⟩:=off (by
   have:=na2 b3 (ng u3);rw[show u+s+ -u=s by lia]at this
   exact this)
  refine b4 kv hv kw hw ku hu ks hs ?_
  subst ev ew eu es;exact e
theorem bK7: ∀p∈qR,dJ0 p:=by
 intro p hp;have h1:=cL.mp cF4 p hp;simp only[cQ,fY]at h1;exact⟨v7 p hp,d46 p hp,h1.2,dJ3 (v7 p hp) h1.1⟩
nonrec def pE (C:Addr)(p:List Int):D:= .obj C ["poly","degree","measure"] [aN p,.int<|(p.length:Int)-1,.int<|mW 4<|j9 p]
theorem b88 {C:Addr}(h:ρ[i]? =some (~~~pE C p)):c41 "degree" (aC i) ρ Q=Q (.pu<|.int<|(p.length:Int)-1) ρ:=by
 unfold c41;rw[bE2 h];rfl
theorem bX0 {C:Addr}(h:ρ[i]? =some (~~~pE C p)):c41 "poly" (aC i) ρ Q=Q (.pu<|aN p) ρ:=by
 unfold c41;rw[bE2 h];rfl
nonrec def ttF (p:List Int)(n:Nat)(u:∅):∅:=λi=>(if i=0 then 0 else u (i-1))-u (n-1)*p.getD i 0
def a38:Φ:=λds Q=> ∃(C:Addr) (p:List Int) (n:Nat) (u:∅),ds=[pE C p,aN<|rwF n u]/\eO p/\p.length=n+1/\Q (.pu<|aN<|rwF n<|ttF p n u)
def aL1:US:=(d6<|aR cC<|a8 (d5 [2,0] [none,some 3,some 2,some 0,none] 4 (fQ<|a8 (c41 "degree"<|aC 0) aL) (bS 0) (λρ Q=>Q true ρ)<|uOp M.gSub (uIx (aT 1)<|aC 0)<|uOp dE (aC 2)<|uIx (uV<|c41 "poly"<|aC 3)<|aC 0) aL)
def aL2:US:=(aU (bJ 3<|uOp eB (jG<|a8 @0 aL)<|uSl (aT 1) jE<|mJ<|mM<|@1) aL1)
def a39:US:=(aU (bJ 2<|uIx (aT 1)<|mM<|@1) aL2)
theorem c59: Ra a38 a39 ["r","x","l","m"]:=by
 rintro ds Q ⟨C,p,n,u,rfl,rp,hn,h⟩;have lo:=rp.ok.lo;have hi:=rp.ok.hi;unfold a39;simp only[aN];show(aU _ _:US) _ [~~~pE C p,~~~.tup ((rwF n u).map .int),none,none];rw[aM];left;rw[b84 ad]
 right;unfold aL2;rw[aM];left;have s1:HT.sIx n n (some<|-1)=n-1:=by
  show(if(-1:Int)<0 then(-1+(n:Int)).toNat else min (-1:Int).toNat n)=n-1
  rw[aA ac]
  lia
 have ec:cutD ((rwF n u).map D.int) none (some<|-1)=(rwF (n-1) u).map D.int:=by
  unfold cutD;rw[bC,HT.sIx_none,s1,List.drop_zero,Nat.sub_zero,<-j3,bJ3 _ _ _ ad]
 have em:[D.int 0]++(rwF (n-1) u).map D.int=(rwF n λi=>if i=0 then 0 else u (i-1)).map D.int:=by
  apply fG
  .simp[rwF];lia
  .intro k h1 h2;cases k with
   | zero=>simp[rwF]
   | succ k=>simp[rwF]
 rw[ec,em,bC,bC,HT.sIx_none,s1];refine⟨ac,ad,aH (show 0+1+(n-1)<=5 by lia) ac,?_⟩
 unfold aL1;rw[gT,dO,dM]
 refine cJ (t0:=0) n (λk=> .int (0+(k:Int))) [~~~pE C p,~~~.tup ((rwF n u).map .int),!u (n-1),some<|.pu<|.tup<|(rwF n λi=>if i=0 then 0 else u (i-1)).map .int] (λQ' q=> ?_) ad (λx l'=>[x,some<|.pu<|.tup<|(rwF n λi=>if i=0 then 0 else u (i-1)).map .int,!u (n-1),~~~pE C p,↑l']) none rfl (λ_ _ _=>rfl) (λ_ _=>bQ _) (λ_ _ _ q=>q) (λ_ _ _=>rfl) (λk=> .int (ttF p n u k)) ?_ ?_
 .unfold fQ;rw[dM,b88 (C:=C) (p:=p) rfl];left;refine⟨⟨ad,ad⟩,?_⟩
  rw[show((p.length:Int)-1).toNat=n by lia]
  exact q
 .intro k l' Q' hk q;rw[cF];have e5:atI (p.map D.int) (k:Int)=some (.int<|p.getD k 0):=cG (by rw[aZ,aS ad,aO,aS ad];rfl)
  have e6:=fO rp.ok.small k;left;rw[fW hk];right;rw[bX0 (C:=C) (p:=p) rfl];simp only[aN];left;rw[e5];right;refine⟨cmR ad ad,?_⟩
  unfold ttF at q;rw[cF]at q;exact q
 .rw[lH];exact h
nonrec def itT (p:List Int)(n:Nat)(u:∅):Nat->∅
 | 0=>u
 | k+1=>ttF p n (itT p n u k)
nonrec def bR3 (n:Nat)(f:∅):Int:=((List.range n).map f).sum
nonrec def tF (p:List Int)(n:Nat)(u v:∅):∅:=λj=>bR3 n λi=>v i*itT p n u i j
theorem b51 {a:Nat}(hp: ∀x∈p,x.natAbs<=499)(hu: ∀j,(u j).natAbs<=2^a)(j:Nat):(ttF p n u j).natAbs<=2^(a+9):=by
 unfold ttF;have h1:(if j=0 then(0:Int)else u (j-1)).natAbs<=2^a:=by
  split
  .simp
  .exact hu _
 have h2:(u (n-1)*p.getD j 0).natAbs<=2^a*499:=by rw[dW];exact fJ (hu _) (fO hp j)
 have h3:=aQ2 (if j=0 then(0:Int)else u (j-1)) (u (n-1)*p.getD j 0)
 lia
theorem aI4 {p:List Int}{n a:Nat}{u:∅}(hp: ∀x∈p,x.natAbs<=499)(hu: ∀j,(u j).natAbs<=2^a): ∀k j,(itT p n u k j).natAbs<=2^(a+9*k)
 | 0,j=>hu j
 | k+1,j=>by
  have:=b51 (n:=n) hp (λj=>aI4 (n:=n) hp hu k j) j
  exact this
nonrec def bB5 (p:List Int)(n k:Nat)(f:∅):∅:=λm=>if k-n<=m/\m<k then f m-f k*p.getD (m-(k-n)) 0 else f m
nonrec def a93 (p:List Int)(n:Nat)(f:∅):Nat->∅
 | 0=>f
 | t+1=>bB5 p n (2*n-2-t) (a93 p n f t)
theorem red2 (p:List Int)(u v:∅)(hu: ∀j,2<=j->u j=0)(hv: ∀j,2<=j->v j=0): ∀j,j<2->a93 p 2 (conv u v 2) 1 j=tF p 2 u v j
 | 0,_=>by simp[a93,bB5,conv,shF,tF,bR3,itT,ttF,cS,hv];grind
 | 1,_=>by simp[a93,bB5,conv,shF,tF,bR3,itT,ttF,cS,hv];grind
theorem red3 (p:List Int)(u v:∅)(hu: ∀j,3<=j->u j=0)(hv: ∀j,3<=j->v j=0): ∀j,j<3->a93 p 3 (conv u v 3) 2 j=tF p 3 u v j
 | 0,_=>by simp[a93,bB5,conv,shF,tF,bR3,itT,ttF,cS,hv];grind
 | 1,_=>by simp[a93,bB5,conv,shF,tF,bR3,itT,ttF,cS,hv];grind
 | 2,_=>by simp[a93,bB5,conv,shF,tF,bR3,itT,ttF,cS,hv];grind
theorem red4 (p:List Int)(u v:∅)(hu: ∀j,4<=j->u j=0)(hv: ∀j,4<=j->v j=0): ∀j,j<4->a93 p 4 (conv u v 4) 3 j=tF p 4 u v j
 | 0,_=>by simp[a93,bB5,conv,shF,tF,bR3,itT,ttF,cS,hv];grind
 | 1,_=>by simp[a93,bB5,conv,shF,tF,bR3,itT,ttF,cS,hv];grind
 | 2,_=>by simp[a93,bB5,conv,shF,tF,bR3,itT,ttF,cS,hv];grind
 | 3,_=>by simp[a93,bB5,conv,shF,tF,bR3,itT,ttF,cS,hv];grind
def aD3:Φ:=λds Q=> ∃(p:List Int) (n e:Nat) (u v:∅),ds=[aN p,aN<|rwF n u,aN<|rwF n v]/\eO p/\p.length=n+1/\e<=8900/\(∀j,(u j).natAbs<=2^e)/\(∀j,(v j).natAbs<=2^e)/\(∀j,n<=j->u j=0)/\(∀j,n<=j->v j=0)/\Q (.pu<|aN<|rwF n<|tF p n u v)
def bX1:US:=(d6<|aR cC<|a8 (uSl (aT 4) jE<|mJ<|aC 3) aL)
def bX2:US:=(aU (gW (b80<|a8 (uOp M.gSub (uOp dE @2<|aC 3)<|@2)<|a8 (uOp M.gSub (aC 3)<|@1)<|a8 (mM<|@1) aL) (bS 7)<|gW (fQ<|a8 (aC 3) aL) (bS 6)<|aU (bJ 8<|uOp eB (uOp M.gSub (aC 7)<|aC 3)<|aC 6)<|vU 4 (uOp M.gSub (uIx (aT 4)<|aC 8)<|uOp dE (uIx (aT 4)<|aC 7)<|uIx (aT 0)<|aC 6)<|aC 8) bX1)
def bX3:US:=(aU (gW (fQ<|a8 (aC 3) aL) (bS 5)<|gW (fQ<|a8 (aC 3) aL) (bS 6)<|vU 4 (uOp eB (uIx (aT 4)<|uOp eB (aC 5)<|aC 6)<|uOp dE (uIx (aT 1)<|aC 5)<|uIx (aT 2)<|aC 6)<|uOp eB (aC 5)<|aC 6) bX2)
def bX4:US:=(aU (bJ 4<|uOp dE (fL<|a8 @0 aL)<|uOp M.gSub (uOp dE @2<|aC 3)<|@1) bX3)
def bK8:US:=(aU (bJ 3<|uOp M.gSub (iH<|aT 0)<|@1) bX4)
theorem c60 {v:∅}(n2:2<=n)(n4:n<=4)(hu: ∀j,n<=j->u j=0)(hv: ∀j,n<=j->v j=0):rwF n (a93 p n (conv u v n)<|n-1)=rwF n (tF p n u v):=by
 refine jJ λj hj=> ?_
 rcases(show n=2\/n=3\/n=4 by lia)with rfl|rfl|rfl
 .exact red2 p u v hu hv j hj
 .exact red3 p u v hu hv j hj
 .exact red4 p u v hu hv j hj
nonrec def bR4 (p:List Int)(n k j:Nat)(f:∅):∅:=λm=>if k-n<=m/\m<k-n+j then f m-f k*p.getD (m-(k-n)) 0 else f m
theorem dJ5: Ra aD3 bK8 ["p","x","y","n","r","i","j","k","a"]:=by
 rintro ds Q ⟨p,n,e,u,v,rfl,rp,hn,he,hu,hv,uz,vz,h⟩;have lo:=rp.ok.lo;have hi:=rp.ok.hi;unfold bK8;simp only[aN];show(aU _ _:US) _ [~~~.tup (p.map .int),~~~.tup ((rwF n u).map .int),~~~.tup ((rwF n v).map .int),none,none,none,none,none,none];rw[aM];left;rw[aG,show(p.length:Int)-1=(n:Int)by lia]
 unfold bX4;rw[aM];left;rw[show 2*(n:Int)-1=((2*n-1:Nat):Int)by lia,bE,aI2]
 refine⟨ac,cmL ac ac,⟨ad,ad,aH (show 1*(2*n-1)<=300 by lia) ac⟩,?_⟩
 unfold bX3;rw[aM];refine bI n (λi=> .int (0+i)) [~~~.tup (p.map .int),~~~.tup ((rwF n u).map .int),~~~.tup ((rwF n v).map .int),!(n:Int),some<|.ow<|(rwF (2*n-1) λ_=>0).map .int,none,none,none,none] (λQ' q=> ?_)
  (λi ρ=> ∃x y,ρ=[~~~.tup (p.map .int),~~~.tup ((rwF n u).map .int),~~~.tup ((rwF n v).map .int),!(n:Int),↑((rwF (2*n-1)<|conv u v i).map .int),x,y,none,none]) ⟨none,none,rfl⟩ ?_ ?_
 .left
  refine⟨⟨ad,ad⟩,?_⟩
  rw[bE];exact q
 .rintro i ρ hi' ⟨x,y,rfl⟩;rw[cF];refine⟨ae,?_⟩
  show(gW _ _ _:US) _ [~~~.tup (p.map .int),~~~.tup ((rwF n u).map .int),~~~.tup ((rwF n v).map .int),!(n:Int),↑((rwF (2*n-1)<|conv u v i).map .int),!(i:Int),y,none,none]
  refine bI n (λj=> .int (0+j)) [~~~.tup (p.map .int),~~~.tup ((rwF n u).map .int),~~~.tup ((rwF n v).map .int),!(n:Int),↑((rwF (2*n-1)<|conv u v i).map .int),!(i:Int),y,none,none] (λQ' q=> ?_)
   (λj ρ=> ∃y,ρ=[~~~.tup (p.map .int),~~~.tup ((rwF n u).map .int),~~~.tup ((rwF n v).map .int),!(n:Int),some<|.ow<|(rwF (2*n-1) λm=>if m<i+j then conv u v (i+1) m else conv u v i m).map .int,!(i:Int),y,none,none]) ⟨y,by rw[cR4]⟩ ?_ ?_
  .left
   refine⟨⟨ad,ad⟩,?_⟩
   rw[bE];exact q
  .rintro j ρ hj ⟨y,rfl⟩;rw[cF];have hij:i+j<2*n-1:=ad
   have c2:(i:Int)+(j:Int)=((i+j:Nat):Int):=ad
   left
   rw[c2,fW hij,fW hi',fW hj];right;rw[bC,b43 hij,a7<|show ¬i+j<i+j by lia]
   refine⟨ae,.inr ⟨Sm.pow (hu i) ad,Sm.pow (hv j) ad⟩,!(j:Int),?_⟩
   rw[tD hij,cR6]
  .rintro ρ ⟨y,rfl⟩;rw[cR5 vz];exact⟨_,_,rfl⟩
 .rintro ρ ⟨x,y,rfl⟩;right;unfold bX2;rw[aM];refine bI (n-1) (λt=> .int ((2*n-2:Nat)-(t:Int))) [~~~.tup (p.map .int),~~~.tup ((rwF n u).map .int),~~~.tup ((rwF n v).map .int),!(n:Int),↑((rwF (2*n-1)<|conv u v n).map .int),x,y,none,none] (λQ' q=> ?_)
   (λt ρ=> ∃y z w,ρ=[~~~.tup (p.map .int),~~~.tup ((rwF n u).map .int),~~~.tup ((rwF n v).map .int),!(n:Int),↑((rwF (2*n-1)<|a93 p n (conv u v n) t).map .int),x,y,z,w]) ⟨y,none,none,rfl⟩ ?_ ?_
  .left
   refine⟨cmL ac ac,trivial,⟨ad,ad,ad,ad⟩,?_⟩
   rw[show(2*(n:Int)-2-((n:Int)-1)).toNat=n-1 by lia,show 2*(n:Int)-2=((2*n-2:Nat):Int)by lia]
   exact q
  .rintro t ρ ht ⟨y,z,w,rfl⟩;obtain⟨k,hk⟩: ∃k:Nat,k=2*n-2-t:=⟨_,rfl⟩;rw[show((2*n-2:Nat):Int)-(t:Int)=(k:Int)by lia]
   generalize hf:a93 p n (conv u v n) t=f;refine⟨ae,?_⟩
   show(gW _ _ _:US) _ [~~~.tup (p.map .int),~~~.tup ((rwF n u).map .int),~~~.tup ((rwF n v).map .int),!(n:Int),↑((rwF (2*n-1) f).map .int),x,y,!(k:Int),w]
   refine bI n (λj=> .int (0+j)) [~~~.tup (p.map .int),~~~.tup ((rwF n u).map .int),~~~.tup ((rwF n v).map .int),!(n:Int),↑((rwF (2*n-1) f).map .int),x,y,!(k:Int),w] (λQ' q=> ?_)
    (λj ρ=> ∃y w,ρ=[~~~.tup (p.map .int),~~~.tup ((rwF n u).map .int),~~~.tup ((rwF n v).map .int),!(n:Int),↑((rwF (2*n-1)<|bR4 p n k j f).map .int),x,y,!(k:Int),w]) ⟨y,w,?_⟩ ?_ ?_
   .left
    refine⟨⟨ad,ad⟩,?_⟩
    rw[bE];exact q
   .have e0:bR4 p n k 0 f=f:=funext λm=>by unfold bR4;rw[a7 ad]
    rw[e0]
   .rintro j ρ hj ⟨y,w,rfl⟩;rw[cF];have hat:k-n+j<2*n-1:=ad
    have hkk:k<2*n-1:=ad
    have c2:(k:Int)-(n:Int)+(j:Int)=((k-n+j:Nat):Int):=ad
    have e5:atI (p.map D.int) (j:Int)=some (.int<|p.getD j 0):=cG (by rw[aZ,aS ad,aO,aS ad];rfl)
    have e6:=fO rp.ok.small j;left;rw[c2,fW hat,fW hkk,e5];right;rw[bC,b43 hat];refine⟨ae,cmR ad ad,!(j:Int),!((k-n+j:Nat):Int),?_⟩
    rw[tD hat];have e7:(λx=>if x=k-n+j then bR4 p n k j f (k-n+j)-bR4 p n k j f k*p.getD j 0 else bR4 p n k j f x)=bR4 p n k (j+1) f:=funext λm=>by
     unfold bR4
     by_cases c:m=k-n+j
     .rw[aA c,a7 ad,a7 ad,aA ad,c,show k-n+j-(k-n)=j by lia]
     .rw[a7 c]
      by_cases c3:k-n<=m/\m<k-n+j
      .rw[aA c3,aA ad]
      .rw[a7 c3,a7 ad]
    rw[e7]
   .rintro ρ ⟨y,w,rfl⟩;refine⟨y,!(k:Int),w,?_⟩;have e8:bR4 p n k n f=a93 p n (conv u v n) (t+1):=by
     show _=bB5 p n (2*n-2-t) (a93 p n (conv u v n) t)
     rw[hf,<-hk];unfold bR4 bB5
     funext m
     rw[show k-n+n=k by lia]
    rw[e8]
  .rintro ρ ⟨y,z,w,rfl⟩;right;unfold bX1;left;rw[c46 _ _ (by rw[bC];lia),<-j3,bJ3 _ _ _ ad,c60 ad ad uz vz]
   exact h
nonrec def cz (n:Nat)(u:∅):∅:=λj=>if j<n then u j else 0
theorem dJ6 (n:Nat)(u:∅):rwF n (cz n u)=rwF n u:=jJ λi hi=>aA hi
theorem cR9 {j:Nat}(h:n<=j):cz n u j=0:=a7 ad
theorem cF5 (h: ∀j,(u j).natAbs<=2^e)(j:Nat):(cz n u j).natAbs<=2^e:=by
 unfold cz;split
 .exact h j
 .exact eH _
nonrec def v8 (k:Int):∅:=λj=>if j=0 then k else 0
theorem cY3 (k:Int)(h:1<=n):k::replicate (n-1) 0=rwF n (v8 k):=by
 apply fG
 .rw[n6,dP,iD];lia
 .intro i h1 h2;simp only[rwF,List.getElem_map,List.getElem_range]
  match i with
  | 0=>rfl
  | i+1=>rw[List.getElem_cons_succ,List.getElem_replicate];rfl
nonrec def tbL (n:Nat)(t:Nat->∅):List (List Int):=(List.range n).map λi=>rwF n (t i)
theorem tG (n:Nat)(t:Nat->∅):(tbL n t).length=n:=by unfold tbL;rw[aG,jY]
theorem dJ7 (n1:1<=n)(n4:n<=4)(he:e<2000)(h: ∀i j,i<n->(t i j).natAbs<=2^e):Sq 4 (tbL n t):=by
 refine⟨by rw[tG];exact n1,by rw[tG];exact n4,λr hr=> ?_,λr hr x hx=> ?_⟩
 .rw[tG];obtain⟨i,hi,rfl⟩:=bU.mp hr;exact n6 _ _
 .obtain⟨i,hi,rfl⟩:=bU.mp hr;obtain⟨j,hj,rfl⟩:=bU.mp hx;exact nF (h i j<|bZ.mp hi) (aO9 ac he)
theorem det_2 (T:Nat->∅):mW 4 (tbL 2 T)=1*T 0 0*(T 1 1)+(-1*T 1 0*(T 0 1)+0):=by kernel_rfl
theorem det_3 (T:Nat->∅):mW 4 (tbL 3 T)=1*T 0 0*(1*T 1 1*(T 2 2)+(-1*T 2 1*(T 1 2)+0))+(-1*T 1 0*(1*T 0 1*(T 2 2)+(-1*T 2 1*(T 0 2)+0))+(1*T 2 0*(1*T 0 1*(T 1 2)+(-1*T 1 1*(T 0 2)+0))+0)):=by kernel_rfl
theorem det_4 (T:Nat->∅):mW 4 (tbL 4 T)=1*T 0 0*(1*T 1 1*(1*T 2 2*(T 3 3)+(-1*T 3 2*(T 2 3)+0))+(-1*T 2 1*(1*T 1 2*(T 3 3)+(-1*T 3 2*(T 1 3)+0))+(1*T 3 1*(1*T 1 2*(T 2 3)+(-1*T 2 2*(T 1 3)+0))+0)))+(-1*T 1 0*(1*T 0 1*(1*T 2 2*(T 3 3)+(-1*T 3 2*(T 2 3)+0))+(-1*T 2 1*(1*T 0 2*(T 3 3)+(-1*T 3 2*(T 0 3)+0))+(1*T 3 1*(1*T 0 2*(T 2 3)+(-1*T 2 2*(T 0 3)+0))+0)))+(1*T 2 0*(1*T 0 1*(1*T 1 2*(T 3 3)+(-1*T 3 2*(T 1 3)+0))+(-1*T 1 1*(1*T 0 2*(T 3 3)+(-1*T 3 2*(T 0 3)+0))+(1*T 3 1*(1*T 0 2*(T 1 3)+(-1*T 1 2*(T 0 3)+0))+0)))+(-1*T 3 0*(1*T 0 1*(1*T 1 2*(T 2 3)+(-1*T 2 2*(T 1 3)+0))+(-1*T 1 1*(1*T 0 2*(T 2 3)+(-1*T 2 2*(T 0 3)+0))+(1*T 2 1*(1*T 0 2*(T 1 3)+(-1*T 1 2*(T 0 3)+0))+0)))+0))):=by kernel_rfl
nonrec def nrm (p:List Int)(n:Nat)(u:∅):Int:=mW 4 (tbL n<|itT p n u)
theorem bK9 (row:List Int)(s:Int): ∀k,(b47 row s k).length=row.length
 | 0=>rfl
 | k+1=>by unfold b47;rw[cZ];exact bK9 row s k
theorem cY4 (p:List Int)(s:Int): ∀k,(shK p s k).length=p.length
 | 0=>rfl
 | k+1=>by unfold shK;rw[bK9];exact cY4 p s k
theorem dJ8 (h:k<n):ixN n (k:Int)=some k:=by
 unfold ixN;rw[aA ad,aA ad,bE]
theorem dJ9 (l:List Int)(k:Nat)(x:Int):(l.map D.int).set k (.int x)=(l.set k x).map D.int:=by rw[l7]
def a41:Φ:=λds Q=> ∃(p:List Int) (s:Int),ds=[aN p,.int s]/\3<=p.length/\p.length<=5/\s.natAbs<=3/\Q (.pu<|aN<|shK p s<|p.length-1)
def aS6:US:=(aU (bJ 2<|aR rE<|a8 (aC 0) aL)<|aU (gW (fQ<|a8 (uOp M.gSub (iH<|aT 2)<|@1) aL) (bS 3)<|gW (b80<|a8 (uOp M.gSub (iH<|aT 2)<|@2)<|a8 (uOp M.gSub (aC 3)<|@1)<|a8 (mM<|@1) aL) (bS 4)<|vU 2 (uOp eB (uIx (aT 2)<|aC 4)<|uOp dE (aC 1)<|uIx (aT 2)<|uOp eB (aC 4)<|@1)<|aC 4)<|d6<|aR cC<|a8 (aC 2) aL)
theorem cS0: Ra a41 aS6 ["p","s","r","l","a"]:=by
 rintro ds Q ⟨p,s,rfl,h3,h5,hs,h⟩;have lp:(p.map D.int).length=p.length:=aG _;unfold aS6;show(aU _ _:US) _ [~~~.tup (p.map .int),!s,none,none,none];left;refine bI (p.length-1) (λi=> .int (0+i)) [~~~.tup (p.map .int),!s,↑(p.map .int),none,none] ?_
  (λi ρ=> ∃x y,ρ=[~~~.tup (p.map .int),!s,↑((shK p s i).map .int),x,y]) ⟨none,none,rfl⟩ ?_ ?_
 .intro Q' q;simp only[fQ];left;rw[lp];refine⟨ad,?_⟩
  rw[show((p.length:Int)-1).toNat=p.length-1 by lia]
  exact q
 .rintro i ρ hi ⟨x,y,rfl⟩;have lk:=cY4 p s i;have e1:shK p s (i+1)=b47 (shK p s i) s (p.length-1-i):=rfl;rw[e1];generalize shK p s i=row at lk;have lrow:(row.map D.int).length=row.length:=aG _;left;refine⟨ac,?_⟩
  refine bI (p.length-1-i) (λk=> .int ((p.length:Int)-2-k)) [~~~.tup (p.map .int),!s,↑(row.map .int),!(0+(i:Int)),y] ?_
   (λk ρ=> ∃y,ρ=[~~~.tup (p.map .int),!s,↑((b47 row s k).map .int),!(0+(i:Int)),y]) ⟨y,rfl⟩ ?_ ?_
  .intro Q' q;simp only[b80];left;rw[lrow,lk];refine⟨trivial,ad,?_⟩
   rw[show((p.length:Int)-2-(0+(i:Int)-1)).toNat=p.length-1-i by lia]
   exact q
  .rintro k ρ hk ⟨y,rfl⟩;have l2:=bK9 row s k;left;refine⟨ac,?_⟩
   have a1:(p.length:Int)-2-(k:Int)=((p.length-2-k:Nat):Int):=ad
   have a2:((p.length-2-k:Nat):Int)+1=((p.length-1-k:Nat):Int):=ad
   rw[a1,a2,aB6<|show p.length-2-k< (b47 row s k).length by lia,aB6<|show p.length-1-k< (b47 row s k).length by lia]
   right;rw[dJ8 (show p.length-2-k< ((b47 row s k).map D.int).length by rw[aG];lia)]
   refine⟨cmL ad ad,!((p.length-2-k:Nat):Int),?_⟩
   rw[dJ9];rw[<-lk];rfl
  .rintro ρ ⟨y,rfl⟩;exact⟨_,_,rfl⟩
 .rintro ρ ⟨x,y,rfl⟩;left;exact h
def wY:Φ:=λds Q=> ∃c:Int,ds=[.int c]/\ ∀p∈qR,Q (.pu<|aN p)
def aD4:US:=(d6<|uIx (aT 1)<|uOp kP (aR aB3<|a8 (aC 0)<|a8 @3<|a8 @998244353 aL)<|@12)
def aD5:US:=(aU (bJ 1<|uOp eB (aC 1)<|fL<|a8 (jG<|a8 @1<|a8 @0<|a8 @0<|a8 @0<|a8 @1 aL)<|a8 (jG<|a8 (mM<|@1)<|a8 (mM<|@1)<|a8 @0<|a8 @0<|a8 @1 aL)<|a8 (jG<|a8 @1<|a8 @1<|a8 @1<|a8 @1<|a8 @1 aL)<|a8 (jG<|a8 (mM<|@2)<|a8 @0<|a8 @0<|a8 @0<|a8 @1 aL)<|a8 (jG<|a8 @1<|a8 @0<|a8 (mM<|@1)<|a8 @0<|a8 @1 aL) aL) aD4)
def wZ:US:=(aU (bJ 1<|fL<|a8 (jG<|a8 @5<|a8 @0<|a8 @1 aL)<|a8 (jG<|a8 (mM<|@10)<|a8 @0<|a8 @1 aL)<|a8 (jG<|a8 @6<|a8 @1<|a8 @1 aL)<|a8 (jG<|a8 (mM<|@3)<|a8 @0<|a8 @1 aL)<|a8 (jG<|a8 (mM<|@1)<|a8 (mM<|@1)<|a8 @0<|a8 @1 aL)<|a8 (jG<|a8 (mM<|@2)<|a8 @0<|a8 @0<|a8 @1 aL)<|a8 (jG<|a8 (mM<|@1)<|a8 @4<|a8 @0<|a8 @1 aL) aL) aD5)
theorem dK0 {k:Int}(h0:0<=k)(h1:k<12): ∃p∈qR,atI (qR.map aN) k=some (aN p):=by
 obtain⟨i,rfl⟩: ∃i:Nat,k=(i:Int):=⟨k.toNat,ad⟩
 have hi:i<qR.length:=show i<12 by lia
 exact⟨qR[i],cE hi,cG (by rw[aZ,aS hi];rfl)⟩
theorem bR5: Ra wY wZ ["c","k"]:=by
 rintro ds Q ⟨c,rfl,h⟩;unfold wZ;show(aU _ _:US) _ [!c,none];rw[aM];left;refine⟨ac,ac,ac,ac,ac,ac,ac,ac,?_⟩
 unfold aD5;rw[aM];left;refine⟨ac,ac,ac,ac,ac,ac,ac,?_⟩
 unfold aD4;left;refine⟨c,3,998244353,rfl,ac,ac,ac,λr r0 r1=> ?_⟩
 left
 refine⟨ac,?_⟩
 rw[dD _ ac]
 obtain⟨p,hp,e⟩:=dK0 (d8 r<|show(12:Int)≠0 by decide) (dG r<|show(0:Int)<12 by decide)
 have e': ∀l:List D,l=qR.map aN->(match atI l (r%12)with|some x=>Q (.pu x)|none=>False):=λl hl=>by
  rw[hl,e];exact h p hp
 exact e' _ rfl
def c61:Φ:=λds Q=> ∃c q:Int,ds=[.int c,.int q]/\0<q/\ ∀p,eO p->Q (.pu<|aN p)
def c62:Φ:=λds Q=> ∃(ns:List Int) (k:Nat) (q:Int),ds=[.rol<|ns.map .int,.int (k:Int),.int q]/\ns.length<=63/\k<=1000/\0<q/\ ∀C p,eO p->NoZ p->Q (.pu<|pE C p)
def bL0:US:=(pB 3)
def cF6:US:=(aU (fU (cU<|bQ4 false<|aC 3) (bJ 3<|dG2 ["poly","degree","measure"] yV<|a8 (aR wY<|a8 (aR vX<|a8 (aC 0)<|a8 (aC 1) aL) aL) aL) dN) bL0)
def cF7:US:=(aU (gW (fQ<|a8 @3 aL) (bS 4)<|fU (cU<|bQ4 false<|aC 3) (dG3 3 ["poly","degree","measure"] yV (a8 (aR c61<|a8 (aR vX<|a8 (aC 0)<|a8 (uOp eB (aC 1)<|aC 4) aL)<|a8 (aC 2) aL) aL) ["FallsApart","TooGreat","NotWhole"]<|bJ 3<|uC .non) dN) cF6)
def c63:US:=(aU (bJ 3<|uC .non) cF7)
theorem dX3: Ra c62 c63 ["s","k","q","f","j"]:=by
 rintro ds Q ⟨ns,k,q,rfl,hl,hk,hq,h⟩;unfold c63;show(aU _ _:US) _ [~~~.rol (ns.map .int),!(k:Int),!q,none,none];rw[aM];left;unfold cF7;rw[aM];refine bI 3 (λi=> .int (0+i)) [~~~.rol (ns.map .int),!(k:Int),!q,~~~.non,none] (λQ' q=> ?_)
  (λi ρ=> ∃d x,ρ=[~~~.rol (ns.map .int),!(k:Int),!q,~~~d,x]/\(d= .non\/ ∃C p,eO p/\NoZ p/\d=pE C p)) ⟨.non,none,rfl,.inl rfl⟩ ?_ ?_
 .left
  exact⟨ac,q⟩
 .rintro i ρ hi ⟨d,x,rfl,hd⟩;refine⟨ae,?_⟩
  rcases hd with rfl| ⟨C,p,rp,nr,rfl⟩
  .left
   unfold dG3;left;refine⟨ns,(k:Int)+(0+(i:Int)),rfl,hl,ad,ad,λc=>⟨c,q,rfl,hq,λp rp=> ?_⟩⟩
   left
   refine⟨p,rfl,rp,λnr _ C=>⟨pE C p,!(0+(i:Int)),rfl,.inr ⟨C,p,rp,nr,rfl⟩⟩,λ_ _=>⟨ae,.non,_,rfl,.inl rfl⟩,λ_=>⟨⟨ae,.non,_,rfl,.inl rfl⟩,λ_=>⟨ae,.non,_,rfl,.inl rfl⟩⟩⟩
  .simp only[pE];left;exact⟨pE C p,_,rfl,.inr ⟨C,p,rp,nr,rfl⟩⟩
 .rintro ρ ⟨d,x,rfl,hd⟩;right;unfold cF6;rw[aM];rcases hd with rfl| ⟨C,p,rp,nr,rfl⟩
  .left
   unfold dG2;left;refine⟨ns,(k:Int),rfl,hl,ad,ad,λc=>⟨c,rfl,λp hp=> ?_⟩⟩
   left
   refine⟨p,rfl,v7 p hp,λ_ _ C=> ?_,λred=>absurd red (bK7 p hp).irr,λz=>absurd (bK7 p hp) z⟩
   unfold bL0;left;exact h C p (v7 p hp) λz hz=>(bK7 p hp).irr (.inl ⟨z,hz⟩)
  .simp only[pE];left;unfold bL0;left;exact h C p rp nr
def cF8:US:=(d6<|aR a41<|a8 (jG<|a8 (uOp M.gSub (uIx (aT 4)<|@2)<|@3)<|a8 (uOp M.gSub (uIx (aT 4)<|@3)<|@3)<|a8 (uOp M.gSub (uIx (aT 4)<|@4)<|@3)<|a8 (uOp M.gSub (uIx (aT 4)<|@6)<|@3)<|a8 @1 aL)<|a8 (uOp M.gSub (uIx (aT 4)<|@5)<|@2) aL)
def cF9:US:=(aU (bJ 4<|aR lD<|a8 (aC 0)<|a8 (fL<|a8 @3<|a8 @8<|a8 @7<|a8 @7<|a8 @7<|a8 @5<|a8 @7 aL)<|a8 (aC 1) aL) cF8)
def cG0:US:=(aU (fU (cU<|uOp (fS false) (uIx (aT 2)<|@0)<|@1) (d6<|aR a41<|a8 (jG<|a8 (uOp M.gSub (uIx (aT 4)<|@2)<|@4)<|a8 (uOp M.gSub (uIx (aT 4)<|@3)<|@4)<|a8 (uOp M.gSub (uIx (aT 4)<|@4)<|@4)<|a8 @1 aL)<|a8 (uOp M.gSub (uIx (aT 4)<|@5)<|@2) aL) dN) cF9)
def cG1:US:=(aU (fU (cU<|uOp (fS false) (uIx (aT 2)<|@0)<|@0) (aU (bJ 4<|aR lD<|a8 (aC 0)<|a8 (fL<|a8 @3<|a8 @8<|a8 @161<|a8 @41 aL)<|a8 (aC 1) aL)<|d6<|jG<|a8 (uOp M.gSub (uIx (aT 4)<|@2)<|@80)<|a8 (uOp M.gSub (uIx (aT 4)<|@3)<|@20)<|a8 @1 aL) dN) cG0)
def bL1:US:=(aU (bJ 4<|aR lD<|a8 (aC 0)<|a8 (fL<|a8 @3<|a8 @8<|a8 @9<|a8 @9<|a8 @9<|a8 @5<|a8 @7 aL)<|a8 (aC 1) aL) cG1)
def cG2:US:=(aU (fU (cU<|uOp (fS false) (uIx (aT 2)<|@1)<|@7) (d6<|aR cC<|a8 (uOp eB (d5 [] [none,none] 1 (dS<|aC 3) (bS 0) (λρ Q=>Q true ρ)<|uOp M.gSub (aC 0)<|@499)<|fL<|a8 @1 aL) aL) dN) bL1)
def cG3:US:=(aU (bJ 3<|uSl (uV<|aR lD<|a8 (aC 0)<|a8 (fL<|a8 @3<|a8 @8<|a8 @999<|a8 @999<|a8 @999<|a8 @999 aL)<|a8 (aC 1) aL) (mJ<|@2)<|mJ<|uOp eB (uIx (aT 2)<|@0)<|@4) cG2)
def c64:US:=(aU (bJ 2<|aR lD<|a8 (aC 0)<|a8 (fL<|a8 @3<|a8 @8 aL)<|a8 (aC 1) aL) cG3)
theorem rp_two (ha:a.natAbs<=499)(hb:b.natAbs<=499):eO [a,b,1]:=⟨⟨ae,ae,λx hx=>by
 simp only[bB,fF,eI]at hx;rcases hx with rfl|rfl|rfl<;>lia⟩,[a,b],rfl⟩
theorem nba (hx:x.natAbs<=m)(hy:y.natAbs<=k):(x+y).natAbs<=m+k:=aH (u8 x y) (add_le_add hx hy)
theorem nbm (hx:x.natAbs<=m)(hy:y.natAbs<=k):(x*y).natAbs<=m*k:=by rw[dW];exact fJ hx hy
theorem nbl (h:decide (m<=k)=true)(hx:x.natAbs<=m):x.natAbs<=k:=aH hx (zW h)
theorem nbc (n:Nat):((n:Nat):Int).natAbs<=n:=aK n
theorem rp_sh3 (ha:a.natAbs<=4)(hb:b.natAbs<=4)(hc:c.natAbs<=4)(hs:s.natAbs<=2):eO (shK [a,b,c,1] s 3):=by
 rw[she3];refine⟨⟨by simp[sh3],by simp[sh3],λx hx=> ?_⟩,_,rfl⟩
 simp only[sh3,List.cons_append,aR0,bB,fF,eI]at hx;have s2:=nbm hs hs;have s3:=nbm s2 hs;rcases hx with rfl|rfl|rfl|rfl
 .exact nbl rfl (nba (nba (nba ha<|nbm hs hb)<|nbm s2 hc) s3)
 .exact nbl rfl (nba (nba hb<|nbm (nbm (nbc 2) hs) hc)<|nbm (nbm (nbc 3) hs) hs)
 .exact nbl rfl (nba hc<|nbm (nbc 3) hs)
 .decide
theorem rp_sh4 {d:Int}(ha:a.natAbs<=3)(hb:b.natAbs<=3)(hc:c.natAbs<=3)(hd:d.natAbs<=3)(hs:s.natAbs<=2):eO (shK [a,b,c,d,1] s 4):=by
 rw[she4];refine⟨⟨by simp[sh4],by simp[sh4],λx hx=> ?_⟩,_,rfl⟩
 simp only[sh4,List.cons_append,aR0,bB,fF,eI]at hx;have s2:=nbm hs hs;have s3:=nbm s2 hs;rcases hx with rfl|rfl|rfl|rfl|rfl
 .exact nbl rfl (nba (nba (nba (nba ha<|nbm hs hb)<|nbm s2 hc)<|nbm s3 hd)<|nbm s3 hs)
 .exact nbl rfl (nba (nba (nba hb<|nbm (nbm (nbc 2) hs) hc)<|nbm (nbm (nbm (nbc 3) hs) hs) hd)<|nbm (nbm (nbm (nbc 4) hs) hs) hs)
 .exact nbl rfl (nba (nba hc<|nbm (nbm (nbc 3) hs) hd)<|nbm (nbm (nbc 6) hs) hs)
 .exact nbl rfl (nba hd<|nbm (nbc 4) hs)
 .decide
theorem dX4 (h2:2<=ws.length)(h4:ws.length<=4)(hb: ∀w∈ws,0<=w/\w<999):eO (ws.map (λw=>w-499)++[1]):=by
 refine⟨⟨by rw[cB,aG];show 3<=ws.length+1;lia,by rw[cB,aG];show ws.length+1<=5;lia,λx hx=> ?_⟩,_,rfl⟩
 rcases cR.mp hx with hx|hx
 .obtain⟨w,hw,rfl⟩:=bU.mp hx;have:=hb w hw
  lia
 .rw[fE.mp hx];decide
theorem d47 (c q a b:Int)(ws:List Int)(h4:ws.length<=4)(Q:B->Prop)(h:Q (.pu<|aN<|ws.map (λw=>w-499)++[1])) :
  (d6 (aR cC<|a8 (uOp eB (d5 [] [none,none] 1 (dS<|aC 3) (bS 0) (λρ Q=>Q true ρ)<|uOp M.gSub (aC 0)<|@499)<|fL<|a8 @1 aL) aL):US) {Q with} [!c,!q,↑[.int a,.int b],↑(ws.map .int),none]:=by
 rw[gT,dO,dM,c49];refine cJ (t0:=0) ws.length (λk=>(ws.map D.int).getD k .non) [!c,!q,↑[.int a,.int b],~~~.lst (ws.map .int),none] (λQ' q=> ?_) ad (λx l'=>[x,↑l']) none rfl (λ_ _ _=>rfl) (λ_ _=>bQ _) (λ_ _ _ q=>q) (λ_ _ _=>rfl) (λk=> .int (ws.getD k 0-499)) ?_ ?_
 .left
  rw[aG];exact q
 .intro k l' Q' hk q';have e3:(ws.map D.int).getD k .non= .int (ws.getD k 0):=by
   rw[aO,aZ,aO,aS hk];rfl
  rw[e3]at q'⊢;left;exact q'
 .have e4:(List.range ws.length).map (λk=>D.int (ws.getD k 0-499))=(ws.map λw=>w-499).map D.int:=by
   apply fG
   .simp
   .intro i h1 h2;simp at h1;simp[aO,h1]
  rw[e4];left;have e5:(ws.map λw=>w-499).map D.int++[D.int 1]=(ws.map (λw=>w-499)++[1]).map D.int:=by rw[bT];rfl
  rw[e5];refine⟨ac,?_,h⟩
  rw[aG,aG];exact aH (show ws.length+(0+1)<=5 by lia) ac
theorem dK1 (c q a b:Int)(w:Option B)(a0:0<=a)(a1:a<3)(hq:0<q)(Q:B->Prop)(h: ∀p,eO p->Q (.pu<|aN p)) :
  bL1 {Q with} [!c,!q,↑[.int a,.int b],w,none]:=by
 unfold bL1;rw[aM];left;refine⟨ac,c,[3,8,9,9,9,5,7],q,rfl,ac,hq,ac,λxs hx=> ?_⟩
 obtain⟨x0,x1,x2,x3,x4,x5,x6,rfl⟩: ∃x0 x1 x2 x3 x4 x5 x6,xs=[x0,x1,x2,x3,x4,x5,x6]:=by
  match xs,hx.1 with
  | [x0,x1,x2,x3,x4,x5,x6],_=>exact⟨x0,x1,x2,x3,x4,x5,x6,rfl⟩
 have b2:=hx.2 2 x2 9 rfl rfl;have b3:=hx.2 3 x3 9 rfl rfl;have b4:=hx.2 4 x4 9 rfl rfl;have b5:=hx.2 5 x5 5 rfl rfl;simp only[dY,nR];unfold cG1;rw[aM];left;rw[aW8];right
 by_cases c0:a=0
 .rw[aA c0];refine⟨ac,c,[3,8,161,41],q,rfl,ac,hq,ac,λys hy=> ?_⟩
  obtain⟨y0,y1,y2,y3,rfl⟩: ∃y0 y1 y2 y3,ys=[y0,y1,y2,y3]:=by
   match ys,hy.1 with
   | [y0,y1,y2,y3],_=>exact⟨y0,y1,y2,y3,rfl⟩
  have k2:=hy.2 2 y2 161 rfl rfl;have k3:=hy.2 3 y3 41 rfl rfl;simp only[dY,nR]
  (try left)
  rw[show atI [D.int y0,.int y1,.int y2,.int y3] 2=some (.int y2)from cG (j:=2) rfl,show atI [D.int y0,.int y1,.int y2,.int y3] 3=some (.int y3)from cG (j:=3) rfl]
  right;exact⟨ac,h [y2-80,y3-20,1]<|rp_two ad ad⟩
 rw[a7 c0];have t2:atI [D.int x0,.int x1,.int x2,.int x3,.int x4,.int x5,.int x6] 2=some (.int x2):=cG (j:=2) rfl;have t3:atI [D.int x0,.int x1,.int x2,.int x3,.int x4,.int x5,.int x6] 3=some (.int x3):=cG (j:=3) rfl;have t4:atI [D.int x0,.int x1,.int x2,.int x3,.int x4,.int x5,.int x6] 4=some (.int x4):=cG (j:=4) rfl
 have t5:atI [D.int x0,.int x1,.int x2,.int x3,.int x4,.int x5,.int x6] 5=some (.int x5):=cG (j:=5) rfl;unfold cG0;rw[aM];left;rw[aW8];right
 by_cases c1:a=1
 .rw[aA c1,t2,t3,t4,t5];right;exact⟨ac,[x2-4,x3-4,x4-4,1],x5-2,rfl,ae,ae,ad,h _<|rp_sh3 ad ad ad ad⟩
 rw[a7 c1];unfold cF9;rw[aM];left;refine⟨ac,c,[3,8,7,7,7,5,7],q,rfl,ac,hq,ac,λys hy=> ?_⟩
 obtain⟨y0,y1,y2,y3,y4,y5,y6,rfl⟩: ∃x0 x1 x2 x3 x4 x5 x6,ys=[x0,x1,x2,x3,x4,x5,x6]:=by
  match ys,hy.1 with
  | [x0,x1,x2,x3,x4,x5,x6],_=>exact⟨x0,x1,x2,x3,x4,x5,x6,rfl⟩
 have k2:=hy.2 2 y2 7 rfl rfl;have k3:=hy.2 3 y3 7 rfl rfl;have k4:=hy.2 4 y4 7 rfl rfl;have k5:=hy.2 5 y5 5 rfl rfl;have k6:=hy.2 6 y6 7 rfl rfl;simp only[dY,nR];unfold cF8;left
 rw[show atI [D.int y0,.int y1,.int y2,.int y3,.int y4,.int y5,.int y6] 2=some (.int y2)from cG (j:=2) rfl,show atI [D.int y0,.int y1,.int y2,.int y3,.int y4,.int y5,.int y6] 3=some (.int y3)from cG (j:=3) rfl,show atI [D.int y0,.int y1,.int y2,.int y3,.int y4,.int y5,.int y6] 4=some (.int y4)from cG (j:=4) rfl,show atI [D.int y0,.int y1,.int y2,.int y3,.int y4,.int y5,.int y6] 5=some (.int y5)from cG (j:=5) rfl,show atI [D.int y0,.int y1,.int y2,.int y3,.int y4,.int y5,.int y6] 6=some (.int y6)from cG (j:=6) rfl]
 right;exact⟨ac,[y2-3,y3-3,y4-3,y6-3,1],y5-2,rfl,ae,ae,ad,h _<|rp_sh4 ad ad ad ad ad⟩
theorem dX5: Ra c61 c64 ["c","q","d","w","f"]:=by
 rintro ds Q ⟨c,q,rfl,hq,h⟩;unfold c64;show(aU _ _:US) _ [!c,!q,none,none,none];rw[aM];left;refine⟨ac,c,[3,8],q,rfl,ac,hq,ac,λxs hx=> ?_⟩
 obtain⟨a,b,rfl⟩: ∃a b,xs=[a,b]:=by
  match xs,hx.1 with
  | [a,b],_=>exact⟨a,b,rfl⟩
 have ba:=hx.2 0 a 3 rfl rfl;simp only[dY,nR];unfold cG3;rw[aM];left;refine⟨ac,c,[3,8,999,999,999,999],q,rfl,ac,hq,ac,λys hy=> ?_⟩
 obtain⟨y0,y1,y2,y3,y4,y5,rfl⟩: ∃x0 x1 x2 x3 x4 x5,ys=[x0,x1,x2,x3,x4,x5]:=by
  match ys,hy.1 with
  | [x0,x1,x2,x3,x4,x5],_=>exact⟨x0,x1,x2,x3,x4,x5,rfl⟩
 have k2:=hy.2 2 y2 999 rfl rfl;have k3:=hy.2 3 y3 999 rfl rfl;have k4:=hy.2 4 y4 999 rfl rfl;have k5:=hy.2 5 y5 999 rfl rfl;simp only[dY,nR]
 (try left)
 rw[aW8];right;obtain⟨ws,ew,w2,w4,wb⟩: ∃ws:List Int,cutD [D.int y0,.int y1,.int y2,.int y3,.int y4,.int y5] (some 2) (some<|a+4)=ws.map D.int/\2<=ws.length/\ws.length<=4/\ ∀w∈ws,0<=w/\w<999:=by
  rcases(show a=0\/a=1\/a=2 by lia)with rfl|rfl|rfl
  .exact⟨[y2,y3],rfl,ae,ae,by simp;lia⟩
  .exact⟨[y2,y3,y4],rfl,ae,ae,by simp;lia⟩
  .exact⟨[y2,y3,y4,y5],rfl,ae,ae,by simp;lia⟩
 rw[ew];unfold cG2;rw[aM,cX8];left;rw[at1];right
 by_cases cb:b=7
 .rw[aA cb];exact d47 c q a b ws w4 Q (h _<|dX4 w2 w4 wb)
 .rw[a7 cb];exact dK1 c q a b _ ba.1 ba.2 hq Q h
def cS1:US:=(aU (fU (uOr (cB6<|cU<|aR cC2<|a8 (aC 0)<|a8 (uC<|.ty "tuple") aL)<|cU<|uOp (fS true) (iH<|aT 0)<|aC 1) (d6<|uC<|.bl false) dN)<|d6<|aR bG2<|a8 (d5 [] [none,none] 1 (dS<|aC 0) (bS 0) (λρ Q=>Q true ρ)<|aR aW9<|a8 (aC 0) aL) aL)
def cS2:Φ:=λds Q=> ∃(r:List Int),ds=[aN r,.int (r.length:Int)]/\r.length<=1000/\Q (.pu<|.bl true)
theorem rd_row: Ra cS2 cS1 ["f","m"]:=by
 rintro ds Q ⟨r,rfl,hl,h⟩;unfold cS1;simp only[aN];show(aU _ _:US) _ [~~~.tup (r.map .int),!(r.length:Int)];rw[aM];have two:(d6 (aR bG2<|a8 (d5 [] [none,none] 1 (dS<|aC 0) (bS 0) (λρ Q=>Q true ρ)<|aR aW9<|a8 (aC 0) aL) aL):US) {Q with} [~~~.tup (r.map .int),!(r.length:Int)]:=by
  rw[gT,dO,dM];refine cJ (t0:=0) r.length (λk=>(r.map D.int).getD k .non) [~~~.tup (r.map .int),!(r.length:Int)] ?_ ad (λx l=>[x,↑l]) none rfl (λ_ _ _=>rfl) (λ_ _=>bQ _) (λ_ _ _ q=>q) (λ_ _ _=>rfl) (λ_=> .bl true) ?_ ?_
  .intro Q' q;left;rw[aG];exact q
  .intro k l Q' hk q;obtain⟨z,hz⟩:=dG7 (ys:=r) (i:=k) (by rw[aG];exact hk)
   rw[hz]at q⊢;left;exact⟨z,rfl,q⟩
  .left
   have e:(List.range r.length).map (λ_=>D.bl true)=(replicate r.length true).map D.bl:=by apply fG<;>simp
   rw[e,iI];right;have e2:(replicate r.length true).all id=true:=ae
   rw[e2];exact h
 left
 simp only[aG,Bool.not_true,decide_true,Bool.false_eq_true,fZ];exact two
def aS7:Φ:=λds Q=> ∃(i n:Nat) (t:Nat->∅) (f:∅),ds=[.tup<|tbF i n t,aN<|rwF i f]/\i<=n/\n<=8/\(∀r,r<i->0<t r r)/\(∀r j,(t r j).natAbs<=2^900)/\(∀j,(f j).natAbs<=2^900)/\Q (.pu<|aN<|rwF i<|gD t i f)
def aD6:US:=(bJ 2<|aR cC<|a8 (d5 [4] [none,none,some 4,none] 3 (dC5<|a8 (aC 2)<|a8 (uIx (aT 0)<|aC 3) aL) (rM<|fV 0<|fV 1 rL) (λρ Q=>Q true ρ)<|uOp M.gSub (aC 0)<|uOp dE (aC 2)<|aC 1) aL)
def v9:US:=(aU (bJ 4<|uOp aJ5 (uIx (aT 2)<|aC 3)<|uIx (uV<|uIx (aT 0)<|aC 3)<|aC 3) aD6)
def aX9:US:=(pB 2)
def aY0:US:=(aU (gW (cW3<|a8 (iH<|aT 1) aL) (bS 3) v9) aX9)
def aS8:US:=(aU (bJ 2<|aC 1) aY0)
theorem cS3: Ra aS7 aS8 ["t","r","l","i","m"]:=by
 rintro ds Q ⟨I,n,t,f,rfl,hI,n8,tp,tb,fb,h⟩;unfold aS8;show(aU _ _:US) _ [~~~.tup (tbF I n t),~~~aN (rwF I f),none,none,none];left;unfold aY0;rw[aM];refine bI I (λk=> .int (((I:Int))-1-k)) [~~~.tup (tbF I n t),~~~aN (rwF I f),~~~aN (rwF I f),none,none] ?_
  (λk ρ=> ∃g x y,ρ=[~~~.tup (tbF I n t),~~~aN (rwF I f),~~~aN (rwF I g),x,y]/\gD t (I-k) g=gD t I f/\ ∀j,(g j).natAbs<=2^(900+901*k)) ⟨f,none,none,rfl,rfl,λj=>fb j⟩ ?_ ?_
 .intro Q' q;simp only[aN];left;rw[bC];refine⟨⟨ad,ad⟩,?_⟩
  rw[bE];exact q
 .rintro k ρ hk ⟨g,x,y,rfl,hr,hb⟩;obtain⟨i,hi⟩: ∃i:Nat,i=I-1-k:=⟨_,rfl⟩;have hin:i<I:=ad
  have ei:(I:Int)-1-(k:Int)=(i:Int):=ad
  have hpos:=tp i hin;rw[ei];refine⟨ae,?_⟩
  show v9 _ [~~~.tup (tbF I n t),~~~aN (rwF I f),~~~aN (rwF I g),!(i:Int),y]
  unfold v9;rw[aM];have e1:atI ((rwF I g).map D.int) (i:Int)=some (.int<|g i):=fW hin;have e2:atI (tbF I n t) (i:Int)=some (.tup<|(rwF n<|t i).map .int):=a27 hin;have e3:atI ((rwF n<|t i).map D.int) (i:Int)=some (.int<|t i i):=fW ad
  simp only[aN];left;simp only[e1,e2,e3];rw[lB _ hpos];refine⟨⟨ad,yP (tb i i) ad⟩,?_⟩
  unfold aD6;rw[kA,dO,dM];refine aR9 (t0:=0) (t1:=1) I (λj=>((rwF I g).map D.int).getD j .non) (λj=>((rwF n<|t i).map D.int).getD j .non) [~~~.tup (tbF I n t),~~~.tup ((rwF I f).map .int),~~~.tup ((rwF I g).map .int),!(i:Int),!g i/t i i] ?_ ad
   (λx y l=>[x,y,!g i/t i i,↑l]) none none rfl (λ_ _ _ _ _=>rfl) (λ_ _ _=>⟨ae,ae⟩) (λ_ _ _ _ q=>q) (λ_ _ _ _=>rfl) (λj=> .int (jT t i g j)) ?_ ?_
  .intro Q' q;left;rw[e2];left;rw[bC,bC,kZ hI];exact q
  .intro j l Q' hj q;rw[iS hj,iS ad]at q⊢
   left
   refine⟨.inr ⟨yP (aH (tV _ _)<|hb i) ad,yP (tb i j) ac⟩,?_⟩
   exact q
  .left
   rw[lH];refine⟨jT t i g,_,_,rfl,?_,λj=> ?_⟩
   .rw[<-hr,show I-k=i+1 by lia,show I-(k+1)=i by lia]
    rfl
   .have:=aB8 (i:=i) (tb i) hb j;rw[show 900+901*(k+1)=900+901*k+901 by lia]
    exact this
 .rintro ρ ⟨g,x,y,rfl,hr,hb⟩;unfold aX9;left;rw[uI]at hr;have:g=gD t I f:=hr;rw[this];exact h
nonrec def w8 (n:Nat)(f:∅):Bool:=(rwF n f).all (· ==0)
def aS9:Φ:=λds Q=> ∃(n:Nat) (t:Nat->∅) (f:∅),ds=[.tup<|tbF n n t,aN<|rwF n f]/\n<=8/\(∀r,r<n->0<t r r)/\(∀r j,(t r j).natAbs<=2^900)/\(∀j,(f j).natAbs<=2^900)/\Q (.pu<|.bl<|w8 n<|gD t n f)
def aT0:US:=(d6<|cV9<|aR cX1<|a8 (aR aS7<|a8 (aC 0)<|a8 (aC 1) aL) aL)
theorem cS4: Ra aS9 aT0 ["i","x"]:=by
 rintro ds Q ⟨n,t,f,rfl,n8,tp,tb,fb,h⟩;unfold aT0;show(d6 _:US) _ [~~~.tup (tbF n n t),~~~aN (rwF n f)];left;refine⟨n,n,t,f,rfl,aK n,n8,tp,tb,fb,?_⟩;left;simp only[aN];rw[b30];left;have e:not ((rwF n<|gD t n f).any λx=>x != 0)=w8 n (gD t n f):=by
  unfold w8;rw[List.not_any_eq_all_not]
  congr 1
  funext x
  exact Bool.not_not _
 rw[e];exact h
structure a42 (e n:Nat)(t:Nat->∅):Prop where
 pos: ∀r,r<n->0<t r r
 zero: ∀i,i<n-> ∀j,i<j->t i j=0
 bd: ∀r j,(t r j).natAbs<=2^e
theorem absK (z:Int):(if z<0 then -z else z)=(z.natAbs:Int):=by split<;>lia
theorem d48 {v:∅}(n2:2<=n)(n4:n<=4)(hu: ∀j,n<=j->u j=0)(hv: ∀j,n<=j->v j=0):rwF n (tF p n u v)=rwF n (tF p n v u):=by
 rw[<-c60 n2 n4 hu hv,<-c60 n2 n4 hv hu,show conv u v n=conv v u n from funext λm=>d40 hu hv m]
nonrec def tnF:∅:=λj=>if j=1 then 1 else 0
theorem c65 {j:Nat}(n2:2<=n)(h:n<=j):tnF j=0:=a7 ad
theorem bX5 (e j:Nat):(tnF j).natAbs<=2^e:=aH (show(tnF j).natAbs<=1 by unfold tnF;split<;>decide) Nat.one_le_two_pow
theorem tim_tn (n2:2<=n)(n4:n<=4)(j:Nat):tF p n u tnF j=ttF p n u j:=by
 show((List.range n).map λi=>tnF i*itT p n u i j).sum=ttF p n u j
 match n,n2,n4 with
 | 2,_,_=>simp[cS,tnF,itT]
 | 3,_,_=>simp[cS,tnF,itT]
 | 4,_,_=>simp[cS,tnF,itT]
theorem ttF_cz (n1:1<=n){j:Nat}(hj:j<n):ttF p n (cz n u) j=ttF p n u j:=by
 unfold ttF cz;rw[aA<|show n-1<n by omega,aA<|show j-1<n by omega]
theorem tn_row (n2:2<=n)(n4:n<=4):rwF n (tF p n (cz n u) tnF)=rwF n (ttF p n u):=jJ λj hj=>by rw[tim_tn n2 n4,ttF_cz ad hj]
theorem dK2 (n2:2<=n)(n4:n<=4):rwF n (tF p n tnF<|cz n u)=rwF n (ttF p n u):=by
 rw[d48 n2 n4 (λj hj=>c65 n2 hj) λj hj=>cR9 hj,tn_row n2 n4]
theorem bX6 {s:Nat}(c:Nat)(hz:z=(c:Int))(n:Nat)(hn:n<=4)(hs:ρ[s]? =some (!(n:Int)))(h:Q (.pu<|aN<|rwF n λk=>if k=c then 1 else 0) ρ) :
  aR cC (a8 (d5 [] [none,none] 1 (fQ<|a8 (aC s) aL) (bS 0) (λρ Q=>Q true ρ)<|aR aA2<|a8 (uOp (fS false) (aC 0)<|uC<|.int z) aL) aL) ρ Q:=by
 subst hz;rw[dO,dM];refine cJ (t0:=0) n (λk=> .int (0+(k:Int))) ρ (λQ' q=> ?_) ad (λx l'=>[x,↑l']) none rfl (λ_ _ _=>rfl) (λ_ _=>bQ _) (λ_ _ _ q=>q) (λ_ _ _=>rfl) (λk=> .int (if k=c then 1 else 0)) ?_ ?_
 .unfold fQ;rw[dM,bE2 hs];left;refine⟨⟨ad,ad⟩,?_⟩
  rw[bE];exact q
 .intro k l' Q' hk q';rw[cF]at q'⊢;left
  by_cases e:k=c
  .subst e
   exists q'
  .rw[a7 e]at q';rw[a7<|show ¬(k:Int)=(c:Int)by lia]
   exact q'
 .rw[lH];exact h
theorem cG4 (i n:Nat)(t:Nat->∅):tbF i n t++[aN<|rwF n<|t i]=tbF (i+1) n t:=by
 unfold tbF;rw[cS,bT];rfl
def aY1:Φ:=λds Q=> ∃(p:List Int) (n e:Nat) (u:∅),ds=[aN p,aN<|rwF n u]/\eO p/\p.length=n+1/\e<=1900/\(∀j,(u j).natAbs<=2^e)/\Q (.ow<|tbF n n<|itT p n u)
def bX7:US:=(pB 4)
def bX8:US:=(aU (gW (fQ<|a8 (aC 2) aL) (bS 6)<|aU (aR4 4<|aC 5)<|bJ 5<|aR aD3<|a8 (aC 0)<|a8 (aC 3)<|a8 (aC 5) aL) bX7)
def bX9:US:=(aU (bJ 5<|aR cC<|a8 (aC 1) aL) bX8)
def b52:US:=(aU (bJ 4<|fL aL) bX9)
def b53:US:=(aU (bJ 3<|aR cC<|a8 (d5 [] [none,none] 1 (fQ<|a8 (aC 2) aL) (bS 0) (λρ Q=>Q true ρ)<|aR aA2<|a8 (uOp (fS false) (aC 0)<|@1) aL) aL) b52)
def bL2:US:=(aU (bJ 2<|uOp M.gSub (iH<|aT 0)<|@1) b53)
theorem dK3: Ra aY1 bL2 ["p","x","m","t","r","w","k"]:=by
 rintro ds Q ⟨p,n,e,u,rfl,rp,hn,he,hu,h⟩;have lo:=rp.ok.lo;have hi:=rp.ok.hi;have n2:2<=n:=ad
 have n4:n<=4:=ad
 unfold bL2;show(aU _ _:US) _ [~~~.tup (p.map .int),~~~aN (rwF n u),none,none,none,none,none];rw[aM];left;rw[aG,show(p.length:Int)-1=(n:Int)by lia]
 change b53 _ [~~~aN p,~~~aN (rwF n u),!(n:Int),none,none,none,none]
 unfold b53;rw[aM,kA];refine bX6 1 rfl n n4 rfl ?_;show b52 _ [~~~aN p,~~~aN (rwF n u),!(n:Int),~~~aN (rwF n tnF),none,none,none];unfold b52;rw[aM];left;refine⟨ac,?_⟩
 unfold bX9;rw[aM];simp only[aN];left;unfold bX8;rw[aM];refine bI n (λi=> .int (0+(i:Int))) [~~~aN p,~~~aN (rwF n u),!(n:Int),~~~aN (rwF n tnF),↑(tbF 0 n (itT p n u)),~~~aN (rwF n (itT p n u 0)),none] (λQ' q=> ?_)
  (λi ρ=> ∃x,ρ=[~~~aN p,~~~aN (rwF n u),!(n:Int),~~~aN (rwF n tnF),↑(tbF i n (itT p n u)),~~~aN (rwF n (itT p n u i)),x]) ⟨none,rfl⟩ ?_ ?_
 .left
  refine⟨⟨ad,ad⟩,?_⟩
  rw[bE];exact q
 .rintro i ρ hi' ⟨x,rfl⟩;left;rw[oK];refine⟨ac,b9 (show i<10 by lia) ac,p,n,e+27,tnF,cz n<|itT p n u i,?_,rp,hn,ad,λj=>bX5 _ j,?_,λj hj=>c65 n2 hj,λj hj=>cR9 hj,?_⟩
  .rw[dJ6]
  .exact cF5 λj=>aH (aI4 (n:=n) rp.ok.small hu i j) (cN ac ad)
  .rw[dK2 n2 n4,cG4];exact⟨_,rfl⟩
 .rintro ρ ⟨x,rfl⟩;right;unfold bX7;left;exact h
def lJ (n:Nat):Φ:=λds Q=> ∃t:List (List Int),ds=[.lst<|t.map aN]/\Sq n t/\Q (.pu<|.int<|mW n t)
def cS5 (lJ:Φ):US:=(aU (fU (cU<|uOp (fS false) (iH<|aT 0)<|@1) (d6<|uIx (uV<|uIx (aT 0)<|@0)<|@0) dN)<|aU (bJ 1<|@0)<|aU (gW (fQ<|a8 (iH<|aT 0) aL) (bS 2)<|aU (bJ 3<|d5 [] [none,none] 1 (dS<|uOp eB (uSl (aT 0) jE<|mJ<|aC 2)<|uSl (aT 0) (mJ<|uOp eB (aC 2)<|@1) jE) (bS 0) (λρ Q=>Q true ρ)<|uSl (aT 0) (mJ<|@1) jE)<|bJ 1<|uOp eB (aC 1)<|uOp dE (uOp dE (uOp M.gSub @1<|uOp dE @2<|uOp kP (aC 2)<|@2)<|uIx (uV<|uIx (aT 0)<|aC 2)<|@0)<|aR lJ<|a8 (aC 3) aL)<|pB 1)
theorem bE3 (n:Nat): ∀ds Q,lJ n ds Q->ds.length=1:=by rintro ds Q ⟨a,rfl,_⟩;rfl
theorem dK4: ∀ds Q,¬lJ 0 ds Q:=by
 rintro ds Q ⟨t,rfl,sq,_⟩;have:=sq.pos;have:=sq.le
 lia
theorem c66 (n:Nat)(hn:n<4): ∀ds Q,lJ (n+1) ds Q->cS5 (lJ n) {Q with} (init ["t","o","i","m"] ds):=by
 rintro ds Q ⟨t,rfl,sq,h⟩;have hp:=sq.pos;have hle:=sq.le;have lt:(t.map aN).length=t.length:=aG _;have lrow: ∀i,i<t.length->0< (t.getD i []).length:=λi hi=>by
  rw[aO,aS hi];have:=sq.row _ (cE hi);show 0< (t[i]).length
  lia
 unfold cS5;show(aU _ _:US) _ [~~~.lst (t.map aN),none,none,none];left;rw[lt];split
 .rename_i h1
  have h1':t.length=1:=ad
  have:=bE0 (t:=t) (i:=0) ad
  rw[show(0:Int)+((0:Nat):Int)=0 from rfl]at this
  rw[this];simp only[aN];rw[aB5<|lrow 0 ad]
  unfold mW at h;rw[aA h1']at h;exact h
 .rename_i h1
  have h1':t.length≠1:=ad
  unfold mW at h;rw[a7 h1']at h;refine bI t.length (λi=> .int (0+i)) [~~~.lst (t.map aN),!0,none,none] ?_ (λi ρ=> ∃x y,ρ=[~~~.lst (t.map aN),some<|.pu<|.int ((List.range i).map λi=>(if i%2=0 then 1 else -1)*(t.getD i []).getD 0 0*mW n ((t.eraseIdx i).map List.tail)).sum,x,y]) ?_ ?_ ?_
  .intro Q' q;simp only[fQ];left;rw[lt];refine⟨⟨ad,ad⟩,?_⟩
   rw[bE];exact q
  .exact⟨none,none,rfl⟩
  .rintro i ρ hi ⟨x,y,rfl⟩;rw[cF];refine⟨ae,?_⟩
   dsimp only[set_cons_zero,set_cons_succ];rw[aM,kA];refine bI3 hi ad (λr hr=>by rw[sq.row r hr];exact hp) (λQ' q=> ?_) ?_
   .simp only[dS];left;rw[<-cB,cE3 hi];exact⟨aH (show _<=2000 by rw[aG,zJ hi];lia) ac,q⟩
   left
   have ai:=bE0 hi;rw[cF]at ai;rw[ai,dD _ ad]
   simp only[aN];rw[aB5<|lrow i hi];have e1:1-2*((i:Int)%2)=(if i%2=0 then(1:Int)else -1):=by
    split<;>lia
   have eg:t.getD i []=t[i]:=by rw[aO,aS hi];rfl
   have en:((t.getD i []).getD 0 0).natAbs<=2^2000:=by
    have h0:=lrow i hi;rw[eg]at h0⊢;rw[aO,aS h0];exact nQ (sq.small _ (cE hi) _<|cE h0)
   have se:Sm ((t.getD i []).getD 0 0):=Sm.pow en ac
   have sg:Sm (if i%2=0 then(1:Int)else -1):=by split<;>exact b38 ac ac
   have sp:Sm ((if i%2=0 then(1:Int)else -1)*(t.getD i []).getD 0 0):=by
    refine Sm.pow (k:=2000) ?_ ac
    rw[dW];have e1:(if i%2=0 then(1:Int)else -1).natAbs=1:=by split<;>rfl
    rw[e1,uJ];exact en
   have sd:Sm (mW n<|(t.eraseIdx i).map List.tail):=Sm.pow (b41 n _ ad<|sq.less h1' hi) ad
   have sm:Sm ((i:Int)%2):=b38 ad ad
   rw[e1];refine⟨ac,.inr ⟨b38 ac ac,sm⟩,.inr ⟨sg,se⟩,(t.eraseIdx i).map List.tail,rfl,sq.less h1' hi,.inr ⟨sp,sd⟩,?_⟩
   rw[cS,bT,aR2];simp
  .rintro ρ ⟨x,y,rfl⟩;left;exact h
theorem gcd_fm (g l:Int):l.gcd (g.fmod l)=g.gcd l:=by
 rw[Int.fmod_def,Int.gcd_comm g l];simp
theorem fm_lt (g l:Int)(h:l≠0):(g.fmod l).natAbs<l.natAbs:=by
 rw[Int.fmod_eq_emod];have a:=d8 g h;have b:=Int.emod_lt g h;split
 .lia
 .rename_i c
  have: ¬g%l=0:=λz=>c (.inr<|Int.dvd_of_emod_eq_zero z)
  lia
def tP:Φ:=λds Q=> ∃a b:Int,ds=[.int a,.int b]/\Q (.pu<|.int (a.gcd b:Nat))
def b54:US:=(aU (b23 (cU<|uOp (fS true) (aC 1)<|@0)<|uPar 0 1<|a8 (aC 1)<|a8 (uOp kP (aC 0)<|aC 1) aL)<|d6<|aR cN6<|a8 (aC 0) aL)
theorem d49: Ra tP b54 ["a","b"]:=by
 rintro ds Q ⟨a,b,rfl,h⟩;unfold b54;show(aU _ _:US) _ [!a,!b];refine⟨λn ρ=> ∃g l:Int,ρ=[!g,!l]/\n=l.natAbs/\g.gcd l=a.gcd b,⟨_,_,_,rfl,rfl,rfl⟩,?_⟩
 rintro n ρ ⟨g,l,rfl,rfl,e⟩;left;split
 .rename_i hl
  have hl':l≠0:=by exists hl
  exact⟨hl',_,fm_lt g l hl',_,_,rfl,rfl,(gcd_fm g l).trans e⟩
 .rename_i hl
  have hl':l=0:=by exists hl
  subst hl';rw[Int.gcd_zero_right]at e;rw[absK,e];exact h
def bL3:Φ:=λds Q=> ∃(n a b:Nat) (f:∅) (z:Int),ds=[aN<|rwF n f,.int z]/\dI3 n a b f z/\Q (.pu<|.int<|ps f z n)
def bL4:US:=(aU (bJ 2<|@0)<|aU (gW (cW5<|a8 (aC 0) aL) (bS 3)<|bJ 2<|uOp eB (uOp dE (aC 2)<|aC 1)<|aC 3)<|pB 2)
theorem dK5: Ra bL3 bL4 ["f","z","v","c"]:=by
 rintro ds Q ⟨n,a,b,f,z,rfl,ok,h⟩;unfold bL4;simp only[aN];show(aU _ _:US) _ [~~~.tup ((rwF n f).map .int),!z,none,none];left;refine bI n (λk=>((rwF n f).map D.int).getD (n-1-k) .non) [~~~.tup ((rwF n f).map .int),!z,!0,none] ?_
  (λk ρ=> ∃c,ρ=[~~~.tup ((rwF n f).map .int),!z,!hor f n z k,c]) ⟨none,rfl⟩ ?_ ?_
 .intro Q' q;left;rw[bC];exact q
 .rintro k ρ hk ⟨c,rfl⟩;rw[iS ad]
  left
  have room:=ok.room;have:(b+1)*k<=(b+1)*n:=u6 _ ad
  exact⟨ae,.inr ⟨Sm.pow (aI3 ok.fb ok.zb k) ad,Sm.pow ok.zb (by have:=ok.b8;lia)⟩,_,rfl⟩
 .rintro ρ ⟨c,rfl⟩;left;rw[c53];exact h
theorem b55 {u:Nat->∅}(h: ∀i,i<n-> ∀j,j<m->t i j=u i j):tbF n m t=tbF n m u:=by
 apply u5
 intro i hi;rw[jJ λj hj=>h i (bZ.mp hi) j hj]
nonrec def bR6 (r q:Int):∅
 | 0=>1
 | i+1=>bR6 r q i*r%q
nonrec def knT (q r:Int):Nat->∅:=λi j=>if i=0 then(if j=0 then q else 0)else if j=0 then(-bR6 r q i)%q else if j=i then 1 else 0
nonrec def knD (n:Nat)(q r:Int):D:= .tup (tbF n n<|knT q r)
def bL5:Φ:=λds Q=> ∃(n:Nat) (q r:Int),ds=[.int (n:Int),.int q,.int r]/\1<=n/\n<=4/\1<=q/\r.natAbs<=2^30/\Q (.pu<|knD n q r)
def bY0:US:=(d6<|aR cC<|a8 (aC 3) aL)
def bY1:US:=(aU (gW (fQ<|a8 (aC 0) aL) (bS 5)<|aU (bJ 6<|uOp dE (fL<|a8 @0 aL)<|aC 0)<|aU (fU (cU<|uOp (fS false) (aC 5)<|@0) (vU 6 (aC 1)<|@0)<|aU (bJ 4<|uOp kP (uOp dE (aC 4)<|aC 2)<|aC 1)<|aU (vU 6 (uOp kP (mM<|aC 4)<|aC 1)<|@0)<|vU 6 @1<|aC 5)<|aR4 3<|aR cC<|a8 (aC 6) aL) bY0)
def bL6:US:=(aU (bJ 3<|fL aL)<|aU (bJ 4<|@1) bY1)
theorem dK6: Ra bL5 bL6 ["m","p","r","o","f","i","w"]:=by
 rintro ds Q ⟨n,q,r,rfl,n1,n4,q2,r1,h⟩;unfold bL6;show(aU _ _:US) _ [!(n:Int),!q,!r,none,none,none,none];left;refine⟨ac,?_⟩
 unfold bY1;rw[aM];refine bI n (λk=> .int (0+(k:Int))) [!(n:Int),!q,!r,↑[],!1,none,none] (λQ' q'=> ?_)
  (λk ρ=> ∃x y,ρ=[!(n:Int),!q,!r,↑(tbF k n (knT q r)),!bR6 r q (k-1),x,y]) ⟨none,none,rfl⟩ ?_ ?_
 .left
  refine⟨⟨ad,ad⟩,?_⟩
  rw[bE];exact q'
 .rintro k ρ hk ⟨x,y,rfl⟩;rw[cF];left;rw[bE,aI2];refine⟨ac,ac,⟨ad,ad,aH (show(0+1)*n<=10 by lia) ac⟩,?_⟩
  have x0:ixN n 0=some 0:=by unfold ixN;simp;lia
  have xk:ixN n (k:Int)=some k:=by unfold ixN;simp;lia
  have ln:(tbF k n<|knT q r).length<sizeLine:=b9 (show(tbF k n<|knT q r).length<10 by rw[oK];lia) ac
  by_cases c:k=0
  .subst c;rw[aA<|by rfl,bC,x0]
   right;rw[tD ad]
   have e:tbF 0 n (knT q r)++[aN<|rwF n λx=>if x=0 then q else 0]=tbF (0+1) n (knT q r):=by
    rw[cE4];refine b55 λi hi j hj=> ?_
    have:i=0:=ad
    subst this;rfl
   rw[show tbF 0 n (knT q r)++[D.tup<|(rwF n λx=>if x=0 then q else 0).map D.int]=_ from e]
   exact⟨ln,_,_,rfl⟩
  .rw[a7 ad]
   have ek:bR6 r q (k-1)*r%q=bR6 r q k:=by
    obtain⟨m,rfl⟩: ∃m,k=m+1:=⟨k-1,ad⟩
    rfl
   refine⟨cmR ad ad,ad,ad,?_⟩
   rw[dD (bR6 r q (k-1)*r) ad,ek,dD _ ad,bC,x0]
   right;rw[tD ad,bC,xk]
   right;rw[tD ad]
   have e:tbF k n (knT q r)++[aN<|rwF n λx=>if x=k then 1 else if x=0 then(-bR6 r q k)%q else 0]=tbF (k+1) n (knT q r):=by
    rw[cE4];refine b55 λi hi j hj=> ?_
    by_cases w:i=k
    .rw[aA w,w];unfold knT;rw[a7 c]
     by_cases z:j=0
     .rw[a7 ad,aA z,aA z]
     .rw[a7 z,a7 z]
    .rw[a7 w]
   rw[show tbF k n (knT q r)++[D.tup<|(rwF n λx=>if x=k then 1 else if x=0 then(-bR6 r q k)%q else 0).map D.int]=_ from e]
   exact⟨ln,_,_,rfl⟩
 .rintro ρ ⟨x,y,rfl⟩;right;unfold bY0;left;exact h
def clT (n:Nat)(T:Nat->∅):Nat->∅:=λi j=>if i<n/\j<n then T i j else 0
theorem dK7 (n:Nat)(T:Nat->∅):tbF n n T=tbF n n (clT n T):=b55 λi hi j hj=>by unfold clT;rw[aA ⟨hi,hj⟩]
theorem clT_ok (h1: ∀i,i<n->1<=T i i)(h2: ∀i,i<n-> ∀j,j<n->i<j->T i j=0)(h3: ∀i,i<n-> ∀j,j<n->(T i j).natAbs<=2^e):a42 e n (clT n T):=by
 refine⟨λr hr=> ?_,λi hi j hj=> ?_,λr j=> ?_⟩
 .unfold clT;have:=h1 r hr
  lia
 .unfold clT;split
  .rename_i c
   exact h2 i hi j c.2 hj
  .rfl
 .unfold clT;split
  .rename_i c
   exact h3 r c.1 j c.2
  .exact eH _
theorem e23 {r:Int}(q1:1<=q)(q2:q<=2^60):a42 60 n (clT n<|knT q r):=by
 have em: ∀i,0<=(-bR6 r q i)%q/\(-bR6 r q i)%q<q:=λi=>⟨d8 _ ad,dG _ ad⟩
 have lt:(2:Nat)^60<=2^60:=cN ac ac
 refine clT_ok (λi hi=> ?_) (λi hi j hj h=> ?_) λi hi j hj=> ?_
 .unfold knT;split
  .exact q1
  .rw[aA rfl];decide
 .unfold knT;rw[a7<|show ¬j=0 by lia,a7<|show ¬j=i by lia]
  split
  .rfl
  .rw[a7<|show ¬j=0 by lia]
 .refine aH (show(knT q r i j).natAbs<=2^60 from ?_) lt
  unfold knT;have:=em i;split
  .split
   .lia
   .decide
  .split
   .lia
   .split<;>decide
nonrec def c67 (p:List Int)(n:Nat)(A B:Nat->∅)(k:Nat):List (List Int):=(List.range k).flatMap λi=>(List.range n).map λj=>rwF n (tF p n (A i)<|B j)
theorem bY2 (p:List Int)(n:Nat)(A B:Nat->∅)(k:Nat):c67 p n A B (k+1)=c67 p n A B k++(List.range n).map λj=>rwF n (tF p n (A k)<|B j):=by
 unfold c67;rw[cS];simp
theorem cG5 (p:List Int)(n:Nat)(A B:Nat->∅): ∀k,(c67 p n A B k).length=k*n
 | 0=>by unfold c67;simp
 | k+1=>by rw[bY2,cB,cG5 p n A B k,aG,jY,Nat.add_mul,uJ]
def aT1:Φ:=λds Q=> ∃(p:List Int) (n:Nat) (A B:Nat->∅),ds=[aN p,.tup<|tbF n n A,.tup<|tbF n n B]/\eO p/\p.length=n+1/\(∀i j,(A i j).natAbs<=2^60)/\(∀i j,(B i j).natAbs<=2^60)/\(∀i,i<n-> ∀j,n<=j->A i j=0)/\(∀i,i<n-> ∀j,n<=j->B i j=0)/\1<=A 0 0/\1<=B 0 0/\ ∀T,a42 500 n T->Q (.pu<|.tup<|tbF n n T)
def aY2:US:=(d6<|aR aX3<|a8 (uOp M.gSub (iH<|aT 0)<|@1)<|a8 (uOp dE (uIx (uV<|uIx (aT 1)<|@0)<|@0)<|uIx (uV<|uIx (aT 2)<|@0)<|@0)<|a8 (aC 3) aL)
def aY3:US:=(aU (gW (dS<|aC 1) (bS 4)<|bJ 3<|uOp eB (aC 3)<|d5 [0,4] [none,some 0,some 4,none] 3 (dS<|aC 2) (bS 0) (λρ Q=>Q true ρ)<|aR aD3<|a8 (aC 1)<|a8 (aC 2)<|a8 (aC 0) aL) aY2)
def aT2:US:=(aU (bJ 3<|fL aL) aY3)
theorem cS6: Ra aT1 aT2 ["p","a","b","r","x"]:=by
 rintro ds Q ⟨p,n,A,B,rfl,rp,hn,hA,hB,zA,zB,a1,b1,h⟩;have lo:=rp.ok.lo;have hi:=rp.ok.hi;unfold aT2;show(aU _ _:US) _ [~~~aN p,~~~.tup (tbF n n A),~~~.tup (tbF n n B),none,none];rw[aM];left;refine⟨ac,?_⟩
 unfold aY3;rw[aM];refine bI n (λi=>(tbF n n A).getD i .non) [~~~aN p,~~~.tup (tbF n n A),~~~.tup (tbF n n B),↑[],none] (λQ' q=> ?_) (λk ρ=> ∃x,ρ=[~~~aN p,~~~.tup (tbF n n A),~~~.tup (tbF n n B),↑((c67 p n A B k).map aN),x]) ⟨none,rfl⟩ ?_ ?_
 .left
  rw[oK];exact q
 .rintro k ρ hk ⟨x,rfl⟩;rw[yQ hk];refine⟨ae,?_⟩
  show(bJ 3 (uOp eB (aC 3) _):US) _ [~~~aN p,~~~.tup (tbF n n A),~~~.tup (tbF n n B),↑((c67 p n A B k).map aN),~~~aN (rwF n (A k))]
  rw[kA,c49,dV5 rfl]
  refine cJ (t0:=0) n (λj=>(tbF n n B).getD j .non) [~~~aN p,~~~.tup (tbF n n A),~~~.tup (tbF n n B),~~~.lst ((c67 p n A B k).map aN),~~~aN (rwF n (A k))] (λQ' q=> ?_) ad (λx l=>[x,~~~aN p,~~~aN (rwF n (A k)),↑l]) none rfl (λ_ _ _=>rfl) (λ_ _=>bQ _) (λ_ _ _ q=>q) (λ_ _ _=>rfl) (λj=>aN (rwF n<|tF p n (A k)<|B j)) ?_ ?_
  .left
   rw[oK];exact q
  .intro j l Q' hj q;rw[yQ hj]at q⊢;left;exact⟨p,n,60,A k,B j,rfl,rp,hn,ac,hA k,hB j,zA k hk,zB j hj,q⟩
  .rw[show(List.range n).map (λj=>aN (rwF n<|tF p n (A k)<|B j))=((List.range n).map λj=>rwF n (tF p n (A k)<|B j)).map aN by rw[dZ];rfl]
   left
   rw[<-bT,<-bY2];have:=cG5 p n A B k;refine⟨?_,_,rfl⟩;rw[aG,aG,aG,jY,this];have:k*n<=4*4:=fJ ad ad
   exact aH (show k*n+n<=20 by lia) ac
 .rintro ρ ⟨x,rfl⟩;try right
  unfold aY2;have e1:atI (tbF n n A) 0=some (aN<|rwF n<|A 0):=a27 (i:=0) ad
  have e2:atI (tbF n n B) 0=some (aN<|rwF n<|B 0):=a27 (i:=0) ad
  have e3: ∀f:∅,atI ((rwF n f).map D.int) 0=some (.int<|f 0):=λf=>fW (i:=0) ad
  simp only[aN]at e1 e2⊢;left;rw[e1,e2];right;rw[e3,e3];right;have ha:=hA 0 0;have hb:=hB 0 0;have m2:A 0 0*B 0 0<=2^500:=pY (a02 (show A 0 0<=2^60 by lia) (show B 0 0<=2^60 by lia) ad ac) af
  refine⟨cmR ad ad,n,A 0 0*B 0 0,c67 p n A B n,?_,ad,ad,?_,m2,λl hl=> ?_,λT S b=>h _ ⟨λr hr=>S.pos r hr,S.zero,b⟩⟩
  .rw[aG,hn,show((n+1:Nat):Int)-1=(n:Int)by lia]
  .exact uK ad ad
  .obtain⟨i,_,hl⟩:=List.mem_flatMap.mp hl;obtain⟨j,_,rfl⟩:=bU.mp hl;exact n6 _ _
theorem con2 (a b m:Int):nrm [a,b,1] 2 (v8 m)=m*m:=by
 unfold nrm;rw[det_2];simp[itT,ttF,v8]
theorem con3 (a b c m:Int):nrm [a,b,c,1] 3 (v8 m)=m*m*m:=by
 unfold nrm;rw[det_3];simp[itT,ttF,v8]
 grind
theorem con4 (a b c d m:Int):nrm [a,b,c,d,1] 4 (v8 m)=m*m*m*m:=by
 unfold nrm;rw[det_4];simp[itT,ttF,v8]
 grind
theorem dX6 (rp:eO p)(hn:p.length=n+1){m:Int}(m1:1<=m)(m2:m<=2^60):1<=nrm p n (v8 m)/\nrm p n (v8 m)<=2^500:=by
 have e: ∀{a b:Int} {k:Nat},1<=a->a<=2^k->1<=b->b<=2^60->1<=a*b/\a*b<=2^(k+60):=λ{a b k} a1 a2 b1 b2=>by
  refine⟨uK a1 b1,?_⟩
  rw[Int.pow_add];exact a02 a2 b2 ad (le_of_lt<|Int.pow_pos ac)
 have e2:=e m1 m2 m1 m2;have e3:=e e2.1 e2.2 m1 m2;have e4:=e e3.1 e3.2 m1 m2;rcases rp.cases with⟨x,y,rfl,_⟩| ⟨x,y,z,rfl,_⟩| ⟨x,y,z,w,rfl,_⟩
 .have h:3=n+1:=hn;obtain rfl:n=2:=ad
  rw[con2];exact⟨e2.1,pY e2.2 af⟩
 .have h:4=n+1:=hn;obtain rfl:n=3:=ad
  rw[con3];exact⟨e3.1,pY e3.2 af⟩
 .have h:5=n+1:=hn;obtain rfl:n=4:=ad
  rw[con4];exact⟨e4.1,pY e4.2 af⟩
theorem c68 (n:Nat)(t:Nat->∅):tbF n n t=(tbL n t).map aN:=by
 unfold tbL tbF;rw[dZ];rfl
def twoW (u v:∅)(k:Nat):∅:=if k=0 then u else v
nonrec def gcM (p:List Int)(n:Nat)(w:Nat->∅):∅
 | 0=>0
 | k+1=>((gcM p n w k).gcd (nrm p n<|w k):Nat)
nonrec def c69 (p:List Int)(n:Nat)(w:Nat->∅):Nat->List (List Int)
 | 0=>[]
 | k+1=>c69 p n w k++tbL n (itT p n<|w k)
theorem cG6 (p:List Int)(n:Nat)(w:Nat->∅): ∀k,(c69 p n w k).length=k*n
 | 0=>by show 0=_;rw[Nat.zero_mul]
 | k+1=>by
  show(c69 p n w k++_).length=_
  rw[cB,cG6 p n w k,tG,Nat.add_mul,uJ]
theorem cG7 {p:List Int}{n:Nat}{w:Nat->∅}: ∀{k:Nat} {l:List Int},l∈c69 p n w k-> ∃i,∃r<n,l=rwF n (itT p n (w i) r)
 | 0,l,h=>absurd h (by unfold c69;simp)
 | k+1,l,h=>by
  rcases cR.mp (show l∈c69 p n w k++tbL n (itT p n<|w k)from h)with z|z
  .exact cG7 z
  .obtain⟨i,hi,rfl⟩:=bU.mp z;exact⟨k,i,bZ.mp hi,rfl⟩
def bE4:Φ:=λds Q=> ∃(p:List Int) (n:Nat) (u:∅) (m:Int),ds=[aN p,.lst [aN<|rwF n u,aN<|rwF n<|v8 m]]/\eO p/\p.length=n+1/\(∀j,(u j).natAbs<=2^60)/\1<=m/\m<=2^60/\ ∀T,a42 500 n T->Q (.pu<|.tup<|tbF n n T)
def b89:US:=(bJ 3<|uOp eB (aC 3)<|aC 5)
def b90:US:=(aU (bJ 2<|aR tP<|a8 (aC 2)<|a8 (aR (lJ 4)<|a8 (aC 5) aL) aL) b89)
def aD7:US:=(aU (bJ 5<|aR aY1<|a8 (aC 0)<|a8 (aC 4) aL) b90)
def bY3:US:=(d6<|aR aX3<|a8 (uOp M.gSub (iH<|aT 0)<|@1)<|a8 (aC 2)<|a8 (aC 3) aL)
def bY4:US:=(aU (gW (dS<|aC 1) (bS 4) aD7) bY3)
def bY5:US:=(aU (bJ 3<|fL aL) bY4)
def c70:US:=(aU (bJ 2<|@0) bY5)
theorem dX7: Ra bE4 c70 ["p","a","m","r","x","t"]:=by
 rintro ds Q ⟨p,n,u,m,rfl,rp,hn,hu,m1,m2,h⟩;have lo:=rp.ok.lo;have hi:=rp.ok.hi;obtain⟨w,ew⟩: ∃w,w=twoW u (v8 m):=⟨_,rfl⟩;have w0:w 0=u:=by rw[ew];rfl
 have w1:w 1=v8 m:=by rw[ew];rfl
 have hw: ∀k j,(w k j).natAbs<=2^60:=λk j=>by
  rw[ew];unfold twoW;split
  .exact hu j
  .unfold v8;split
   .lia
   .decide
 have hT: ∀k i j,i<n->(itT p n (w k) i j).natAbs<=2^96:=λk i j hi=>aH (aI4 (n:=n) rp.ok.small (hw k) i j) (cN ac ad)
 have it: ∀k,k<2->[aN<|rwF n u,aN<|rwF n<|v8 m].getD k .non=aN (rwF n<|w k):=λk hk=>by
  rcases(show k=0\/k=1 by lia)with rfl|rfl
  .rw[w0];rfl
  .rw[w1];rfl
 unfold c70;show(aU _ _:US) _ [~~~aN p,~~~.lst [aN<|rwF n u,aN<|rwF n<|v8 m],none,none,none,none];rw[aM];left;unfold bY5;rw[aM];left;refine⟨ac,?_⟩
 unfold bY4;rw[aM];refine bI 2 (λk=>[aN<|rwF n u,aN<|rwF n<|v8 m].getD k .non) [~~~aN p,~~~.lst [aN<|rwF n u,aN<|rwF n<|v8 m],!0,↑[],none,none] (λQ' q=> ?_) (λk ρ=> ∃x y,ρ=[~~~aN p,~~~.lst [aN<|rwF n u,aN<|rwF n<|v8 m],!gcM p n w k,↑((c69 p n w k).map aN),x,y]) ⟨none,none,rfl⟩ ?_ ?_
 .left
  exact q
 .rintro k ρ hk ⟨x,y,rfl⟩;rw[it k hk];refine⟨ae,?_⟩
  show aD7 _ [~~~aN p,~~~.lst [aN<|rwF n u,aN<|rwF n<|v8 m],!gcM p n w k,↑((c69 p n w k).map aN),~~~aN (rwF n (w k)),y]
  unfold aD7;rw[aM];left;refine⟨p,n,60,w k,rfl,rp,hn,ac,hw k,?_⟩
  try right
  unfold b90;rw[aM];left;refine⟨tbL n<|itT p n<|w k,by rw[c68],dJ7 (e:=96) ad ad ac<|hT k,?_⟩
  try right
  refine⟨gcM p n w k,nrm p n<|w k,rfl,?_⟩
  try right
  unfold b89;left;rw[c68,<-bT];refine⟨?_,_,_,rfl⟩;rw[aG,aG,cG6,tG];have:k*n<=2*4:=fJ ad ad
  exact aH (show k*n+n<=20 by lia) ac
 .rintro ρ ⟨x,y,rfl⟩;try right
  unfold bY3;simp only[aN];left;obtain⟨c1,c2⟩:=dX6 rp hn m1 m2;have dv:gcM p n w 2∣nrm p n (v8 m):=by
   rw[<-w1];exact aQ3 _ _
  have g1:1<=gcM p n w 2:=by
   have:0<=gcM p n w 2:=zT _;have z:gcM p n w 2≠0:=λz=>by
    rw[z]at dv;have:=Int.zero_dvd.mp dv
    lia
   lia
  have g2:gcM p n w 2<=2^500:=pY (a08 ad dv) c2
  refine⟨n,gcM p n w 2,c69 p n w 2,?_,ad,ad,g1,g2,λl hl=> ?_,λT S b=>h _ ⟨λr hr=>S.pos r hr,S.zero,b⟩⟩
  .rw[aG,hn,show((n+1:Nat):Int)-1=(n:Int)by lia]
  .obtain⟨i,r,_,rfl⟩:=cG7 hl;exact n6 _ _
def idW (n:Nat):List Int:=[4,12,401,401,10000,10000,3]++replicate n 201
structure IdD (n:Nat)(a0 a1 a2 a3 a4 a5 a6:Int)(zs:List Int):Prop where
 b1:0<=a1/\a1<12
 b2:0<=a2/\a2<401
 b3:0<=a3/\a3<401
 b4:0<=a4/\a4<10000
 b5:0<=a5/\a5<10000
 b6:0<=a6/\a6<3
 bz: ∀x∈zs,0<=x/\x<201
 lz:zs.length=n
theorem id_of (h:Below xs (idW n)): ∃a0 a1 a2 a3 a4 a5 a6 zs,xs=a0::a1::a2::a3::a4::a5::a6::zs/\IdD n a0 a1 a2 a3 a4 a5 a6 zs:=by
 have hl:xs.length=n+7:=by rw[h.1];unfold idW;simp
 have rp: ∀j,j<n->(idW n)[7+j]? =some 201:=λj hj=>by
  unfold idW;rw[jW ae]
  simp[hj]
 rcases xs with _| ⟨a0,_| ⟨a1,_| ⟨a2,_| ⟨a3,_| ⟨a4,_| ⟨a5,_| ⟨a6,zs⟩⟩⟩⟩⟩⟩⟩<;>simp only[dP,nN]at hl<;>first| (exfalso;lia)|skip
 refine⟨a0,a1,a2,a3,a4,a5,a6,zs,rfl,h.2 1 a1 12 rfl rfl,h.2 2 a2 401 rfl rfl,h.2 3 a3 401 rfl rfl,h.2 4 a4 10000 rfl rfl,h.2 5 a5 10000 rfl rfl,h.2 6 a6 3 rfl rfl,λx hx=> ?_,ad⟩
 obtain⟨i,hi,rfl⟩:=List.getElem_of_mem hx;exact h.2 (7+i) _ 201 (by rw[show 7+i=i+7 by lia];simp[hi]) (rp i ad)
def idL (a0 a1 a2 a3 a4 a5 a6:Int)(zs:List Int):List D:= .int a0:: .int a1:: .int a2:: .int a3:: .int a4:: .int a5:: .int a6::zs.map .int
def bL7:Φ:=λds Q=> ∃(p:List Int) (n:Nat) (c q:Int),ds=[aN p,.int c,.int q]/\eO p/\p.length=n+1/\NoZ p/\0<q/\ ∀T,a42 600 n T->Q (.pu<|.tup<|tbF n n T)
def a44:US:=(aR4 6<|aR bL5<|a8 (aC 3)<|a8 (aC 9)<|a8 (aC 8) aL)
def aY4:US:=(aU (fU (cU<|uOp (mT λi j=>decide (j<i)) (uOp kP (uIx (aT 4)<|uOp eB @4<|aC 7)<|@4)<|@0) (bJ 9<|aR tP<|a8 (aC 9)<|a8 (uOp dE (aC 5)<|uOp eB @1<|uOp aJ5 (uIx (aT 4)<|uOp eB @4<|aC 7)<|@4) aL) dN) a44)
def aY5:US:=(aU (bJ 9<|aR cN6<|a8 (aR bL3<|a8 (aC 0)<|a8 (aC 8) aL) aL) aY4)
def a45:US:=(aU (bJ 8<|uOp M.gSub (uIx (aT 4)<|uOp eB @2<|aC 7)<|@200) aY5)
def xA:US:=(bJ 12<|aR bE4<|a8 (aC 0)<|a8 (fL<|a8 (aC 11)<|a8 (aR cC<|a8 (uOp eB (fL<|a8 (aC 9) aL)<|uOp dE (fL<|a8 @0 aL)<|uOp M.gSub (aC 3)<|@1) aL) aL) aL)
def xB:US:=(aU (fU (cN0 (cU<|uOp (fS false) (uIx (aT 4)<|@0)<|@3)<|cU<|uOp (fS false) (uOp kP (uIx (aT 4)<|@5)<|@2)<|@1) (bJ 9<|uOp eB @1<|uIx (aT 4)<|@4) dN) xA)
def aL3:US:=(aU (fU (cU<|uOp (fS false) (uIx (aT 4)<|@0)<|@2) (bJ 9<|uOp aJ5 (aC 9)<|aR tP<|a8 (aC 9)<|a8 (uOp eB @1<|uOp kP (uIx (aT 4)<|@4)<|@12) aL) dN) xB)
def aL4:US:=(aU (bJ 9<|aR tP<|a8 (aR (lJ 4)<|a8 (aR aY1<|a8 (aC 0)<|a8 (aC 11) aL) aL)<|a8 (uOp dE (uOp dE (aC 5)<|@29)<|@31) aL) aL3)
def lK:US:=(d6<|aR cC<|a8 (d5 [] [none,some 4,none] 2 (dS<|aC 12) (bS 0) (λρ Q=>Q true ρ)<|aR cC<|a8 (d5 [] [none,some 1,none] 2 (dS<|aC 0) (bS 0) (λρ Q=>Q true ρ)<|uOp dE (aR dA8<|a8 @1<|a8 (uOp M.gSub (uIx (aT 1)<|@1)<|@5) aL)<|aC 0) aL) aL)
def aD8:US:=(aU (fU (cU<|uOp (mT λi j=>decide (j<i)) (uIx (aT 4)<|@0)<|@1) aL4 dN) lK)
def bL8:US:=(aU (fU (cU<|uOp (fS false) (uIx (aT 4)<|@0)<|@1) (bJ 12<|aR aT1<|a8 (aC 0)<|a8 (uIx (aT 6)<|@0)<|a8 (uIx (aT 6)<|@1) aL) dN) aD8)
def aT3:US:=(aU (bJ 12<|uIx (aT 6)<|@0) bL8)
def bL9:US:=(aU (fU (cU<|uOp (cO4 false) (aC 11)<|aR cC<|a8 (uOp dE (fL<|a8 @0 aL)<|aC 3) aL) (bJ 11<|aR cC<|a8 (uOp eB (fL<|a8 @2 aL)<|uOp dE (fL<|a8 @0 aL)<|uOp M.gSub (aC 3)<|@1) aL) dN) aT3)
def bM0:US:=(aU (bJ 11<|aR cC<|a8 (d5 [10] [none,some 10,none] 2 (dS<|uSl (aT 4) (mJ<|@7) jE) (bS 0) (λρ Q=>Q true ρ)<|uOp M.gSub (uOp kP (aC 0)<|uOp eB (uOp dE @2<|aC 1)<|@1)<|aC 1) aL) bL9)
def aT4:US:=(aU (bJ 10<|uIx (uV<|fL<|a8 @2<|a8 @20<|a8 @100 aL)<|uIx (aT 4)<|@6) bM0)
def aT5:US:=(aU (gW (fQ<|a8 @2 aL) (bS 7) a45) aT4)
def aT6:US:=(aU (bJ 6<|fL aL) aT5)
def aT7:US:=(aU (bJ 5<|uOp dE (uOp dE (uOp dE (uOp dE (uOp dE (uOp dE (uOp dE (uOp dE (uOp bA6 @2<|@6)<|uOp bA6 @3<|@4)<|uOp bA6 @5<|@3)<|uOp bA6 @7<|@2)<|uOp bA6 @11<|@2)<|@13)<|@17)<|@19)<|@23) aT6)
def aT8:US:=(aU (bJ 4<|aR lD<|a8 (aC 1)<|a8 (uOp eB (fL<|a8 @4<|a8 @12<|a8 @401<|a8 @401<|a8 (uOp bA6 @10<|@4)<|a8 (uOp bA6 @10<|@4)<|a8 @3 aL)<|uOp dE (fL<|a8 @201 aL)<|aC 3)<|a8 (aC 2) aL) aT7)
def bM1:US:=(aU (bJ 3<|uOp M.gSub (iH<|aT 0)<|@1) aT8)
theorem a42.times (h:a42 500 n T)(c1:1<=c)(c9:c<=9):a42 600 n (λi j=>c*T i j):=by
 refine⟨λr hr=>uK ad (h.pos r hr),λi hi j hj=>by rw[h.zero i hi j hj,jZ],λr j=> ?_⟩
 rw[dW];refine aH (fJ (show c.natAbs<=2^4 by lia)<|h.bd r j) ?_
 rw[<-j5];exact cN ac ac
theorem a42.up (h:a42 60 n T):a42 500 n T:=⟨h.pos,h.zero,λr j=>aH (h.bd r j) (cN ac ac)⟩
section
variable {Q:B->Prop}{p:List Int}{n:Nat}{c q:Int}{a0 a1 a2 a3 a4 a5 a6:Int}{zs:List Int}{u:∅}{s6 s7 s8 s9 s10 s12:Option B}
theorem aL5 (k:Nat)(hk:k<7):atI (idL a0 a1 a2 a3 a4 a5 a6 zs) (k:Int)=some (.int<|[a0,a1,a2,a3,a4,a5,a6].getD k 0):=by
 refine cG ?_
 match k,hk with
 | 0,_=>rfl
 | 1,_=>rfl
 | 2,_=>rfl
 | 3,_=>rfl
 | 4,_=>rfl
 | 5,_=>rfl
 | 6,_=>rfl
def smo:Int:=64*81*125*49*121*13*17*19*23
nonrec def idE (p:List Int)(c q:Int)(n:Nat)(F:List D)(s6 s7 s8 s9 s10 s11 s12:Option B):Ev:=[~~~aN p,!c,!q,!(n:Int),↑F,!smo,s6,s7,s8,s9,s10,s11,s12]
theorem dK8 (n4:n<=4)(N:IdD n a0 a1 a2 a3 a4 a5 a6 zs)(tk:a42 500 n T)(h: ∀T,a42 600 n T->Q (.pu<|.tup<|tbF n n T)) :
  lK {Q with} (idE p c q n (idL a0 a1 a2 a3 a4 a5 a6 zs) s6 s7 s8 s9 s10 s11<|~~~.tup (tbF n n T)):=by
 have b1:=N.b1;obtain⟨d,ed,d1,d9⟩: ∃d:Int,d=(if 1<a1-5 then a1-5 else 1)/\1<=d/\d<=9:=⟨_,rfl,by split<;>lia,by split<;>lia⟩
 have i1:atI ((idL a0 a1 a2 a3 a4 a5 a6 zs)) 1=some (.int a1):=aL5 1 ac
 have hh:=h _ (tk.times d1 d9);unfold idE;unfold lK;rw[gT,dO,dM]
 refine cJ (t0:=0) n (λk=>(tbF n n T).getD k .non) [~~~aN p,!c,!q,!(n:Int),↑(idL a0 a1 a2 a3 a4 a5 a6 zs),!smo,s6,s7,s8,s9,s10,s11,~~~.tup (tbF n n T)] (λQ' q=> ?_) ad (λx l=>[x,some<|.bo<|idL a0 a1 a2 a3 a4 a5 a6 zs,↑l]) none rfl (λ_ _ _=>rfl) (λ_ _=>bQ _) (λ_ _ _ q=>q) (λ_ _ _=>rfl) (λi=>aN (rwF n λj=>d*T i j)) ?_ ?_
 .left
  rw[oK];exact q
 .intro i l Q' hi q;rw[yQ hi]at q⊢;rw[dO,dM];refine cJ (t0:=0) n (λk=>((rwF n<|T i).map D.int).getD k .non) [~~~aN (rwF n (T i)),some<|.bo<|idL a0 a1 a2 a3 a4 a5 a6 zs,↑l] (λQ' q=> ?_) ad (λx l=>[x,some<|.bo<|idL a0 a1 a2 a3 a4 a5 a6 zs,↑l]) none rfl (λ_ _ _=>rfl) (λ_ _=>bQ _) (λ_ _ _ q=>q) (λ_ _ _=>rfl) (λj=> .int (d*T i j)) ?_ ?_
  .simp only[aN];left;rw[bC];exact q
  .intro j l' Q' hj q;rw[iS hj]at q⊢;left;rw[i1];right;rw[<-ed];exact⟨cmL ad ad,q⟩
  .rw[lH];exact q
 .left
  exact hh
theorem dK9 (rp:eO p)(hn:p.length=n+1)(N:IdD n a0 a1 a2 a3 a4 a5 a6 zs)(tk:a42 500 n T)(hu: ∀j,(u j).natAbs<=2^20)(h: ∀T,a42 600 n T->Q (.pu<|.tup<|tbF n n T)) :
  aD8 {Q with} (idE p c q n (idL a0 a1 a2 a3 a4 a5 a6 zs) s6 s7 s8 s9 s10 (~~~aN (rwF n u))<|~~~.tup (tbF n n T)):=by
 have n2:2<=n:=by have:=rp.ok.lo;lia
 have n4:n<=4:=by have:=rp.ok.hi;lia
 have b4:=N.b4;have b5:=N.b5;have i0:atI (idL a0 a1 a2 a3 a4 a5 a6 zs) 0=some (.int a0):=aL5 0 ac
 have i4:atI (idL a0 a1 a2 a3 a4 a5 a6 zs) 4=some (.int a4):=aL5 4 ac
 have i5:atI (idL a0 a1 a2 a3 a4 a5 a6 zs) 5=some (.int a5):=aL5 5 ac
 have fin: ∀T s9,a42 500 n T->lK {Q with} (idE p c q n (idL a0 a1 a2 a3 a4 a5 a6 zs) s6 s7 s8 s9 s10 (~~~aN (rwF n u))<|~~~.tup (tbF n n T)):=λT s9 tk=>dK8 n4 N tk h
 have k1:(-2^63<=(n:Int)-1/\(n:Int)-1<2^63/\(0+1)*(n-1)<=sizeLine):=⟨ad,ad,aH (show(0+1)*(n-1)<=10 by lia) ac⟩
 have k2:0+1+(n-1)<=sizeLine:=aH (show 0+1+(n-1)<=10 by lia) ac
 have lf:(replicate (n-1) [D.int 0]).flatten.length=n-1:=by rw[hJ,aG,iD]
 have md: ∀m:Int,1<=m->m<=2^60->xA {nx:=λρ=>lK {Q with} ρ,rt:=Q} (idE p c q n (idL a0 a1 a2 a3 a4 a5 a6 zs) s6 s7 s8 (!m) s10 (~~~aN (rwF n u))<|~~~.tup (tbF n n T)):=λm m1 m2=>by
  have md:bE4 [aN p,.lst [aN<|rwF n u,.tup (.int m::(replicate (n-1) [D.int 0]).flatten)]] λb=>lK {Q with} (idE p c q n (idL a0 a1 a2 a3 a4 a5 a6 zs) s6 s7 s8 (!m) s10 (~~~aN (rwF n u))<|some b):=by
   refine⟨p,n,u,m,?_,rp,hn,λj=>aH (hu j) (cN ac ac),m1,m2,λT tk=>fin T _ tk⟩
   rw[hJ,<-cY3 m ad]
   rfl
  unfold idE at md⊢;unfold xA;left;rw[show((n:Int)-1).toNat=n-1 by lia,lf]
  exact⟨ac,ac,k1,k2,ac,md⟩
 unfold idE at fin md⊢;unfold aD8;rw[aM];left;rw[i0];right;split
 .unfold aL4;rw[aM];left;refine⟨p,n,20,u,rfl,rp,hn,ac,hu,?_⟩
  try right
  refine⟨tbL n<|itT p n u,by rw[c68],dJ7 (e:=56) ad n4 ac λi j hi=>aH (aI4 (n:=n) rp.ok.small hu i j) (cN ac ad),?_⟩
  left
  refine⟨by unfold smo;exact cmR ac ac,cmR ac ac,_,_,rfl,?_⟩
  generalize hg:((Int.gcd (mW 4<|tbL n<|itT p n u) (smo*29*31):Nat):Int)=g;have d:g∣smo*29*31:=by rw[<-hg];exact aQ3 _ _
  have d0:0<=g:=by rw[<-hg];exact zT _
  have d1:g≠0:=λz=>by
   rw[z]at d;exact absurd (Int.zero_dvd.mp d) ac
  have d2:g<=2^60:=pY (a08 ac d) ac
  try right
  have t2: ∀m:Int,1<=m->m<=2^60->xB {nx:=λρ=>lK {Q with} ρ,rt:=Q} (idE p c q n (idL a0 a1 a2 a3 a4 a5 a6 zs) s6 s7 s8 (!m) s10 (~~~aN (rwF n u))<|~~~.tup (tbF n n T)):=λm m1 m2=>by
   have m3:=md m m1 m2;have m4:=md (1+a4) ad ad
   unfold idE;unfold xB;rw[aM];left;rw[i0];right;split
   .rw[i5];right;refine⟨ac,?_⟩
    split
    .rw[i4];right;exact m4
    .exact m3
   .exact m3
  unfold idE at t2;unfold aL3;rw[aM];left;rw[i0];right;split
  .rw[i4];right;refine⟨ac,_,_,rfl,?_⟩
   generalize hw:((Int.gcd g (1+a4.fmod 12):Nat):Int)=w;have w0:0<=w:=by rw[<-hw];exact zT _
   obtain⟨v,ev⟩:w∣g:=by rw[<-hw];exact Int.gcd_dvd_left _ _
   have w1:w≠0:=λz=>d1 (by rw[ev,z,a12])
   have v1:1<=v:=by
    have:0<w*v:=ad
    exact Int.pos_of_mul_pos_right this ad
   have w2:w<=12:=by
    have d3:w∣1+a4.fmod 12:=by rw[<-hw];exact aQ3 _ _
    rw[dD _ ac]at d3
    have:=a08 ad d3
    lia
   rw[ev];right;rw[Int.mul_fdiv_cancel_left _ w1];refine⟨⟨w1,b38 ad ad⟩,t2 v v1 ?_⟩
   .have:1*v<=w*v:=Int.mul_le_mul_of_nonneg_right ad ad
    lia
  .exact t2 g ad d2
 .exact fin T _ tk
theorem dX8 (rp:eO p)(hn:p.length=n+1)(N:IdD n a0 a1 a2 a3 a4 a5 a6 zs)(hu: ∀j,(u j).natAbs<=2^20){q0 r0 q1 r1:Int}(q01:1<=q0)(q02:q0<=2^60)(q11:1<=q1)(q12:q1<=2^60)(h: ∀T,a42 600 n T->Q (.pu<|.tup<|tbF n n T)) :
  aT3 {Q with} (idE p c q n (idL a0 a1 a2 a3 a4 a5 a6 zs) (↑[knD n q0 r0,knD n q1 r1]) s7 s8 s9 s10 (~~~aN (rwF n u)) s12):=by
 have n2:2<=n:=by have:=rp.ok.lo;lia
 have n4:n<=4:=by have:=rp.ok.hi;lia
 have i0:atI (idL a0 a1 a2 a3 a4 a5 a6 zs) 0=some (.int a0):=aL5 0 ac
 have j0:atI [knD n q0 r0,knD n q1 r1] 0=some (knD n q0 r0):=cG (j:=0) rfl;have j1:atI [knD n q0 r0,knD n q1 r1] 1=some (knD n q1 r1):=cG (j:=1) rfl;have t0:=e23 (n:=n) (r:=r0) q01 q02;have t1:=e23 (n:=n) (r:=r1) q11 q12;have e0:knD n q0 r0= .tup (tbF n n<|clT n<|knT q0 r0):=by unfold knD;rw[dK7]
 have e1:knD n q1 r1= .tup (tbF n n<|clT n<|knT q1 r1):=by unfold knD;rw[dK7]
 have f10:=λT tk=>dK9 (T:=T) (c:=c) (q:=q) (s6:=some (.ow [knD n q0 r0,knD n q1 r1])) (s7:=s7) (s8:=s8) (s9:=s9) (s10:=s10) rp hn N tk hu h
 unfold idE at f10⊢;unfold aT3;rw[aM];left;rw[j0];right;unfold bL8;rw[aM];left;rw[i0,j0,j1];right;split
 .refine⟨p,n,clT n<|knT q0 r0,clT n<|knT q1 r1,by rw[<-e0,<-e1],rp,hn,t0.bd,t1.bd,λi hi j hj=>t0.zero i hi j ad,λi hi j hj=>t1.zero i hi j ad,t0.pos 0 ad,t1.pos 0 ad,f10⟩
 .have:=f10 _ t0.up;rw[<-e0]at this;exact this
theorem dX9 (rp:eO p)(hn:p.length=n+1)(N:IdD n a0 a1 a2 a3 a4 a5 a6 zs){q0 r0 q1 r1:Int}(q01:1<=q0)(q02:q0<=2^60)(q11:1<=q1)(q12:q1<=2^60)(h: ∀T,a42 600 n T->Q (.pu<|.tup<|tbF n n T)){s11:Option B} :
  aT4 {Q with} (idE p c q n (idL a0 a1 a2 a3 a4 a5 a6 zs) (↑[knD n q0 r0,knD n q1 r1]) s7 s8 s9 s10 s11 s12):=by
 have n2:2<=n:=by have:=rp.ok.lo;lia
 have n4:n<=4:=by have:=rp.ok.hi;lia
 have b6:=N.b6;have i6:atI (idL a0 a1 a2 a3 a4 a5 a6 zs) 6=some (.int a6):=aL5 6 ac
 obtain⟨w,jw,w1,w2⟩: ∃w,atI [D.int 2,.int 20,.int 100] a6=some (.int w)/\1<=w/\w<=100:=by
  rcases(show a6=0\/a6=1\/a6=2 by lia)with e|e|e<;>rw[e]
  .exact⟨2,cG (j:=0) rfl,ac,ac⟩
  .exact⟨20,cG (j:=1) rfl,ac,ac⟩
  .exact⟨100,cG (j:=2) rfl,ac,ac⟩
 have f8:=fun(u:∅) (hu: ∀j,(u j).natAbs<=2^20)=>dX8 (u:=u) (r0:=r0) (r1:=r1) (c:=c) (q:=q) (s7:=s7) (s8:=s8) (s9:=s9) (s10:=some (.pu<|.int w)) (s12:=s12) rp hn N hu q01 q02 q11 q12 h
 have d7:cutD (idL a0 a1 a2 a3 a4 a5 a6 zs) (some 7) none=zs.map .int:=by
  rw[show(7:Int)=((7:Nat):Int)from rfl,aB4 _ 7 (by unfold idL;simp)]
  rfl
 unfold idE at f8⊢;unfold aT4;rw[aM];left;rw[i6];right;rw[jw];right;refine⟨ac,?_⟩
 unfold bM0;rw[aM,kA,dO,dM]
 refine cJ (t0:=0) n (λk=>(zs.map D.int).getD k .non) (idE p c q n (idL a0 a1 a2 a3 a4 a5 a6 zs) (↑[knD n q0 r0,knD n q1 r1]) s7 s8 s9 (!w) s11 s12) (λQ' q=> ?_) ad (λx l'=>[x,!w,↑l']) none rfl (λ_ _ _=>rfl) (λ_ _=>bQ _) (λ_ _ _ q=>q) (λ_ _ _=>rfl) (λk=> .int (zs.getD k 0%(2*w+1)-w)) ?_ ?_
 .left
  rw[d7,aG,N.lz];exact q
 .intro k l' Q' hk q';have ek:(zs.map D.int).getD k .non= .int (zs.getD k 0):=by
   rw[aO,aZ,aS (by rw[N.lz];exact hk),aO,aS (by rw[N.lz];exact hk)];rfl
  rw[ek]at q'⊢;left;rw[dD _ ad]
  exact⟨cmL ac ac,ad,q'⟩
 rw[lH];obtain⟨g,eg,hb⟩: ∃g:∅,(g=λj=>zs.getD j 0%(2*w+1)-w)/\ ∀j,(g j).natAbs<=2^20:=⟨_,rfl,λj=>by
  have:=d8 (zs.getD j 0) (show 2*w+1≠0 by lia)
  have:=dG (zs.getD j 0) (show 0<2*w+1 by lia)
  show(zs.getD j 0%(2*w+1)-w).natAbs<=1048576
  lia⟩
 rw[<-eg];unfold idE;left;unfold bL9;rw[aM,cX8,c48,c49];left;rw[bE,aI2];refine⟨ac,⟨ad,ad,aH (show(0+1)*n<=10 by lia) ac⟩,?_⟩
 refine cE5 (a:=rwF n g) (b:=rwF n λ_=>0) ?_
 right;cases (false ^^ decide (rwF n g=rwF n λ_=>0))with
 | true=>
  rw[aA rfl];have lf:(replicate (n-1) [D.int 0]).flatten.length=n-1:=by rw[hJ,aG,iD]
  rw[show((n:Int)-1).toNat=n-1 by lia,lf]
  refine⟨ac,ac,⟨ad,ad,aH (show(0+1)*(n-1)<=10 by lia) ac⟩,aH (show 0+1+(n-1)<=10 by lia) ac,?_⟩
  have e:D.tup ([D.int 2]++(replicate (n-1) [D.int 0]).flatten)=aN (rwF n<|v8 2):=by
   rw[hJ,<-cY3 2 ad]
   rfl
  have f:=f8 (v8 2) λj=>by unfold v8;split<;>decide
  rw[<-e]at f;exact f
 | false=>
  rw[a7 ac]
  exact f8 g hb
theorem dY0 (rp:eO p)(hn:p.length=n+1)(nz:NoZ p)(N:IdD n a0 a1 a2 a3 a4 a5 a6 zs)(h: ∀T,a42 600 n T->Q (.pu<|.tup<|tbF n n T)) :
  aT5 {Q with} (idE p c q n (idL a0 a1 a2 a3 a4 a5 a6 zs) (↑[]) s7 s8 s9 s10 s11 s12):=by
 have n2:2<=n:=by have:=rp.ok.lo;lia
 have n4:n<=4:=by have:=rp.ok.hi;lia
 unfold aT5;rw[aM];refine bI 2 (λi=> .int (0+(i:Int))) (idE p c q n (idL a0 a1 a2 a3 a4 a5 a6 zs) (↑[]) s7 s8 s9 s10 s11 s12) (λQ' q=> ?_)
  (λk ρ=> ∃s7 s8 s9 l,ρ=idE p c q n (idL a0 a1 a2 a3 a4 a5 a6 zs) (↑l) s7 s8 s9 s10 s11 s12/\l.length=k/\ ∀d∈l,∃q r:Int,d=knD n q r/\1<=q/\q<=2^60) ⟨s7,s8,s9,[],rfl,rfl,ae⟩ ?_ ?_
 .left
  exact⟨⟨ac,ac⟩,q⟩
 .rintro k ρ hk ⟨s7,s8,s9,l,rfl,hl,hd⟩;obtain⟨v2,j2,v21,v22⟩: ∃v,atI (idL a0 a1 a2 a3 a4 a5 a6 zs) (2+(0+(k:Int)))=some (.int v)/\0<=v/\v<401:=by
   rcases(show k=0\/k=1 by lia)with rfl|rfl
   .exact⟨a2,aL5 2 ac,N.b2⟩
   .exact⟨a3,aL5 3 ac,N.b3⟩
  obtain⟨v4,j4,v41,v42⟩: ∃v,atI (idL a0 a1 a2 a3 a4 a5 a6 zs) (4+(0+(k:Int)))=some (.int v)/\0<=v/\v<10000:=by
   rcases(show k=0\/k=1 by lia)with rfl|rfl
   .exact⟨a4,aL5 4 ac,N.b4⟩
   .exact⟨a5,aL5 5 ac,N.b5⟩
  have hok:dI3 (n+1) 9 8 (λj=>p.getD j 0) (v2-200):=⟨λj=>aH (fO rp.ok.small j) ac,show(v2-200).natAbs<=256 by lia,ad,ac,ad⟩
  have vb:=dI2 (n:=n+1) hok.fb hok.zb;have v0:ps (λj=>p.getD j 0) (v2-200) (n+1)≠0:=by rw[<-hn];exact nz (v2-200)
  have vb2:(ps (λj=>p.getD j 0) (v2-200)<|n+1).natAbs<=2^60:=aH vb (cN ac ad)
  have last: ∀m:Int,1<=m->m<=2^60-> ∀E:UD,(∀ρ,(∃s7 s8 s9 l,ρ=idE p c q n (idL a0 a1 a2 a3 a4 a5 a6 zs) (↑l) s7 s8 s9 s10 s11 s12/\l.length=k+1/\ ∀d∈l,∃q r:Int,d=knD n q r/\1<=q/\q<=2^60)->E.nx ρ)->a44 E (idE p c q n (idL a0 a1 a2 a3 a4 a5 a6 zs) (↑l) (!(0+(k:Int))) (!v2-200) (!m) s10 s11 s12):=λm m1 m2 E hE=>by
   unfold idE at hE⊢;unfold a44;left;refine⟨n,m,v2-200,rfl,ad,n4,m1,show(v2-200).natAbs<=1073741824 by lia,?_⟩
   refine⟨b9 (show l.length<10 by lia) ac,hE _ ⟨_,_,_,_,rfl,by rw[cB,hl];rfl,λd hd'=> ?_⟩⟩
   rcases cR.mp hd' with z|z
   .exact hd d z
   .exact⟨m,v2-200,fE.mp z,m1,m2⟩
  refine⟨by unfold idE;simp,?_⟩
  show a45 _ (idE p c q n (idL a0 a1 a2 a3 a4 a5 a6 zs) (↑l) (!(0+(k:Int))) s8 s9 s10 s11 s12)
  have l1:=last _ (show 1<=((ps (λj=>p.getD j 0) (v2-200)<|n+1).natAbs:Int)by lia) ad
  unfold idE at last l1⊢;unfold a45;rw[aM];left;rw[j2];right;unfold aY5;rw[aM];left;refine⟨n+1,9,8,λj=>p.getD j 0,v2-200,by rw[<-hn,<-b42],hok,?_⟩
  try right
  generalize ps (λj=>p.getD j 0) (v2-200) (n+1)=V at *
  rw[absK];unfold aY4;rw[aM];left;rw[j4];right;rw[dD _ ac]
  refine⟨ac,?_⟩
  split
  .rw[lB _ ac]
   refine⟨⟨ac,b38 ac ac⟩,cmR ad ad,_,_,rfl,?_⟩
   generalize hg:((Int.gcd ((V.natAbs:Nat):Int) (smo*(1+v4/4)):Nat):Int)=g;have d:g∣(V.natAbs:Int):=by rw[<-hg];exact Int.gcd_dvd_left _ _
   have d0:0<=g:=by rw[<-hg];exact zT _
   have d1:g≠0:=λz=>by
    rw[z]at d;have:=Int.zero_dvd.mp d
    lia
   have d2:=a08 ad d
   exact last g ad ad _ λρ hρ=>hρ
  .exact l1 _ λρ hρ=>hρ
 .rintro ρ ⟨s7,s8,s9,l,rfl,hl,hd⟩
  match l,hl with
  | [d0,d1],_=>
   obtain⟨q0,r0,rfl,q01,q02⟩:=hd d0 ae
   obtain⟨q1,r1,rfl,q11,q12⟩:=hd d1 ae
   exact dX9 rp hn N q01 q02 q11 q12 h
end
theorem dL0: Ra bL7 bM1 ["p","c","q","n","f","s","i","k","r","m","w","x","t"]:=by
 rintro ds Q ⟨p,n,c,q,rfl,rp,hn,nz,hq,h⟩;have lo:=rp.ok.lo;have hi:=rp.ok.hi;have n2:2<=n:=ad
 have n4:n<=4:=ad
 unfold bM1;show(aU _ _:US) _ [~~~.tup (p.map .int),!c,!q,none,none,none,none,none,none,none,none,none,none];rw[aM];left;rw[aG,show(p.length:Int)-1=(n:Int)by lia]
 change aT8 _ [~~~aN p,!c,!q,!(n:Int),none,none,none,none,none,none,none,none,none]
 unfold aT8;rw[aM];left;rw[bE,hJ,aG,iD];refine⟨cpl ac ac ac,cpl ac ac ac,ac,ac,⟨ad,ad,aH (show(0+1)*n<=10 by lia) ac⟩,aH (show 0+1+1+1+1+1+1+1+n<=20 by lia) ac,c,idW n,q,by unfold idW;rw[bT];rfl,by unfold idW;simp;lia,hq,λw hw=> ?_,λxs hx=> ?_⟩
 .unfold idW at hw;rcases cR.mp hw with z|z
  .clear hw
   revert w
   decide
  .rw[(List.mem_replicate.mp z).2]
   decide
 obtain⟨a0,a1,a2,a3,a4,a5,a6,zs,rfl,N⟩:=id_of hx;show aT7 _ [~~~aN p,!c,!q,!(n:Int),↑(idL a0 a1 a2 a3 a4 a5 a6 zs),none,none,none,none,none,none,none,none];unfold aT7;rw[aM];left
 refine⟨cpl ac ac ac,cpl ac ac ac,cmR af af,cpl ac ac ac,cmR af af,cpl ac ac ac,cmR af af,cpl ac ac ac,cmR af af,cmR af af,cmR af af,cmR af af,cmR af af,?_⟩
 show aT6 _ [~~~aN p,!c,!q,!(n:Int),↑(idL a0 a1 a2 a3 a4 a5 a6 zs),!smo,none,none,none,none,none,none,none]
 unfold aT6;rw[aM];left;exact⟨ac,dY0 rp hn nz N h⟩
nonrec def aT9 (n:Nat)(T:Nat->∅)(i:Nat):Bool:=decide (1<=T i i)&&(not<|(rwF (n-(i+1)) λj=>T i (i+1+j)).any λx=>x != 0)&&((List.range i).map λj=>decide (0<=T i j)&&decide (T i j<T j j)).all id
def bM2 (n:Nat)(T:Nat->∅)(i:Nat):Prop:=1<=T i i/\(∀j,i<j->j<n->T i j=0)/\ ∀j,j<i->0<=T i j/\T i j<T j j
theorem any_no :((rwF m f).any λx=>x != 0)=false↔ ∀j,j<m->f j=0:=by
 rw[aP9];constructor
 .intro h j hj;have:=h (f j) (bU.mpr ⟨j,bZ.mpr hj,rfl⟩)
  exists this
 .intro h x hx;obtain⟨j,hj,rfl⟩:=bU.mp hx;rw[h j<|bZ.mp hj]
  decide
theorem aD9 (hi:i<n):aT9 n T i=true↔bM2 n T i:=by
 unfold aT9 bM2;rw[cQ,cQ,fY,zV,any_no,cL,and_assoc];refine and_congr Iff.rfl (and_congr ⟨λh j h1 h2=> ?_,λh j hj=>h _ ad ad⟩ ⟨λh j hj=> ?_,λh x hx=> ?_⟩)
 .have:=h (j-(i+1)) ad
  rw[show i+1+(j-(i+1))=j by lia]at this
  exact this
 .have:=h _ (bU.mpr ⟨j,bZ.mpr hj,rfl⟩)
  exists this
 .obtain⟨j,hj,rfl⟩:=bU.mp hx;have:=h j (bZ.mp hj);simp[this]
theorem bY6 :(rwF n f).drop k=rwF (n-k) λj=>f (k+j):=by
 unfold rwF;apply fG<;>simp
def oP:Φ:=λds Q=> ∃(n i:Nat) (T:Nat->∅),ds=[.tup<|tbF n n T,.int (i:Int)]/\i<n/\n<=8/\Q (.pu<|.bl<|aT9 n T i)
def sU:US:=(d6<|aR bG2<|a8 (d5 [] [none,some 2,some 0,none] 3 (fQ<|a8 (aC 1) aL) (bS 0) (λρ Q=>Q true ρ)<|cO7 (mT λi j=>decide (i<=j)) (mT λi j=>decide (i<j)) @0 (uIx (aT 1)<|aC 0)<|uIx (uV<|uIx (aT 2)<|aC 0)<|aC 0) aL)
def sV:US:=(aU (fU (uOr (cU<|uOp (mT λi j=>decide (i<j)) (uIx (aT 2)<|aC 1)<|@1)<|cU<|aR cX1<|a8 (dC2 (aC 2) (mJ<|uOp eB (aC 1)<|@1) jE) aL) (d6<|uC<|.bl false) dN) sU)
def oQ:US:=(aU (bJ 2<|uIx (aT 0)<|aC 1) sV)
theorem aY6: Ra oP oQ ["t","i","r"]:=by
 rintro ds Q ⟨n,i,T,rfl,hi,n8,h⟩;have e1:atI (tbF n n T) (i:Int)=some (.tup<|(rwF n<|T i).map .int):=a27 hi;have e2:atI ((rwF n<|T i).map D.int) (i:Int)=some (.int<|T i i):=fW hi;unfold oQ;show(aU _ _:US) _ [~~~.tup (tbF n n T),!(i:Int),none];rw[aM];left;rw[e1];right;unfold sV;rw[aM];left;rw[e2];right
 have hn:i+1<=((rwF n<|T i).map D.int).length:=by rw[bC];lia
 have e3:cutD ((rwF n<|T i).map D.int) (some<|(i:Int)+1) none=(rwF (n-(i+1)) λj=>T i (i+1+j)).map D.int:=by
  have:=aB4 _ (i+1) hn;rw[show(((i+1:Nat):Int))=(i:Int)+1 by lia]at this
  rw[this,<-nP,bY6]
 rw[e3,b30];right;have hb:aT9 n T i=(decide (1<=T i i)&&(not<|(rwF (n-(i+1)) λj=>T i (i+1+j)).any λx=>x != 0)&&((List.range i).map λj=>decide (0<=T i j)&&decide (T i j<T j j)).all id):=rfl
 by_cases c1:T i i<1
 .rw[aA c1];rw[eF<|show ¬1<=T i i by lia,fH,fH]at hb
  rw[hb]at h;exact h
 rw[a7 c1]
 by_cases c2:((rwF (n-(i+1)) λj=>T i (i+1+j)).any λx=>x != 0)=true
 .rw[aA c2];rw[c2,Bool.not_true,Bool.and_false,fH]at hb;rw[hb]at h;exact h
 rw[a7 c2];rw[gH<|show 1<=T i i by lia,aQ7 _ |>.mp c2,Bool.not_false,gU,gU]at hb
 rw[hb]at h;unfold sU;rw[gT,dO,dM]
 refine cJ (t0:=0) i (λk=> .int (0+(k:Int))) [~~~.tup (tbF n n T),!(i:Int),~~~.tup ((rwF n<|T i).map .int)] ?_ ad (λx l=>[x,~~~.tup ((rwF n<|T i).map .int),~~~.tup (tbF n n T),↑l]) none rfl (λ_ _ _=>rfl) (λ_ _=>bQ _) (λ_ _ _ q=>q) (λ_ _ _=>rfl) (λj=> .bl (decide (0<=T i j)&&decide (T i j<T j j))) ?_ ?_
 .intro Q' q;left;refine⟨⟨ad,ad⟩,?_⟩
  rw[bE];exact q
 .intro j l Q' hj q;rw[cF]at q⊢;have f1:atI ((rwF n<|T i).map D.int) (j:Int)=some (.int<|T i j):=fW ad
  have f2:atI (tbF n n T) (j:Int)=some (.tup<|(rwF n<|T j).map .int):=a27 ad
  have f3:atI ((rwF n<|T j).map D.int) (j:Int)=some (.int<|T j j):=fW ad
  left
  simp only[f1,f2,f3]
  by_cases c:0<=T i j
  .rw[aA c];rw[gH c,gU]at q;exact q
  .rw[a7 c];rw[eF c,fH]at q;exact q
 .left
  rw[show(List.range i).map (λj=>D.bl (decide (0<=T i j)&&decide (T i j<T j j)))=((List.range i).map λj=>decide (0<=T i j)&&decide (T i j<T j j)).map D.bl by rw[dZ];rfl,iI]
  exact h
nonrec def bM3 (L:List (List Int)):D:= .tup (L.map aN)
def toT (L:List (List Int)):Nat->∅:=λi j=>(L.getD i []).getD j 0
theorem c71 (h1:L.length=n)(h2: ∀l∈L,l.length=n):L.map aN=tbF n n (toT L):=by
 unfold tbF;apply fG
 .simp[h1]
 .intro i a b;have hi:i<L.length:=by exists a
  have hl:=h2 _ (cE hi);simp only[List.getElem_map,List.getElem_range];rw[b42 L[i],hl];unfold toT;rw[aO (l:=L),aS hi];rfl
theorem c72 {n:Nat}: ∀L:List (List Int),(L.map λl=>(not<|decide ((l.length:Int)=n))).any id=not (L.all λl=>decide (l.length=n))
 | []=>rfl
 | a::L=>by
  rw[dY,a04,a03,c72 L,Bool.not_and]
  by_cases c:a.length=n
  .simp[c]
  .simp[c,show ¬((a.length:Int)=n)by lia]
theorem cG8 {s:Nat}(hL:L.length<=100)(hs:ρ[s]? =some (~~~bM3 L))(h0:pC (uQ ρ js) cap 2=[none,!(n:Int),↑[]])(h:Q (.ow<|(L.map λl=>(not<|decide ((l.length:Int)=n))).map D.bl) (uQ ρ js)) :
  d5 js cap 2 (dS<|aC s) (bS 0) (λρ Q=>Q true ρ) (uOp (fS true) (iH<|aT 0)<|aC 1) ρ Q:=by
 refine cJ (t0:=0) L.length (λk=>(L.map aN).getD k .non) ρ ?_ ad (λx l=>[x,!(n:Int),↑l]) none h0 (λ_ _ _=>rfl) (λ_ _=>bQ _) (λ_ _ _ q=>q) (λ_ _ _=>rfl) (λj=> .bl (not<|decide (((L.getD j []).length:Int)=n))) ?_ ?_
 .intro Q' q;unfold dS;rw[bE2 hs];left;unfold bM3;left;rw[aG];exact q
 .intro j l Q' hj q;have e:(L.map aN).getD j .non=aN (L.getD j []):=by
   rw[aO,aZ,aO (l:=L),aS hj];rfl
  rw[e]at q⊢;simp only[aN]at q⊢;left;rw[aG];exact q
 .have e:(List.range L.length).map (λj=>D.bl (not<|decide (((L.getD j []).length:Int)=n)))=(L.map λl=>(not<|decide ((l.length:Int)=n))).map D.bl:=by
   apply fG
   .simp
   .intro i a b;have hi:i<L.length:=by exists a
    simp[aO,aS hi]
  rw[e];exact h
nonrec def stB (L:List (List Int))(n:Nat):Bool:=decide (L.length=n)&&(L.all λl=>decide (l.length=n))&&((List.range n).map<|aT9 n<|toT L).all id
def xC:Φ:=λds Q=> ∃(L:List (List Int)) (n:Nat),ds=[bM3 L,.int (n:Int)]/\L.length<=100/\n<=8/\Q (.pu<|.bl<|stB L n)
def a84:US:=(d6<|aR bG2<|a8 (d5 [0] [none,some 0,none] 2 (fQ<|a8 (aC 1) aL) (bS 0) (λρ Q=>Q true ρ)<|aR oP<|a8 (aC 1)<|a8 (aC 0) aL) aL)
def xD:US:=(aU (fU (uOr (cU<|uOp (fS true) (iH<|aT 0)<|aC 1)<|cU<|aR dD5<|a8 (d5 [1] [none,some 1,none] 2 (dS<|aC 0) (bS 0) (λρ Q=>Q true ρ)<|uOp (fS true) (iH<|aT 0)<|aC 1) aL) (d6<|uC<|.bl false) dN) a84)
theorem bR7: Ra xC xD ["t","k"]:=by
 rintro ds Q ⟨L,n,rfl,hL,n8,h⟩;unfold xD;show(aU _ _:US) _ [~~~.tup (L.map aN),!(n:Int)];rw[aM];left;have hb:stB L n=(decide (L.length=n)&&(L.all λl=>decide (l.length=n))&&((List.range n).map<|aT9 n<|toT L).all id):=rfl
 rw[aG]
 by_cases c1:L.length=n
 rotate_left
 .rw[aA ad]
  rw[eF c1,fH,fH]at hb;rw[hb]at h;exact h
 rw[a7 ad]
 rw[gH c1,gU]at hb;refine cG8 hL rfl rfl ?_;left;rw[iI];right;rw[c72]
 by_cases c2:(L.all λl=>decide (l.length=n))=true
 rotate_left
 .have c3:=aQ7 _ |>.mp c2;rw[c3,aA<|show(not false)=true from rfl]
  rw[c3,fH]at hb;rw[hb]at h;exact h
 rw[c2,a7<|show ¬(not true)=true by decide]
 rw[c2,gU]at hb;rw[hb]at h;have hl: ∀l∈L,l.length=n:=λl hl=>by simpa using cL.mp c2 l hl
 rw[c71 c1 hl];unfold a84;rw[gT,dO,dM];refine cJ (t0:=0) n (λk=> .int (0+(k:Int))) [~~~.tup (tbF n n (toT L)),!(n:Int)] ?_ ad (λx l=>[x,~~~.tup (tbF n n (toT L)),↑l]) none rfl (λ_ _ _=>rfl) (λ_ _=>bQ _) (λ_ _ _ q=>q) (λ_ _ _=>rfl) (λj=> .bl (aT9 n (toT L) j)) ?_ ?_
 .intro Q' q;left;refine⟨⟨ad,ad⟩,?_⟩
  rw[bE];exact q
 .intro j l Q' hj q;rw[cF]at q⊢;left;exact⟨n,j,toT L,rfl,hj,n8,q⟩
 .left
  rw[show(List.range n).map (λj=>D.bl (aT9 n (toT L) j))=((List.range n).map<|aT9 n<|toT L).map D.bl by rw[dZ];rfl,iI]
  exact h
theorem dY1 :stB L n=true↔L.length=n/\(∀l∈L,l.length=n)/\ ∀i,i<n->aT9 n (toT L) i=true:=by
 unfold stB;rw[cQ,cQ,fY,cL,cL,and_assoc];refine and_congr Iff.rfl (and_congr ⟨λh l hl=>by simpa using h l hl,λh l hl=>by simpa using h l hl⟩ ⟨λh i hi=>h _ (bU.mpr ⟨i,bZ.mpr hi,rfl⟩),λh x hx=> ?_⟩)
 obtain⟨i,hi,rfl⟩:=bU.mp hx;exact h i (bZ.mp hi)
nonrec def idB (p:List Int)(n:Nat)(L:List (List Int)):Bool:=stB L n&&((List.range n).map λi=>w8 n (gD (toT L) n<|ttF p n<|toT L i)).all id
structure aL6 (L:List (List Int)):Prop where
 few:L.length<=100
 bd: ∀l∈L,∀x∈l,x.natAbs<=2^700
theorem aL6.ent (h:aL6 L)(i j:Nat):(toT L i j).natAbs<=2^700:=by
 unfold toT
 by_cases hi:i<L.length
 .rw[aO (l:=L),aS hi]
  by_cases hj:j<L[i].length
  .rw[aQ8,aO,aS hj];exact h.bd _ (cE hi) _ (cE hj)
  .rw[aQ8,aO,fA ad]
   exact eH _
 .rw[aO (l:=L),fA ad]
  exact eH _
def rG:Φ:=λds Q=> ∃(C:Addr) (p:List Int) (n:Nat) (L:List (List Int)),ds=[pE C p,bM3 L]/\eO p/\p.length=n+1/\aL6 L/\Q (.pu<|.bl<|idB p n L)
def a85:US:=(d6<|aR bG2<|a8 (d5 [1,0] [none,some 1,some 0,none] 3 (dS<|aC 1) (bS 0) (λρ Q=>Q true ρ)<|aR aS9<|a8 (aC 1)<|a8 (aR a38<|a8 (aC 2)<|a8 (aC 0) aL) aL) aL)
def xE:US:=(aU (fU (cB6<|cU<|aR xC<|a8 (aC 1)<|a8 (c41 "degree"<|aC 0) aL) (d6<|uC<|.bl false) dN) a85)
theorem bR8: Ra rG xE ["r","t"]:=by
 rintro ds Q ⟨C,p,n,L,rfl,rp,hn,ok,h⟩;have lo:=rp.ok.lo;have hi:=rp.ok.hi;have hL:=ok.few;have hb:idB p n L=(stB L n&&((List.range n).map λi=>w8 n (gD (toT L) n<|ttF p n<|toT L i)).all id):=rfl
 unfold xE;show(aU _ _:US) _ [~~~pE C p,~~~.tup (L.map aN)];rw[aM];left;rw[b88 (C:=C) (p:=p) rfl];left;refine⟨L,n,by rw[show(p.length:Int)-1=(n:Int)by lia];rfl,hL,ad,?_⟩
 left
 cases e:stB L n with
 | false=>
  rw[e,fH]at hb;rw[hb]at h;exact h
 | true=>
  rw[e,gU]at hb;rw[hb]at h;obtain⟨h1,h2,h3⟩:=dY1.mp e;rw[a7 ac,c71 h1 h2]
  unfold a85;rw[gT,dO,dM];refine cJ (t0:=0) n (λk=>(tbF n n<|toT L).getD k .non) [~~~pE C p,~~~.tup (tbF n n (toT L))] ?_ ad (λx l=>[x,~~~.tup (tbF n n (toT L)),~~~pE C p,↑l]) none rfl (λ_ _ _=>rfl) (λ_ _=>bQ _) (λ_ _ _ q=>q) (λ_ _ _=>rfl) (λi=> .bl (w8 n<|gD (toT L) n<|ttF p n<|toT L i)) ?_ ?_
  .intro Q' q;left;rw[oK];exact q
  .intro i l Q' hi q;rw[yQ hi]at q⊢;left;refine⟨C,p,n,toT L i,rfl,rp,hn,?_⟩;left;refine⟨n,toT L,ttF p n<|toT L i,rfl,ad,λr hr=> ?_,λr j=>aH (ok.ent r j) (cN ac ac),λj=>aH (b51 rp.ok.small (ok.ent i) j) (cN ac ac),q⟩
   have:=((aD9 hr).mp<|h3 r hr).1
   lia
  .left
   rw[show(List.range n).map (λi=>D.bl (w8 n<|gD (toT L) n<|ttF p n<|toT L i))=((List.range n).map λi=>w8 n (gD (toT L) n<|ttF p n<|toT L i)).map D.bl by rw[dZ];rfl,iI]
   exact h
def c73:Φ:=λds Q=> ∃(n:Nat) (t:Nat->∅) (f:∅),ds=[.tup<|tbF n n t,aN<|rwF n f]/\n<=4/\Tri n t/\(∀r j,(t r j).natAbs<=2^900)/\(∀j,(f j).natAbs<=2^900)/\ ∀b,(b= .pu (.lst<|(rwF n<|gD t n f).map .int)\/b= .ow ((rwF n<|gD t n f).map .int))->Q b
def b91:US:=(gW (fQ<|a8 (uOp eB (aC 3)<|@1) aL) (bS 5)<|vU 2 (uOp M.gSub (uIx (aT 2)<|aC 5)<|uOp dE (aC 4)<|uIx (uV<|uIx (aT 0)<|aC 3)<|aC 5)<|aC 5)
def aE0:US:=(aU (bJ 4<|uOp aJ5 (uIx (aT 2)<|aC 3)<|uIx (uV<|uIx (aT 0)<|aC 3)<|aC 3) b91)
def bY7:US:=(pB 2)
def bY8:US:=(aU (gW (b80<|a8 (uOp M.gSub (iH<|aT 2)<|@1)<|a8 (mM<|@1)<|a8 (mM<|@1) aL) (bS 3) aE0) bY7)
def c74:US:=(aU (bJ 2<|aR rE<|a8 (aC 1) aL) bY8)
theorem dY2: Ra c73 c74 ["t","r","l","k","p","j"]:=by
 rintro ds Q ⟨n,t,f,rfl,n4,tk,tb,fb,h⟩;unfold c74;show(aU _ _:US) _ [~~~.tup (tbF n n t),~~~.tup ((rwF n f).map .int),none,none,none,none];rw[aM];left;unfold bY8;rw[aM];refine bI n (λk=> .int ((n:Int)-1-k)) [~~~.tup (tbF n n t),~~~.tup ((rwF n f).map .int),↑((rwF n f).map .int),none,none,none] (λQ' q=> ?_)
  (λk ρ=> ∃g x y z,ρ=[~~~.tup (tbF n n t),~~~.tup ((rwF n f).map .int),↑((rwF n g).map .int),x,y,z]/\gD t (n-k) g=gD t n f/\ ∀j,(g j).natAbs<=2^(900+901*k)) ⟨f,none,none,none,rfl,rfl,λj=>fb j⟩ ?_ ?_
 .left
  rw[bC];refine⟨trivial,⟨ad,ad,ac,ac⟩,?_⟩
  rw[show((n:Int)-1- -1).toNat=n by lia]
  exact q
 .rintro k ρ hk ⟨g,x,y,z,rfl,hr,hb⟩;obtain⟨i,hi⟩: ∃i:Nat,i=n-1-k:=⟨_,rfl⟩;have hin:i<n:=ad
  have ei:(n:Int)-1-(k:Int)=(i:Int):=ad
  have hpos:=tk.pos i hin;rw[ei];refine⟨ae,?_⟩
  show aE0 _ [~~~.tup (tbF n n t),~~~.tup ((rwF n f).map .int),↑((rwF n g).map .int),!(i:Int),y,z]
  unfold aE0;rw[aM];have e1:atI ((rwF n g).map D.int) (i:Int)=some (.int<|g i):=fW hin;have e2:atI (tbF n n t) (i:Int)=some (.tup<|(rwF n<|t i).map .int):=a27 hin;have e3:atI ((rwF n<|t i).map D.int) (i:Int)=some (.int<|t i i):=fW hin;left;simp only[e1,e2,e3];rw[lB _ hpos];refine⟨⟨ad,yP (tb i i) ac⟩,?_⟩
  unfold b91;refine bI (i+1) (λj=> .int (0+(j:Int))) [~~~.tup (tbF n n t),~~~.tup ((rwF n f).map .int),↑((rwF n g).map .int),!(i:Int),!g i/t i i,z] (λQ' q=> ?_)
   (λj ρ=> ∃z,ρ=[~~~.tup (tbF n n t),~~~.tup ((rwF n f).map .int),some<|.ow<|(rwF n λx=>if x<j then jT t i g x else g x).map .int,!(i:Int),!g i/t i i,z]) ⟨z,by rw[show(λx=>if x<0 then jT t i g x else g x)=g from funext λx=>a7 ad]⟩ ?_ ?_
  .left
   refine⟨⟨ad,ad⟩,?_⟩
   rw[show((i:Int)+1).toNat=i+1 by lia]
   exact q
  .rintro j ρ hj ⟨z,rfl⟩;rw[cF];have hjn:j<n:=ad
   have f1:atI ((rwF n λx=>if x<j then jT t i g x else g x).map D.int) (j:Int)=some (.int<|g j):=by
    rw[fW hjn,a7 ad]
   have f2:atI ((rwF n<|t i).map D.int) (j:Int)=some (.int<|t i j):=fW hjn;left;simp only[f1,e2,f2];rw[bC,b43 hjn];right;refine⟨ae,.inr ⟨yP (aH (tV _ _)<|hb i) ad,yP (tb i j) ac⟩,!(j:Int),?_⟩
   rw[tD hjn];have e7:(λx=>if x=j then g j-g i/t i i*t i j else if x<j then jT t i g x else g x)=λx=>if x<j+1 then jT t i g x else g x:=funext λx=>by
    by_cases c:x=j
    .rw[aA c,aA ad,c]
     rfl
    .rw[a7 c]
     by_cases d:x<j
     .rw[aA d,aA ad]
     .rw[a7 d,a7 ad]
   rw[e7]
  .rintro ρ ⟨z,rfl⟩;refine⟨jT t i g,!(i:Int),!g i/t i i,z,?_,?_,λj=> ?_⟩
   .rw[show(λx=>if x<i+1 then jT t i g x else g x)=jT t i g from funext λx=>by
     split
     .rfl
     .show g x=g x-g i/t i i*t i x
      rw[tk.zero i hin x ad]
      lia]
   .rw[<-hr,show n-k=i+1 by lia,show n-(k+1)=i by lia]
    rfl
   .have:=aB8 (i:=i) (tb i) hb j;rw[show 900+901*(k+1)=900+901*k+901 by lia]
    exact this
 .rintro ρ ⟨g,x,y,z,rfl,hr,hb⟩;try right
  unfold bY7;rw[uI]at hr;have eg:g=gD t n f:=hr;rw[<-eg]at h;left;exact h _ (.inr rfl)
def aE1:Φ:=λds Q=> ∃(n:Nat) (t:Nat->∅),ds=[.tup<|tbF n n t,.int (n:Int)]/\n<=8/\Q (.pu<|.bl true)
def aY7:US:=(d6<|aR bG2<|a8 (d5 [1] [none,some 1,none] 2 (dS<|aC 0) (bS 0) (λρ Q=>Q true ρ)<|aR cS2<|a8 (aC 0)<|a8 (aC 1) aL) aL)
def aE2:US:=(aU (fU (uOr (cB6<|cU<|aR cC2<|a8 (aC 0)<|a8 (uC<|.ty "tuple") aL)<|cU<|uOp (fS true) (iH<|aT 0)<|aC 1) (d6<|uC<|.bl false) dN) aY7)
theorem cG9: Ra aE1 aE2 ["f","m"]:=by
 rintro ds Q ⟨n,t,rfl,n8,h⟩;unfold aE2;show(aU _ _:US) _ [~~~.tup (tbF n n t),!(n:Int)];rw[aM];left;simp only[isI,oK,not_true,fZ,Bool.false_eq_true,Bool.not_true];unfold aY7;rw[gT,dO,dM]
 refine cJ (t0:=0) n (λi=>(tbF n n t).getD i .non) [~~~.tup (tbF n n t),!(n:Int)] ?_ aa (λx l=>[x,!(n:Int),↑l]) none rfl (λ_ _ _=>rfl) (λ_ _=>bQ _) (λ_ _ _ q=>q) (λ_ _ _=>rfl) (λ_=> .bl true) ?_ ?_
 .intro Q' q;left;rw[oK];exact q
 .intro i l Q' hi q;rw[yQ hi]at q⊢;left;exact⟨rwF n<|t i,by rw[n6],by rw[n6];omega,q⟩
 .left
  have e:(List.range n).map (λ_=>D.bl true)=(replicate n true).map D.bl:=by apply fG<;>simp
  rw[e,iI];right;rw[show(replicate n true).all id=true by simp]
  exact h
def b56:Φ:=λds Q=> ∃(n:Nat) (T:Nat->∅),ds=[.tup<|tbF n n T,.int (n:Int)]/\n<=8/\Q (.pu<|.bl<|((List.range n).map<|aT9 n T).all id)
def sM:US:=(fU (uOr (cU<|uOp (mT λi j=>decide (i<j)) (uIx (uV<|uIx (aT 0)<|aC 2)<|aC 3)<|@0)<|cU<|uOp (mT λi j=>decide (j<=i)) (uIx (uV<|uIx (aT 0)<|aC 2)<|aC 3)<|uIx (uV<|uIx (aT 0)<|aC 3)<|aC 3) (d6<|uC<|.bl false) dN)
def xF:US:=(gW (fQ<|a8 (aC 2) aL) (bS 3) sM)
def xG:US:=(aU (fU (uOr (cU<|uOp (mT λi j=>decide (i<j)) (uIx (uV<|uIx (aT 0)<|aC 2)<|aC 2)<|@1)<|cU<|aR dD5<|a8 (d5 [] [none,none] 1 (dS<|dC2 (uIx (aT 0)<|aC 2) (mJ<|uOp eB (aC 2)<|@1) jE) (bS 0) (λρ Q=>Q true ρ)<|uOp (fS true) (aC 0)<|@0) aL) (d6<|uC<|.bl false) dN) xF)
def aE3:US:=(d6<|uC<|.bl true)
def b92:US:=(aU (gW (fQ<|a8 (aC 1) aL) (bS 2) xG) aE3)
def b57:US:=(aU (fU (cB6<|cU<|aR aE1<|a8 (aC 0)<|a8 (aC 1) aL) (d6<|uC<|.bl false) dN) b92)
theorem d50: Ra b56 b57 ["f","m","i","j"]:=by
 rintro ds Q ⟨n,T,rfl,n8,h⟩;have bad: ∀i,i<n-> ¬bM2 n T i->Q (.pu<|.bl false):=λi hi nb=>by
  have e:((List.range n).map<|aT9 n T).all id=false:=by
   rw[List.all_eq_false];exact⟨_,bU.mpr ⟨i,bZ.mpr hi,rfl⟩,λz=>nb ((aD9 hi).mp z)⟩
  rw[e]at h;exact h
 have good:(∀i,i<n->bM2 n T i)->Q (.pu<|.bl true):=λg=>by
  have e:((List.range n).map<|aT9 n T).all id=true:=by
   rw[cL];rintro x hx;obtain⟨i,hi,rfl⟩:=bU.mp hx;exact(aD9<|bZ.mp hi).mpr (g i<|bZ.mp hi)
  rw[e]at h;exact h
 clear h;unfold b57;show(aU _ _:US) _ [~~~.tup (tbF n n T),!(n:Int),none,none];rw[aM];left;refine⟨n,T,rfl,n8,?_⟩;left;unfold b92;rw[aM]
 refine bI n (λk=> .int (0+(k:Int))) [~~~.tup (tbF n n T),!(n:Int),none,none] (λQ' q=> ?_) (λk ρ=>(∃x y,ρ=[~~~.tup (tbF n n T),!(n:Int),x,y])/\ ∀i,i<k->bM2 n T i) ⟨⟨none,none,rfl⟩,λi hi=>ad⟩ ?_ ?_
 .left
  refine⟨⟨ad,ad⟩,?_⟩
  rw[bE];exact q
 .rintro i ρ hi ⟨⟨x,y,rfl⟩,done⟩;rw[cF];refine⟨ae,?_⟩
  show xG _ [~~~.tup (tbF n n T),!(n:Int),!(i:Int),y]
  unfold xG;rw[aM];have e1:atI (tbF n n T) (i:Int)=some (.tup<|(rwF n<|T i).map .int):=a27 hi;have e2:atI ((rwF n<|T i).map D.int) (i:Int)=some (.int<|T i i):=fW hi;have e3:cutD ((rwF n<|T i).map D.int) (some<|(i:Int)+1) none=(rwF (n-(i+1)) λj=>T i (i+1+j)).map D.int:=by
   have:=aB4 ((rwF n<|T i).map D.int) (i+1) (by rw[bC];lia)
   rw[show(((i+1:Nat):Int))=(i:Int)+1 by lia]at this
   rw[this,<-nP,bY6]
  have cont:(∀j,i<j->j<n->T i j=0)->1<=T i i->xF {nx:=λρ=>(∃x y,ρ=[~~~.tup (tbF n n T),!(n:Int),x,y])/\ ∀k,k<i+1->bM2 n T k,rt:=Q,bk:=λρ=>aE3 {Q with} ρ,ct:=λρ=>(∃x y,ρ=[~~~.tup (tbF n n T),!(n:Int),x,y])/\ ∀k,k<i+1->bM2 n T k} [~~~.tup (tbF n n T),!(n:Int),!(i:Int),y]:=λz0 p0=>by
   unfold xF;refine bI i (λk=> .int (0+(k:Int))) [~~~.tup (tbF n n T),!(n:Int),!(i:Int),y] (λQ' q=> ?_) (λk ρ=>(∃y,ρ=[~~~.tup (tbF n n T),!(n:Int),!(i:Int),y])/\ ∀j,j<k->0<=T i j/\T i j<T j j) ⟨⟨y,rfl⟩,λj hj=>ad⟩ ?_ ?_
   .left
    refine⟨⟨ad,ad⟩,?_⟩
    rw[bE];exact q
   .rintro j ρ hj ⟨⟨y,rfl⟩,dj⟩;rw[cF];refine⟨ae,?_⟩
    show sM _ [~~~.tup (tbF n n T),!(n:Int),!(i:Int),!(j:Int)]
    unfold sM;have f1:atI ((rwF n<|T i).map D.int) (j:Int)=some (.int<|T i j):=fW ad
    have f2:atI (tbF n n T) (j:Int)=some (.tup<|(rwF n<|T j).map .int):=a27 ad
    have f3:atI ((rwF n<|T j).map D.int) (j:Int)=some (.int<|T j j):=fW ad
    left
    simp only[e1,f1,f2,f3]
    by_cases c1:T i j<0
    .rw[aA c1];exact bad i hi λr=>by have:=r.2.2 j hj;lia
    rw[a7 c1]
    by_cases c2:T j j<=T i j
    .rw[aA c2];exact bad i hi λr=>by have:=r.2.2 j hj;lia
    rw[a7 c2];refine⟨⟨_,rfl⟩,λk hk=> ?_⟩
    by_cases e:k=j
    .subst e;exact⟨ad,ad⟩
    .exact dj k ad
   .rintro ρ ⟨⟨y,rfl⟩,dj⟩;refine⟨⟨_,y,rfl⟩,λk hk=> ?_⟩
    by_cases e:k=i
    .subst e;exact⟨p0,z0,dj⟩
    .exact done k ad
  left
  simp only[e1,e2,e3]
  by_cases c1:T i i<1
  .rw[aA c1];exact bad i hi λr=>by have:=r.1;lia
  rw[a7 c1];refine cJ (t0:=0) (n-(i+1)) (λk=>((rwF (n-(i+1)) λj=>T i (i+1+j)).map D.int).getD k .non) [~~~.tup (tbF n n T),!(n:Int),!(i:Int),y] ?_ ad (λx l=>[x,↑l]) none rfl (λ_ _ _=>rfl) (λ_ _=>bQ _) (λ_ _ _ q=>q) (λ_ _ _=>rfl) (λj=> .bl (not<|decide (T i (i+1+j)=0))) ?_ ?_
  .intro Q' q;left;rw[e1];right;rw[e3,bC];exact q
  .intro j l Q' hj q;rw[iS hj]at q⊢;left;exact q
  .left
   rw[show(List.range<|n-(i+1)).map (λj=>D.bl (not<|decide (T i (i+1+j)=0)))=((List.range<|n-(i+1)).map λj=>not (decide (T i (i+1+j)=0))).map D.bl by rw[dZ];rfl,iI]
   right
   by_cases c2:((List.range<|n-(i+1)).map λj=>not (decide (T i (i+1+j)=0))).any id=true
   .rw[aA c2];obtain⟨x,hx,hx1⟩:=List.any_eq_true.mp c2;obtain⟨j,hj,rfl⟩:=bU.mp hx;have hj:=bZ.mp hj;exact bad i hi λr=>by
     have:=r.2.1 (i+1+j) ad ad
     simp[this]at hx1
   .rw[a7 c2];refine cont (λj h1 h2=> ?_) ad
    by_cases z:T i j=0
    .exact z
    .refine absurd (List.any_eq_true.mpr ⟨_,bU.mpr ⟨j-(i+1),bZ.mpr ad,rfl⟩,?_⟩) c2
     rw[show i+1+(j-(i+1))=j by lia]
     simp[z]
 .rintro ρ ⟨⟨x,y,rfl⟩,done⟩;unfold aE3;left;exact good done
nonrec def shB (p:List Int)(n:Nat)(T:Nat->∅):Bool:=((List.range n).map λi=>w8 n (gD T n<|ttF p n<|T i)).all id
def c75:Φ:=λds Q=> ∃(p:List Int) (n:Nat) (T:Nat->∅),ds=[aN p,.tup<|tbF n n T]/\eO p/\p.length=n+1/\Tri n T/\(∀i j,(T i j).natAbs<=2^700)/\Q (.pu<|.bl<|shB p n T)
def bY9:US:=(d6<|aR bG2<|a8 (d5 [1,0,3,2] [none,some 1,some 0,some 3,some 2,none] 5 (dS<|aC 1) (bS 0) (λρ Q=>Q true ρ)<|uOp (cO4 false) (aR c73<|a8 (aC 1)<|a8 (aR aD3<|a8 (aC 2)<|a8 (aC 3)<|a8 (aC 0) aL) aL)<|uOp dE (fL<|a8 @0 aL)<|aC 4) aL)
def bZ0:US:=(aU (bJ 3<|aR cC<|a8 (d5 [] [none,none] 1 (fQ<|a8 (aC 2) aL) (bS 0) (λρ Q=>Q true ρ)<|aR aA2<|a8 (uOp (fS false) (aC 0)<|@1) aL) aL) bY9)
def c76:US:=(aU (bJ 2<|uOp M.gSub (iH<|aT 0)<|@1) bZ0)
theorem dY3 :decide (rwF n f=replicate n 0)=w8 n f:=by
 unfold w8;rw[uB,fY,List.eq_replicate_iff,cL];constructor
 .rintro⟨_,h⟩ x hx;rw[h x hx]
  decide
 .intro h;exact⟨n6 _ _,λx hx=>by simpa using h x hx⟩
theorem dY4: Ra c75 c76 ["p","t","m","u"]:=by
 rintro ds Q ⟨p,n,T,rfl,rp,hn,tk,tb,h⟩;have lo:=rp.ok.lo;have hi:=rp.ok.hi;have n2:2<=n:=ad
 have n4:n<=4:=ad
 unfold c76;show(aU _ _:US) _ [~~~.tup (p.map .int),~~~.tup (tbF n n T),none,none];rw[aM];left;rw[aG,show(p.length:Int)-1=(n:Int)by lia]
 unfold bZ0;rw[aM,kA];refine bX6 1 rfl n n4 rfl ?_;dsimp only[set_cons_succ,set_cons_zero];rw[show(λk=>if k=1 then(1:Int)else 0)=tnF from rfl]
 unfold bY9;rw[gT,dO,dM]
 refine cJ (t0:=0) n (λk=>(tbF n n T).getD k .non) [~~~.tup (p.map .int),~~~.tup (tbF n n T),!(n:Int),~~~aN (rwF n tnF)] ?_ ad (λx l=>[x,~~~.tup (tbF n n T),~~~.tup (p.map .int),~~~aN (rwF n tnF),!(n:Int),↑l]) none rfl (λ_ _ _=>rfl) (λ_ _=>bQ _) (λ_ _ _ q=>q) (λ_ _ _=>rfl) (λi=> .bl (w8 n<|gD T n<|ttF p n<|T i)) ?_ ?_
 .intro Q' q;left;rw[oK];exact q
 .intro i l Q' hi q;rw[yQ hi]at q⊢;left;refine⟨p,n,700,tnF,cz n<|T i,by rw[dJ6];rfl,rp,hn,ac,λj=>bX5 _ j,cF5<|tb i,λj hj=>c65 n2 hj,λj hj=>cR9 hj,?_⟩
  rw[dK2 n2 n4];left;refine⟨n,T,ttF p n<|T i,rfl,n4,tk,λr j=>aH (tb r j) (cN ac ac),λj=>aH (b51 rp.ok.small (tb i) j) (cN ac ac),?_⟩
  rintro b hb;refine⟨ac,⟨ad,ad,by rw[bE];exact aH (show(0+1)*n<=4 by lia) ac⟩,?_⟩
  rw[bE,hJ];have g:cO4 false (.lst<|(rwF n<|gD T n<|ttF p n<|T i).map .int) (.lst<|(replicate n (0:Int)).map .int) λb=>Q' b [~~~aN (rwF n (T i)),~~~.tup (tbF n n T),~~~.tup (p.map .int),~~~aN (rwF n tnF),!(n:Int),↑l]:=dH2 (by rw[l4,dY3];exact q)
  rcases hb with rfl|rfl
  .exact g
  .exact g
 .left
  rw[show(List.range n).map (λi=>D.bl (w8 n<|gD T n<|ttF p n<|T i))=((List.range n).map λi=>w8 n (gD T n<|ttF p n<|T i)).map D.bl by rw[dZ];rfl,iI]
  exact h
def c77:Φ:=λds Q=> ∃(p:List Int) (n:Nat) (L:List (List Int)),ds=[aN p,bM3 L]/\eO p/\p.length=n+1/\aL6 L/\Q (.pu<|.bl<|idB p n L)
def cH0:US:=(d6<|cB7 (aR b56<|a8 (aC 1)<|a8 (aC 2) aL)<|aR c75<|a8 (aC 0)<|a8 (aC 1) aL)
def cH1:US:=(aU (fU (uOr (cU<|uOp (fS true) (iH<|aT 1)<|aC 2)<|cU<|aR dD5<|a8 (d5 [2] [none,some 2,none] 2 (dS<|aC 1) (bS 0) (λρ Q=>Q true ρ)<|uOp (fS true) (iH<|aT 0)<|aC 1) aL) (d6<|uC<|.bl false) dN) cH0)
def cS7:US:=(aU (bJ 2<|uOp M.gSub (iH<|aT 0)<|@1) cH1)
theorem rd_due: Ra c77 cS7 ["p","t","m"]:=by
 rintro ds Q ⟨p,n,L,rfl,rp,hn,ok,h⟩;have lo:=rp.ok.lo;have hi:=rp.ok.hi;have hL:=ok.few;have hb:idB p n L=((decide (L.length=n)&&(L.all λl=>decide (l.length=n))&&((List.range n).map<|aT9 n<|toT L).all id)&&shB p n (toT L)):=rfl
 unfold cS7;show(aU _ _:US) _ [~~~.tup (p.map .int),~~~.tup (L.map aN),none];rw[aM];left;rw[aG,show(p.length:Int)-1=(n:Int)by lia]
 unfold cH1;rw[aM];left;rw[aG]
 by_cases c1:L.length=n
 rotate_left
 .rw[aA ad]
  rw[eF c1,fH,fH,fH]at hb;rw[hb]at h;exact h
 rw[a7 ad]
 rw[gH c1,gU]at hb;refine cG8 hL rfl rfl ?_;left;rw[iI];right;rw[c72]
 by_cases c2:(L.all λl=>decide (l.length=n))=true
 rotate_left
 .have c3:=aQ7 _ |>.mp c2;rw[c3,aA<|show(not false)=true from rfl]
  rw[c3,fH,fH]at hb;rw[hb]at h;exact h
 rw[c2,a7<|show ¬(not true)=true by decide]
 rw[c2,gU]at hb;have hl: ∀l∈L,l.length=n:=λl hl=>by simpa using cL.mp c2 l hl
 rw[c71 c1 hl];unfold cH0;left;refine⟨n,toT L,rfl,ad,?_⟩
 left
 cases e:((List.range n).map<|aT9 n<|toT L).all id with
 | false=>
  rw[e,fH]at hb;rw[hb]at h;exact h
 | true=>
  rw[e,gU]at hb;rw[hb]at h;refine⟨p,n,toT L,rfl,rp,hn,⟨λi hi=> ?_,λi hi j hj=> ?_⟩,ok.ent,h⟩
  .exact((aD9 hi).mp<|cL.mp e _<|bU.mpr ⟨i,bZ.mpr hi,rfl⟩).1
  .by_cases hjn:j<n
   .exact((aD9 hi).mp<|cL.mp e _<|bU.mpr ⟨i,bZ.mpr hi,rfl⟩).2.1 j hj hjn
   .unfold toT;have:i<L.length:=ad
    rw[aO (l:=L),aS this,aQ8,aO,fA (by rw[hl _<|cE this];lia)]
    rfl
def frW (n:Nat):List Int:=[3]++replicate n 12++replicate 6 10000
theorem dL1 (h:Below xs (frW n))(hk:k<n+7)(hw:(frW n)[k]? =some w): ∃x,atI (xs.map D.int) (k:Int)=some (.int x)/\0<=x/\x<w:=by
 have hl:xs.length=n+7:=by rw[h.1];unfold frW;simp
 have e:xs[k]? =some xs[k]:=aS ad
 exact⟨xs[k],cG (by rw[aZ,e];rfl),h.2 k _ _ e hw⟩
def tri:Nat->Nat
 | 0=>0
 | i+1=>tri i+i
theorem tri_lt {j:Nat}(hi:i<n)(n4:n<=4)(hj:j<i):tri i+j<6:=by
 rcases(show i=0\/i=1\/i=2\/i=3 by lia)with rfl|rfl|rfl|rfl<;>(simp only[tri];lia)
theorem d51 (w:Int)(hi:i<k):((replicate i [D.int 0]).flatten++[D.int w])++(replicate (k-1-i) [D.int 0]).flatten=(rwF k λx=>if x=i then w else 0).map .int:=by
 rw[hJ,hJ,show [D.int w]=[w].map D.int from rfl,<-bT,<-bT]
 congr 1
 apply pT
 intro x
 by_cases hx:x<k
 .rw[cX6 hx]
  by_cases c1:x<i
  .rw[iW (by simp;omega),iW<|by simpa using c1,pJ,aA c1,a7 aa]
  .by_cases c2:x=i
   .subst c2;simp
   .rw[jW (by simp;omega),pJ,aA (by simp;omega),a7 c2]
 .rw[fA (by simp;omega),fA (by rw[n6];omega)]
def FrP (c q:Int)(n:Nat)(xs:List Int)(i:Nat)(ρ:Ev):Prop:= ∃(T:Nat->∅) (s6 s7 s8 s9:Option B),ρ=[!c,!(n:Int),!q,↑(xs.map .int),↑(tbF i n T),!((n+1+tri i:Nat):Int),s6,s7,s8,s9]/\(∀r,r<i->0<T r r)/\ ∀r j,(T r j).natAbs<=2^20
def c78:Φ:=λds Q=> ∃(c:Int) (n:Nat) (q:Int),ds=[.int c,.int (n:Int),.int q]/\2<=n/\n<=4/\0<q/\ ∀T:Nat->∅,(∀i j,(T i j).natAbs<=2^20)->Q (.pu<|.tup<|tbF n n T)
def aL7:US:=(bJ 5<|uOp eB (aC 5)<|@1)
def xH:US:=(aU (vU 8 (uOp kP (uIx (aT 3)<|aC 5)<|uIx (uV<|uIx (aT 4)<|aC 9)<|aC 9)<|aC 9) aL7)
def b93:US:=(aR4 4<|aR cC<|a8 (aC 8) aL)
def b94:US:=(aU (gW (fQ<|a8 (aC 6) aL) (bS 9) xH) b93)
def wA:US:=(aU (bJ 8<|uOp eB (uOp eB (uOp dE (fL<|a8 @0 aL)<|aC 6)<|fL<|a8 (aC 7) aL)<|uOp dE (fL<|a8 @0 aL)<|uOp M.gSub (uOp M.gSub (aC 1)<|@1)<|aC 6) b94)
def b95:US:=(aU (fU (cU<|uOp (fS false) (uIx (aT 3)<|@0)<|@0) (bJ 7<|uOp eB @1<|uOp dE (aR aA2<|a8 (uOp (fS false) (aC 6)<|uOp M.gSub (aC 1)<|@1) aL)<|aC 7) dN) wA)
def aE4:US:=(aU (bJ 7<|uOp eB @1<|uIx (aT 3)<|uOp eB @1<|aC 6) b95)
def aI5:US:=(d6<|aR cC<|a8 (aC 4) aL)
def bZ1:US:=(aU (gW (fQ<|a8 (aC 1) aL) (bS 6) aE4) aI5)
def bZ2:US:=(aU (bJ 5<|uOp eB (aC 1)<|@1) bZ1)
def bZ3:US:=(aU (bJ 4<|fL aL) bZ2)
def c79:US:=(aU (bJ 3<|aR lD<|a8 (aC 0)<|a8 (uOp eB (uOp eB (fL<|a8 @3 aL)<|uOp dE (fL<|a8 @12 aL)<|aC 1)<|uOp dE (fL<|a8 (uOp bA6 @10<|@4) aL)<|@6)<|a8 (aC 2) aL) bZ3)
theorem fr_w2 (hk:k<6):(frW n)[n+1+k]? =some 10000:=by
 unfold frW;rw[jW ae]
 simp only[cB,aO3,iD];rw[pJ,aA ad]
theorem bZ4 {s8 s9:Option B}(hx:Below xs (frW n))(n4:n<=4)(hi:i<n)(tp: ∀r,r<i->0<T r r)(tb: ∀r j,(T r j).natAbs<=2^20){o:Int}(o1:1<=o)(o2:o<=20)(hE: ∀ρ,FrP c q n xs (i+1) ρ->E.nx ρ):wA E [!c,!(n:Int),!q,↑(xs.map .int),↑(tbF i n T),!((n+1+tri i:Nat):Int),!(i:Int),!o,s8,s9]:=by
 unfold wA;rw[aM];left;have c1:=d51 (k:=n) o hi;have k1: ∀z:Int,0<=z->z<=4-> -2^63<=z/\z<2^63/\(0+1)*z.toNat<=sizeLine:=λz z0 z4=>⟨ad,ad,aH (show(0+1)*z.toNat<=4 by lia) ac⟩
 refine⟨ac,k1 _ ad ad,ac,?_,ac,k1 _ ad ad,?_,?_⟩
 .rw[bE,hJ,aG,iD];exact aH (show i+(0+1)<=5 by lia) ac
 .rw[bE,show((n:Int)-1-(i:Int)).toNat=n-1-i by lia,hJ,hJ]
  simp only[cB,aG,iD,dP,nN];exact aH (show i+(0+1)+(n-1-i)<=20 by lia) ac
 rw[bE,show((n:Int)-1-(i:Int)).toNat=n-1-i by lia,c1]
 unfold b94;rw[aM];refine bI i (λk=> .int (0+(k:Int))) [!c,!(n:Int),!q,↑(xs.map .int),↑(tbF i n T),!((n+1+tri i:Nat):Int),!(i:Int),!o,some<|.ow<|(rwF n λx=>if x=i then o else 0).map .int,s9] (λQ' q'=> ?_)
  (λj ρ=> ∃(g:∅) (s9:Option B),ρ=[!c,!(n:Int),!q,↑(xs.map .int),↑(tbF i n T),!((n+1+tri i+j:Nat):Int),!(i:Int),!o,↑((rwF n g).map .int),s9]/\g i=o/\ ∀x,(g x).natAbs<=2^20) ⟨_,s9,rfl,aA rfl,λx=> ?_⟩ ?_ ?_
 .left
  refine⟨⟨ad,ad⟩,?_⟩
  rw[bE];exact q'
 .by_cases e:x=i
  .rw[aA e];lia
  .rw[a7 e];decide
 .rintro j ρ hj ⟨g,s9,rfl,gi,gb⟩;rw[cF];refine⟨ae,?_⟩
  show xH _ [!c,!(n:Int),!q,↑(xs.map .int),↑(tbF i n T),!((n+1+tri i+j:Nat):Int),!(i:Int),!o,↑((rwF n g).map .int),!(j:Int)]
  unfold xH;rw[aM];have t6:=tri_lt hi n4 hj;obtain⟨x2,i2,x2a,x2b⟩:=dL1 hx (k:=n+1+tri i+j) ad (by rw[a07<|n+1];exact fr_w2 t6)
  have f2:atI (tbF i n T) (j:Int)=some (.tup<|(rwF n<|T j).map .int):=a27 hj;have f3:atI ((rwF n<|T j).map D.int) (j:Int)=some (.int<|T j j):=fW ad
  left
  simp only[i2,f2,f3];have tj:=tp j hj;have tjb:=tb j j;rw[dD _ tj,bC,b43<|show j<n by lia]
  right;have m1:=d8 x2 (show T j j≠0 by lia)
  have m2:=dG x2 tj;refine⟨ad,?_⟩
  rw[tD<|show j<n by lia]
  unfold aL7;left;refine⟨_,_,by rw[show((n+1+tri i+(j+1):Nat):Int)=((n+1+tri i+j:Nat):Int)+1 by lia],by rw[a7 ad];exact gi,λx=> ?_⟩
  by_cases e:x=j
  .rw[aA e];have:(x2%T j j)<=2^20:=ad
   lia
  .rw[a7 e];exact gb x
 .rintro ρ ⟨g,s9,rfl,gi,gb⟩;right;unfold b93;left;have eT:tbF i n T++[D.tup<|(rwF n g).map .int]=tbF (i+1) n λr=>if r=i then g else T r:=by
   rw[<-cG4,aA rfl]
   congr 1
   unfold tbF;refine u5 λr hr=> ?_
   have hr:=bZ.mp hr;show aN (rwF n<|T r)=aN (rwF n<|if r=i then g else T r);rw[a7 ad]
  have et:n+1+tri i+i=n+1+tri (i+1):=a07 _ _ _;rw[eT,et,oK];refine⟨b9 (show i<10 by lia) ac,hE _ ⟨_,_,_,_,_,rfl,λr hr=> ?_,λr j=> ?_⟩⟩
  .by_cases e:r=i
   .subst e;rw[aA rfl,gi];lia
   .rw[a7 e];exact tp r ad
  .by_cases e:r=i
   .rw[aA e];exact gb j
   .rw[a7 e];exact tb r j
theorem dY5: Ra c78 c79 ["c","n","q","w","t","a","i","o","r","j"]:=by
 rintro ds Q ⟨c,n,q,rfl,n2,n4,hq,h⟩;unfold c79;show(aU _ _:US) _ [!c,!(n:Int),!q,none,none,none,none,none,none,none];rw[aM];left;rw[bE,show toNat 6=6 from rfl,show(10:Int)^toNat 4=10000 by decide,hJ,hJ]
 refine⟨ac,ac,⟨ad,ad,aH (show(0+1)*n<=10 by lia) ac⟩,?_,cpl ac ac ac,ac,ac,?_,c,frW n,q,?_,by unfold frW;simp;lia,hq,λw hw=> ?_,λxs hx=> ?_⟩
 .rw[aG,iD];exact aH (show 0+1+n<=10 by lia) ac
 .simp only[cB,aG,iD,dP,nN];exact aH (show 0+1+n+6<=20 by lia) ac
 .unfold frW;rw[bT,bT];rfl
 .unfold frW at hw;simp only[cR,List.mem_replicate,fE]at hw;rcases hw with(rfl| ⟨_,rfl⟩)| ⟨_,rfl⟩<;>decide
 dsimp only[set_cons_succ,set_cons_zero];unfold bZ3;rw[aM];left;refine⟨ac,?_⟩
 unfold bZ2;rw[aM];left;unfold bZ1;rw[aM];have w0:(frW n)[0]? =some 3:=rfl;have w1: ∀i,i<n->(frW n)[1+i]? =some 12:=λi hi=>by
  unfold frW;rw[iW (by simp;lia),jW ae]
  simp[hi]
 obtain⟨x0,i0,_⟩:=dL1 hx (k:=0) ad w0
 refine bI n (λk=> .int (0+(k:Int))) [!c,!(n:Int),!q,↑(xs.map .int),↑[],!((n:Int)+1),none,none,none,none] (λQ' q'=> ?_)
  (FrP c q n xs) ⟨λ_ _=>0,none,none,none,none,rfl,λr hr=>ad,λ_ _=>(by decide:(0:Int).natAbs<=2^20)⟩ ?_ ?_
 .left
  refine⟨⟨ad,ad⟩,?_⟩
  rw[bE];exact q'
 .rintro i ρ hi ⟨T,s6,s7,s8,s9,rfl,tp,tb⟩;rw[cF];refine⟨ae,?_⟩
  show aE4 _ [!c,!(n:Int),!q,↑(xs.map .int),↑(tbF i n T),!((n+1+tri i:Nat):Int),!(i:Int),s7,s8,s9]
  unfold aE4;rw[aM];obtain⟨x1,i1,x1a,x1b⟩:=dL1 hx (k:=1+i) ad (w1 i hi)
  rw[show((1+i:Nat):Int)=1+(i:Int)by lia]at i1
  left
  rw[i1];right;unfold b95;rw[aM];show(fU _ _ _:US) {nx:=wA {nx:=FrP c q n xs (i+1),rt:=Q,bk:=aI5 {Q with},ct:=FrP c q n xs (i+1)},rt:=Q,bk:=aI5 {Q with},ct:=FrP c q n xs (i+1)} _
  simp only[fU,cU,uOp,uC,aC,aK3,aT,bV1,uIx,gIx,oG];left;rw[show(0:Int)=((0:Nat):Int)from rfl,i0]
  right;split
  .refine⟨cmL (by split<;>lia) (by split<;>lia),bZ4 hx n4 hi tp tb (by split<;>lia) (by split<;>lia) λρ hρ=>hρ⟩
  .exact bZ4 hx n4 hi tp tb ad ad λρ hρ=>hρ
 .rintro ρ ⟨T,s6,s7,s8,s9,rfl,tp,tb⟩;unfold aI5;left;exact h T tb
theorem cS8 (n:Nat)(it:Nat->D)(ρ1:Ev)(hui: ∀Q:Nat->(Nat->D)->Ev->Prop,Q n it ρ1->ui ρ Q)(hn:n<=1000000)
  (G:Option B->List D->Ev) (x0:Option B) (h0:pC (uQ ρ1 js) cap last=G x0 []) (h1: ∀x l b,(G x l).set t0 (some b)=G (some b) l) (h1': ∀x l,t0< (G x l).length) (h2: ∀x l (Q:List D->Prop),Q l->jS (G x l) last Q) (h3: ∀x l l',(G x l).set last (↑l')=G x l')
  (f:Nat->List D) (hte: ∀i l (Q':B->Ev->Prop),i<n->Q' (.ow<|f i) (G (~~~it i) l)->te (G (~~~it i) l) Q') (hq:Q (.ow<|(List.range n).map λi=> .lst (f i)) (uQ ρ1 js)) :
  d5 js cap last ui (bS t0) (λρ Q=>Q true ρ) te ρ Q:=by
 refine hui _ ⟨λi ρ'=> ∃x,ρ'=G x ((List.range i).map λi=> .lst (f i)),⟨x0,h0⟩,?_,?_⟩
 .rintro i ρ' hi ⟨x,rfl⟩;refine⟨h1' _ _,?_⟩;rw[h1];refine hte i _ _ hi (h2 _ _ _ ⟨?_,~~~it i,?_⟩)
  .rw[aG,jY];exact b9 hi (aH hn ac)
  .rw[h3,cS,bT];rfl
 .rintro ρ' ⟨x,rfl⟩;exact h2 _ _ _ hq
structure gA (ls:List (List Int)):Prop where
 few:ls.length<=6
 thin: ∀l∈ls,l.length<=6
 bd: ∀l∈ls,∀x∈l,x.natAbs<=2^690
section
variable {ls:List (List Int)}{l:List Int}{T:Nat->∅}{c q k a3 a4:Int}{n i j:Nat}{m:Bool}{s9:Option B}{E:UD}{Q:B->Prop}
theorem gA.mem {ls':List (List Int)}(h:gA ls)(f:ls'.length<=6)(s: ∀l∈ls',l∈ls\/l.length<=6/\ ∀x∈l,x.natAbs<=2^690):gA ls':=
 ⟨f,λl hl=>(s l hl).elim (h.thin l) And.left,λl hl=>(s l hl).elim (h.bd l) cT⟩
theorem gA.set (h:gA ls)(r:Nat)(hl:l.length<=6)(hb: ∀x∈l,x.natAbs<=2^690):gA (ls.set r l):=
 h.mem (by rw[cZ];exact h.few) λl' hm=>(zL hm).imp id λe=>by rw[e];exact⟨hl,hb⟩
theorem gA.tab (h:gA ls):aL6 ls:=⟨aH h.few ac,λl hl x hx=>aH (h.bd l hl x hx) (cN ac ac)⟩
nonrec def spE (c q:Int)(n:Nat)(T:Nat->∅)(ds:List D)(ls:List (List Int))(i j:Nat)(k:Int)(s9:Option B):Ev:=[!c,~~~.tup (tbF n n T),!q,!(n:Int),↑ds,↑(ls.map k8),!(i:Int),!(j:Int),!k,s9]
def xI:UQ:=λ_=>(d6<|aR cC<|a8 (d5 [] [none,none] 1 (dS<|aC 5) (bS 0) (λρ Q=>Q true ρ)<|aR cC<|a8 (aC 0) aL) aL)
def xJ:UQ:=(uoN (cU<|uOp (fS false) (aC 8)<|@15) (b36 5 (uOp dE (uIx (uV<|uIx (aT 5)<|@0)<|@0)<|uOp eB @2<|uIx (aT 4)<|@4) @0<|@0) xI)
def xK:UQ:=(uoN (cU<|uOp (fS false) (aC 8)<|@14) (b36 5 (uOp eB (uIx (uV<|uIx (aT 5)<|aC 6)<|aC 6)<|@1) (aC 6)<|aC 6) xJ)
def xL:UQ:=(uoP (cU<|uOp (fS false) (aC 8)<|@13) (bJ 5<|fL<|a8 (fL aL) aL) xK)
def xM:UQ:=(uoP (cU<|uOp (fS false) (aC 8)<|@12) (bJ 5<|fL aL) xL)
def xN:UQ:=(uoP (cU<|uOp (fS false) (aC 8)<|@11) (bJ 5<|d5 [] [none,none] 1 (dS<|aC 5) (bS 0) (λρ Q=>Q true ρ)<|d5 [] [none,none] 1 (dS<|aC 0) (bS 0) (λρ Q=>Q true ρ)<|uOp dE @2<|aC 0) xM)
def xO:UQ:=(uoP (cU<|uOp (fS false) (aC 8)<|@10) (d19 (jG<|a8 (uIx (aT 5)<|aC 7)<|a8 (uIx (aT 5)<|aC 6) aL)<|rM<|dE9 2<|c32 5 (aC 6)<|c32 5 (aC 7) rL) xN)
def xP:UQ:=(uoN (cU<|uOp (fS false) (aC 8)<|@9) (dE7 5 (aC 6)<|a8 (aC 7)<|a8 @0 aL) xO)
def xQ:UQ:=(uoN (cU<|uOp (fS false) (aC 8)<|@8) (dE6 5 (aC 6)<|a8 (aC 7) aL) xP)
def a46:UQ:=(uoP (cU<|uOp (fS false) (aC 8)<|@7) (aR4 5<|aR rE<|a8 (uIx (aT 5)<|uOp M.gSub (aC 3)<|@1) aL) xQ)
def a47:UQ:=(uoP (cU<|uOp (fS false) (aC 8)<|@6) (dE8 5<|a8 (aC 6) aL) a46)
def a48:UQ:=(uoN (cU<|uOp (fS false) (aC 8)<|@5) (b36 5 (uOp eB (uIx (uV<|uIx (aT 5)<|aC 6)<|uOp M.gSub (aC 3)<|@1)<|@1) (aC 6)<|uOp M.gSub (aC 3)<|@1) a47)
def a49:UQ:=(uoN (cU<|uOp (mT λi j=>decide (i<j)) (aC 8)<|@5) (aU (aK9 5 9<|uIx (uV<|fL<|a8 @0<|a8 @1<|a8 (uIx (uV<|uIx (aT 5)<|aC 7)<|aC 7)<|a8 (uOp dE (uIx (uV<|uIx (aT 5)<|aC 6)<|aC 6)<|uOp eB @1<|uOp kP (uIx (aT 4)<|@4)<|@2)<|a8 (uOp dE (mM<|uIx (uV<|uIx (aT 5)<|aC 6)<|aC 6)<|uOp eB @1<|uOp kP (uIx (aT 4)<|@4)<|@2) aL)<|aR dA8<|a8 @0<|a8 (aC 8) aL)<|aU (uIfN (cU<|uOp (mT λi j=>decide (j<i)) (aC 8)<|@2) (aK9 5 7<|aC 6) dN)<|b36 5 (uOp eB (uIx (uV<|uIx (aT 5)<|aC 6)<|aC 7)<|uOp dE (aC 9)<|uIx (uV<|fL<|a8 @1<|a8 (mM<|@1) aL)<|uOp dE (uIx (aT 4)<|@3)<|aR aA2<|a8 (uOp (mT λi j=>decide (i<j)) (aC 8)<|@3) aL) (aC 6)<|aC 7) a48)
def aY8:UQ:=uQs (aK9 5 8<|uOp M.gSub (uIx (aT 4)<|@0)<|@4) a49
def aY9:UQ:=uQs (aK9 5 7<|uIx (aT 4)<|@2) aY8
def aZ0:UQ:=uQs (aK9 5 6<|uIx (aT 4)<|@1) aY9
def b96:US:=(aU (bD5 5<|aC 1)<|aZ0 true)
def b97:US:=(aU (bJ 4<|aR lD<|a8 (aC 0)<|a8 (fL<|a8 @20<|a8 (aC 3)<|a8 (aC 3)<|a8 @2<|a8 @3 aL)<|a8 (aC 2) aL) b96)
def b58:US:=(aU (bJ 3<|iH<|aT 1) b97)
variable {ds:List D}
structure SpH (E:UD)(Q:B->Prop)(ds:List D):Prop where
 h: ∀L,aL6 L->Q (.pu<|bM3 L)
 hE:E.rt=Q
 ha: ∃a:Int,atI ds 4=some (.int a)/\0<=a/\a<3
theorem e24 (S:SpH E Q ds)(ok:gA ls):xI m E (spE c q n T ds ls i j k s9):=by
 have h:=S.h ls ok.tab;have few:=ok.few;unfold xI spE;rw[gT,dO,dM]
 refine cJ (t0:=0) ls.length (λk=>(ls.map k8).getD k .non) [!c,~~~.tup (tbF n n T),!q,!(n:Int),↑ds,~~~.lst (ls.map k8),!(i:Int),!(j:Int),!k,s9] ?_ ad (λx l=>[x,↑l]) none rfl (λ_ _ _=>rfl) (λ_ _=>bQ _) (λ_ _ _ q=>q) (λ_ _ _=>rfl) (λr=>aN (ls.getD r [])) ?_ ?_
 .intro Q' q;left;rw[aG];exact q
 .intro r l Q' hr q;have e:(ls.map k8).getD r .non=k8 (ls.getD r []):=by
   rw[aO,aZ,aO (l:=ls),aS hr];rfl
  rw[e]at q⊢;unfold k8 at q⊢;left;exact q
 .left
  have e:(List.range ls.length).map (λr=>aN (ls.getD r []))=ls.map aN:=by
   apply fG
   .simp
   .intro r a b;have hr:r<ls.length:=by exists a
    simp[aO,aS hr]
  rw[e,S.hE];exact h
theorem sp_at (hi:i<ls.length): ∃l,ls[i]? =some l/\l∈ls/\atI (ls.map k8) (i:Int)=some (.lst<|l.map .int):=
 ⟨ls[i],aS hi,cE hi,cG (by rw[aZ,aS hi];rfl)⟩
theorem bZ5 (hj:j<l.length): ∃x,x∈l/\atI (l.map D.int) (j:Int)=some (.int x):=
 ⟨l[j],cE hj,cG (by rw[aZ,aS hj];rfl)⟩
structure a50 (n:Nat)(ls:List (List Int))(i j:Nat):Prop where
 n2:2<=n
 n4:n<=4
 len:ls.length=n
 row: ∀l∈ls,l.length=n/\ ∀x∈l,x.natAbs<=2^600
 hi:i<n
 hj:j<n
theorem gA.cell (h:gA ls){r x:Nat}{l:List Int}(hl:l∈ls)(hv:v.natAbs<=2^690):gA (ls.set r<|l.set x v):=
 h.set r (by rw[cZ];exact h.thin l hl) λy hy=>(zL hy).elim (h.bd l hl y) λe=>by rw[e];exact hv
theorem a50.fnd (O:a50 n ls i j)(hi:i<n): ∃l,ls[i]? =some l/\l∈ls/\atI (ls.map k8) (i:Int)=some (.lst<|l.map .int)/\l.length=n/\ ∀x∈l,x.natAbs<=2^600:=by
 obtain⟨l,h1,h2,h3⟩:=sp_at (ls:=ls) (i:=i) (by rw[O.len];exact hi)
 exact⟨l,h1,h2,h3,O.row l h2⟩
theorem b69 (h:x.natAbs<=2^600)(hy:y.natAbs<=2^610):(x+y).natAbs<=2^690:=by
 refine aH (u8 _ _) (aH (add_le_add h hy) ?_)
 decide +kernel
theorem m69 (h:x.natAbs<=2^600)(hy:y.natAbs<=2^4):(x*y).natAbs<=2^610:=by
 rw[dW];refine aH (fJ h hy) ?_
 decide +kernel
theorem b67 (h:x.natAbs<=2^610):x.natAbs<=2^690:=aH h (cN ac ac)
theorem e25 (S:SpH E Q ds)(ok:gA ls)(hm:k<15\/m=true/\a50 n ls i j):xJ m E (spE c q n T ds ls i j k s9):=by
 obtain⟨a4,ha,a40,a43⟩:=S.ha;unfold xJ spE;simp only[uoN];left
 by_cases e:k=15
 .rw[aA e];obtain⟨rfl,O⟩:=hm.resolve_left ad
  have n2:=O.n2;obtain⟨l,h1,h2,h3,h4,h5⟩:=(show a50 n ls 0 0 from⟨O.n2,O.n4,O.len,O.row,ad,ad⟩).fnd ad
  obtain⟨x,hx,e1⟩:=bZ5 (l:=l) (j:=0) ad
  have h3:atI (ls.map k8) 0=some (.lst<|l.map .int):=h3;have e1:atI (l.map D.int) 0=some (.int x):=e1;simp only[h3,e1,ha];refine⟨trivial,cmR ad ad,_,rfl,0,ls,l,rfl,rfl,h1,0,rfl,ad,?_⟩
  exact e24 S (ok.cell h2<|b67<|m69 (h5 x hx) ad)
 .rw[a7 e];exact e24 S ok
theorem e26 (S:SpH E Q ds)(ok:gA ls)(hm:k<14\/m=true/\a50 n ls i j):xK m E (spE c q n T ds ls i j k s9):=by
 unfold xK spE;simp only[uoN];left
 by_cases e:k=14
 .rw[aA e];obtain⟨rfl,O⟩:=hm.resolve_left ad
  obtain⟨l,h1,h2,h3,h4,h5⟩:=O.fnd O.hi;have hi:=O.hi;obtain⟨x,hx,e1⟩:=bZ5 (l:=l) (j:=i) ad
  simp only[h3,e1];refine⟨trivial,_,rfl,i,ls,l,rfl,rfl,h1,i,rfl,ad,?_⟩
  exact e25 S (ok.cell h2<|b69 (h5 x hx) ac) (.inl ad)
 .rw[a7 e];exact e25 S ok (hm.imp (λz=>ad) id)
theorem e27 (S:SpH E Q ds)(ok:gA ls)(hm:k<13\/m=true/\a50 n ls i j):xL m E (spE c q n T ds ls i j k s9):=by
 unfold xL spE;simp only[uoP];left
 by_cases e:k=13
 .rw[aA e];refine⟨ac,ac,?_⟩
  exact e26 (ls:=[[]]) S ⟨ac,ac,ac⟩ (.inl ad)
 .rw[a7 e];exact e26 S ok (hm.imp (λz=>ad) id)
theorem e28 (S:SpH E Q ds)(ok:gA ls)(hm:k<12\/m=true/\a50 n ls i j):xM m E (spE c q n T ds ls i j k s9):=by
 unfold xM spE;simp only[uoP];left
 by_cases e:k=12
 .rw[aA e];refine⟨ac,?_⟩
  exact e27 (ls:=[]) S ⟨ac,ae,ae⟩ (.inl ad)
 .rw[a7 e];exact e27 S ok (hm.imp (λz=>ad) id)
def dbl (ls:List (List Int)):List (List Int):=ls.map λl=>l.map λx=>2*x
theorem gA.dbl (ok:gA ls)(O: ∀l∈ls,∀x∈l,x.natAbs<=2^600):gA (dbl ls):=by
 refine⟨by unfold M.dbl;rw[aG];exact ok.few,λl hl=> ?_,λl hl x hx=> ?_⟩
 .obtain⟨l',h1,rfl⟩:=bU.mp hl;rw[aG];exact ok.thin l' h1
 .obtain⟨l',h1,rfl⟩:=bU.mp hl;obtain⟨x',h2,rfl⟩:=bU.mp hx;rw[uH];exact b67 (m69 (O l' h1 x' h2) ac)
theorem dL2 (ok:gA ls){F:B->Ev->Prop}(hF:F (.ow<|(dbl ls).map k8) [!c,~~~.tup (tbF n n T),!q,!(n:Int),↑ds,~~~.lst (ls.map k8),!(i:Int),!(j:Int),!k,s9]) :
  d5 [] [none,none] 1 (dS<|aC 5) (bS 0) (λρ Q=>Q true ρ) (d5 [] [none,none] 1 (dS<|aC 0) (bS 0) (λρ Q=>Q true ρ)<|uOp dE @2<|aC 0) [!c,~~~.tup (tbF n n T),!q,!(n:Int),↑ds,↑(ls.map k8),!(i:Int),!(j:Int),!k,s9] F:=by
 have few:=ok.few
 refine cS8 (t0:=0) ls.length (λk=>(ls.map k8).getD k .non) [!c,~~~.tup (tbF n n T),!q,!(n:Int),↑ds,~~~.lst (ls.map k8),!(i:Int),!(j:Int),!k,s9] ?_ ad (λx l=>[x,↑l]) none rfl (λ_ _ _=>rfl) (λ_ _=>bQ _) (λ_ _ _ q=>q) (λ_ _ _=>rfl) (λr=>((ls.getD r []).map λx=>2*x).map .int) ?_ ?_
 .intro Q' q;left;rw[aG];exact q
 .intro r acc Q' hr q;have e:(ls.map k8).getD r .non=k8 (ls.getD r []):=by
   rw[aO,aZ,aO (l:=ls),aS hr];rfl
  have hl:ls.getD r []∈ls:=by
   rw[aO,aS hr];exact cE hr
  rw[e]at q⊢;unfold k8 at q⊢;generalize ls.getD r []=l at *;have th:=ok.thin l hl;refine cJ (t0:=0) l.length (λk=>(l.map D.int).getD k .non) [~~~.lst (l.map .int),↑acc] ?_ ad (λx l=>[x,↑l]) none rfl (λ_ _ _=>rfl) (λ_ _=>bQ _) (λ_ _ _ q=>q) (λ_ _ _=>rfl) (λk=> .int (2*l.getD k 0)) ?_ ?_
  .intro Q' q;left;rw[aG];exact q
  .intro x acc Q' hx q;rw[show(l.map D.int).getD x .non= .int (l.getD x 0)by
    rw[aO,aZ,aO (l:=l),aS hx];rfl]at q⊢
   left
   exact⟨cmL ac ac,q⟩
  .rw[show(List.range l.length).map (λk=>D.int (2*l.getD k 0))=(l.map λx=>2*x).map .int by
    apply fG
    .simp
    .intro r a b;have hr:r<l.length:=by exists a
     simp[aO,aS hr]]
   exact q
 .rw[show(List.range ls.length).map (λr=>D.lst (((ls.getD r []).map λx=>2*x).map .int))=(dbl ls).map k8 by
   unfold dbl;apply fG
   .simp
   .intro r a b;have hr:r<ls.length:=by exists a
    simp[aO,aS hr,k8]]
  exact hF
theorem e29 (S:SpH E Q ds)(ok:gA ls)(hm:k<11\/m=true/\a50 n ls i j):xN m E (spE c q n T ds ls i j k s9):=by
 unfold xN spE;simp only[uoP];rw[c48];left
 by_cases e:k=11
 .rw[aA e];refine dL2 ok ?_;obtain⟨rfl,O⟩:=hm.resolve_left ad
  exact e28 (ls:=dbl ls) S (ok.dbl λl hl=>(O.row l hl).2) (.inl ad)
 .rw[a7 e];exact e28 S ok (hm.imp (λz=>ad) id)
theorem e30 (S:SpH E Q ds)(ok:gA ls)(hm:k<10\/m=true/\a50 n ls i j):xO m E (spE c q n T ds ls i j k s9):=by
 unfold xO spE;simp only[uoP];left
 by_cases e:k=10
 .rw[aA e];obtain⟨rfl,O⟩:=hm.resolve_left ad
  obtain⟨l,h1,h2,h3,h4,h5⟩:=O.fnd O.hi;obtain⟨l',h1',h2',h3',h4',h5'⟩:=(show a50 n ls j i from⟨O.n2,O.n4,O.len,O.row,O.hj,O.hi⟩).fnd O.hj
  simp only[h3,h3'];have hi:=O.hi;have hj:=O.hj;have hn:=O.len;refine⟨ac,trivial,i,rfl,by rw[aG];lia,j,rfl,by rw[cZ,aG];lia,trivial,?_⟩
  have e:((ls.map k8).set i<|.lst<|l'.map .int).set j (.lst<|l.map .int)=((ls.set i l').set j l).map k8:=by rw[l7,l7];rfl
  rw[e];exact e29 S ((ok.set i (ok.thin l' h2')<|ok.bd l' h2').set j (ok.thin l h2)<|ok.bd l h2) (.inl ad)
 .rw[a7 e];exact e29 S ok (hm.imp (λz=>ad) id)
theorem e31 (S:SpH E Q ds)(ok:gA ls)(hm:k<9\/m=true/\a50 n ls i j):xP m E (spE c q n T ds ls i j k s9):=by
 unfold xP spE;simp only[uoN];left
 by_cases e:k=9
 .rw[aA e];obtain⟨rfl,O⟩:=hm.resolve_left ad
  obtain⟨l,h1,h2,h3,h4,h5⟩:=O.fnd O.hi;have hj:=O.hj;have n4:=O.n4;refine⟨rfl,i,ls,l,rfl,rfl,h1,j,0,rfl,ad,b9 (show l.length<10 by lia) ac,?_⟩
  refine e30 S (ok.set i ?_ λx hx=> ?_) (.inl ad)
  .simp only[cB,nJ,dP,nK]
   lia
  .rcases cR.mp hx with z|z
   .exact ok.bd l h2 x (List.mem_of_mem_take z)
   .rcases bB.mp z with rfl|z
    .decide
    .exact ok.bd l h2 x (List.mem_of_mem_drop z)
 .rw[a7 e];exact e30 S ok (hm.imp (λz=>ad) id)
theorem e32 (S:SpH E Q ds)(ok:gA ls)(hm:k<8\/m=true/\a50 n ls i j):xQ m E (spE c q n T ds ls i j k s9):=by
 unfold xQ spE;simp only[uoN];left
 by_cases e:k=8
 .rw[aA e];obtain⟨rfl,O⟩:=hm.resolve_left ad
  obtain⟨l,h1,h2,h3,h4,h5⟩:=O.fnd O.hi;have hj:=O.hj;have n4:=O.n4;refine⟨rfl,i,ls,l,rfl,rfl,h1,j,rfl,ad,ad,?_⟩
  refine e31 S (ok.set i ?_ λx hx=>ok.bd l h2 x (tW hx)) (.inl ad)
  exact aH (List.length_eraseIdx_le _ _) (ok.thin l h2)
 .rw[a7 e];exact e31 S ok (hm.imp (λz=>ad) id)
theorem sp_9 (S:SpH E Q ds)(ok:gA ls)(hm:k<7\/m=true/\a50 n ls i j):a46 m E (spE c q n T ds ls i j k s9):=by
 unfold a46 spE;simp only[uoP];left
 by_cases e:k=7
 .rw[aA e];obtain⟨rfl,O⟩:=hm.resolve_left ad
  have n2:=O.n2;obtain⟨l,h1,h2,h3,h4,h5⟩:=(show a50 n ls (n-1) j from⟨O.n2,O.n4,O.len,O.row,ad,O.hj⟩).fnd ad
  rw[show((n-1:Nat):Int)=(n:Int)-1 by lia]at h3
  simp only[h3];rw[show ls.map k8++[D.lst<|l.map .int]=(ls++[l]).map k8 by rw[bT];rfl,aG]
  have hn:=O.len;have n4:=O.n4;refine⟨b9 (show ls.length<10 by lia) ac,?_⟩
  exact e32 (ls:=ls++[l]) S (ok.mem (by rw[cB,aO3];lia) λy hy=> .inl ((cR.mp hy).elim id λz=>by rw[fE.mp z];exact h2)) (.inl ad)
 .rw[a7 e];exact e32 S ok (hm.imp (λz=>ad) id)
theorem sp_8 (S:SpH E Q ds)(ok:gA ls)(hm:k<6\/m=true/\a50 n ls i j):a47 m E (spE c q n T ds ls i j k s9):=by
 unfold a47 spE;simp only[uoP];left
 by_cases e:k=6
 .rw[aA e];obtain⟨rfl,O⟩:=hm.resolve_left ad
  have hi:=O.hi;have n4:=O.n4;rw[aG,O.len,bE];have ee:(ls.map k8).eraseIdx i=(ls.eraseIdx i).map k8:=by rw[tU,tU,bT,j3,nP]
  rw[ee];refine⟨ad,ad,ad,?_⟩
  exact sp_9 (ls:=ls.eraseIdx i) S (ok.mem (aH (List.length_eraseIdx_le _ _) ok.few) λy hy=> .inl (tW hy)) (.inl ad)
 .rw[a7 e];exact sp_9 S ok (hm.imp (λz=>ad) id)
theorem sp_7 (S:SpH E Q ds)(ok:gA ls)(hm:k<5\/m=true/\a50 n ls i j):a48 m E (spE c q n T ds ls i j k s9):=by
 unfold a48 spE;simp only[uoN];left
 by_cases e:k=5
 .rw[aA e];obtain⟨rfl,O⟩:=hm.resolve_left ad
  obtain⟨l,h1,h2,h3,h4,h5⟩:=O.fnd O.hi;have n2:=O.n2;obtain⟨x,hx,e1⟩:=bZ5 (l:=l) (j:=n-1) ad
  rw[show((n-1:Nat):Int)=(n:Int)-1 by lia]at e1
  simp only[h3,e1];refine⟨trivial,_,rfl,i,ls,l,rfl,rfl,h1,n-1,by rw[show((n-1:Nat):Int)=(n:Int)-1 by lia],ad,?_⟩
  exact sp_8 S (ok.cell h2<|b69 (h5 x hx) ac) (.inl ad)
 .rw[a7 e];exact sp_8 S ok (hm.imp (λz=>ad) id)
theorem dY6 (a:Int):1+a.fmod 2=1\/1+a.fmod 2=2:=by
 rw[dD _ ac]
 lia
theorem up604 (h:z.natAbs<=2^600):z.natAbs<=2^604:=aH h (cN ac ac)
theorem dL3 (h:z.natAbs<=2^600)(w2:w=1\/w=2):(z*w).natAbs<=2^604:=by
 rw[dW];refine aH (fJ h (show w.natAbs<=2^4 by rcases w2 with rfl|rfl<;>decide)) ?_
 rw[<-j5];exact cN ac ac
theorem dY7 {k:Int}(hx:x.natAbs<=2^600)(hy:y.natAbs<=2^600)(w2:w=1\/w=2)(hk: -4<=k)(e:k<5): ∃s:Int,atI [D.int 0,D.int 1,D.int y,D.int<|x*w,D.int<|-x*w] (if k>0 then k else 0)=some (.int s)/\s.natAbs<=2^604:=by
 have K: ∀K:Int,K=0\/K=1\/K=2\/K=3\/K=4-> ∃s:Int,atI [D.int 0,D.int 1,D.int y,D.int<|x*w,D.int<|-x*w] K=some (.int s)/\s.natAbs<=2^604:=λK h=>by
  rcases h with rfl|rfl|rfl|rfl|rfl
  .exact⟨0,rfl,ac⟩
  .exact⟨1,rfl,ac⟩
  .exact⟨y,rfl,up604 hy⟩
  .exact⟨x*w,rfl,dL3 hx w2⟩
  .exact⟨-x*w,rfl,dL3 (by rw[a01];exact hx) w2⟩
 refine K _ ?_
 clear K hx hy w2;split<;>lia
theorem sgn_at (a0:0<=a)(a2:a<2)(hz:z=0\/z=1): ∃g:Int,atI [D.int 1,D.int<|-1] (a*z)=some (.int g)/\(g=1\/g= -1):=by
 rcases hz with rfl|rfl
 .rw[jZ];exact⟨1,rfl,.inl rfl⟩
 .rw[pZ];rcases(show a=0\/a=1 by lia)with rfl|rfl
  .exact⟨1,rfl,.inl rfl⟩
  .exact⟨-1,rfl,.inr rfl⟩
theorem dL4 {g:Int}(sb:s.natAbs<=2^604)(hg:g=1\/g= -1)(hz:z.natAbs<=2^600):(z+s*g).natAbs<=2^690:=b69 hz (by
 rw[dW];refine aH (fJ sb (show g.natAbs<=2^4 by rcases hg with rfl|rfl<;>decide)) ?_
 rw[<-j5];exact cN ac ac)
theorem sp_6 (S:SpH E Q ds)(ok:gA ls)(O:a50 n ls i j)(hk: -4<=k)(h3':atI ds 3=some (.int a3))(a30:0<=a3)(a32:a3<2):a49 true E (spE c q n T ds ls i j k s9):=by
 obtain⟨a4,ha,a40,a43⟩:=S.ha;unfold a49 spE;simp only[uoN];rw[c48];left
 by_cases e:k<5
 .rw[aA e];refine⟨trivial,?_⟩;have hi:=O.hi;have hj:=O.hj;obtain⟨li,g1,g2,g3,g4,g5⟩:=O.fnd O.hi;obtain⟨lj,f1,f2,f3,f4,f5⟩:=(show a50 n ls j i from⟨O.n2,O.n4,O.len,O.row,O.hj,O.hi⟩).fnd O.hj
  obtain⟨x,hx,e1⟩:=bZ5 (l:=li) (j:=i) ad
  obtain⟨y,hy,e2⟩:=bZ5 (l:=lj) (j:=j) ad
  refine⟨ac,?_⟩
  simp only[g3,f3,e1,e2,ha];obtain⟨w,ew,w2⟩: ∃w:Int,w=1+a4.fmod 2/\(w=1\/w=2):=⟨_,rfl,dY6 a4⟩;rw[<-ew];obtain⟨s,e5,sb⟩:=dY7 (k:=k) (g5 x hx) (f5 y hy) w2 hk e;obtain⟨g,eg,hg⟩:=sgn_at (z:=if k<3 then 1 else 0) a30 a32 (by split<;>simp)
  obtain⟨u,hu,e6⟩:=bZ5 (l:=li) (j:=j) ad
  rw[e5];simp only[h3',eg,e6];have c1: ∀z:Int,bQ0 z w\/(Sm z/\Sm w):=λz=>by rcases w2 with rfl|rfl<;>exact cmR ac ac
  have c2: ∀z:Int,bQ0 z (if k<3 then(1:Int)else 0)\/(Sm z/\Sm (if k<3 then(1:Int)else 0)):=λz=>by split<;>exact cmR ac ac
  have c3: ∀z:Int,bQ0 z g\/(Sm z/\Sm g):=λz=>by rcases hg with rfl|rfl<;>exact cmR ac ac
  have li':i<li.length:=by rw[g4];exact hi
  have lj':j<li.length:=by rw[g4];exact hj
  have k5:k<5+1:=Int.lt_trans e ac
  refine⟨ac,c1 _,ac,c1 _,ac,rfl,?_⟩
  split
  .refine⟨ac,rfl,ac,c2 _,c3 _,_,rfl,i,ls,li,rfl,rfl,g1,i,rfl,li',?_⟩
   exact sp_7 (j:=i) S (ok.cell g2<|dL4 sb hg<|g5 x hx) (.inl e)
  .refine⟨ac,c2 _,c3 _,_,rfl,i,ls,li,rfl,rfl,g1,j,rfl,lj',?_⟩
   exact sp_7 S (ok.cell g2<|dL4 sb hg<|g5 u hu) (.inl e)
 .rw[a7 e];exact sp_7 S ok (.inr ⟨rfl,O⟩)
end
def b59:Φ:=λds Q=> ∃(c q:Int) (n:Nat) (T:Nat->∅),ds=[.int c,.tup<|tbF n n T,.int q]/\2<=n/\n<=4/\0<q/\(∀i j,(T i j).natAbs<=2^600)/\ ∀L,aL6 L->Q (.pu<|bM3 L)
theorem d52: Ra b59 b58 ["c","t","q","n","w","r","i","j","k","s"]:=by
 rintro ds Q ⟨c,q,n,T,rfl,n2,n4,hq,hb,h⟩;unfold b58;show(aU _ _:US) _ [!c,~~~.tup (tbF n n T),!q,none,none,none,none,none,none,none];rw[aM];left;rw[oK];unfold b97;rw[aM];left;refine⟨ac,c,[20,(n:Int),(n:Int),2,3],q,rfl,ae,hq,λw hw=> ?_,λxs hx=> ?_⟩
 .simp only[bB,fF,eI]at hw;rcases hw with rfl|rfl|rfl|rfl|rfl<;>lia
 obtain⟨hl,hx⟩:=hx
 match xs,hl,hx with
 | [a0,a1,a2,a3,a4],_,hx=>
  have b0:=hx 0 a0 20 rfl rfl;have b1:=hx 1 a1 n rfl rfl;have b2:=hx 2 a2 n rfl rfl;have b3:=hx 3 a3 2 rfl rfl;have b4:=hx 4 a4 3 rfl rfl;obtain⟨i,rfl⟩: ∃i:Nat,a1=(i:Int):=⟨a1.toNat,ad⟩
  obtain⟨j,rfl⟩: ∃j:Nat,a2=(j:Int):=⟨a2.toNat,ad⟩
  unfold b96;rw[aM];have et:tbF n n T=(tbL n T).map c31:=by unfold tbF tbL;rw[dZ];rfl
  simp only[bD5];left;refine⟨λz l hz=>absurd (fX hz) ae,ac,tbL n T,by rw[<-et],by rw[<-et],by rw[tG];lia,?_⟩
  have O:a50 n (tbL n T) i j:=⟨n2,n4,tG n T,λl hl=> ?_,ad,ad⟩
  .have ok:gA (tbL n T):=⟨by rw[tG];lia,λl hl=>by rw[(O.row l hl).1];lia,λl hl x hx=>aH ((O.row l hl).2 x hx) (cN ac ac)⟩
   unfold aZ0;simp only[uQs,aK9];left;refine⟨trivial,ac,?_⟩
   rw[show atI ([a0,(i:Int),(j:Int),a3,a4].map D.int) 1=some (.int (i:Int))from rfl]
   refine⟨rfl,?_⟩
   unfold aY9;simp only[uQs,aK9];left;refine⟨trivial,ac,?_⟩
   rw[show atI ([a0,(i:Int),(j:Int),a3,a4].map D.int) 2=some (.int (j:Int))from rfl]
   refine⟨rfl,?_⟩
   unfold aY8;simp only[uQs,aK9];left;refine⟨trivial,ac,?_⟩
   rw[show atI ([a0,(i:Int),(j:Int),a3,a4].map D.int) 0=some (.int a0)from rfl]
   refine⟨rfl,?_⟩
   exact sp_6 ⟨h,rfl,a4,rfl,b4⟩ ok O ad rfl b3.1 b3.2
  .obtain⟨r,hr,rfl⟩:=bU.mp hl;exact⟨n6 _ _,λx hx=>by obtain⟨z,_,rfl⟩:=bU.mp hx;exact hb r z⟩
def cH2:US:=(d6<|cB7 (aR cC2<|a8 (aC 7)<|a8 (uC<|.ty "bool") aL)<|uOp (fS false) (aC 7)<|aR c77<|a8 (aC 2)<|a8 (aC 4) aL)
def cH3:US:=(aU (bJ 7<|aR rG<|a8 (aC 1)<|a8 (aC 4) aL) cH2)
def bM4:US:=(aU (fU (uOr (cB6<|cU<|aR cC2<|a8 (aC 6)<|a8 (uC<|.ty "bool") aL)<|cU<|uOp (fS true) (aC 6)<|aR c77<|a8 (aC 2)<|a8 (aC 5) aL) (d6<|uC<|.bl false) dN) cH3)
def cH4:US:=(aU (bJ 6<|aR rG<|a8 (aC 1)<|a8 (aC 5) aL) bM4)
def bM5:US:=(aU (bJ 5<|aR b59<|a8 (aR vX<|a8 (aC 0)<|a8 @5 aL)<|a8 (aC 4)<|a8 @999999797 aL) cH4)
def cH5:US:=(aU (fU (cU<|uOp (mT λi j=>decide (i<j)) (uIx (aT 3)<|@0)<|@2) (bJ 4<|aR bL7<|a8 (aC 2)<|a8 (aR vX<|a8 (aC 0)<|a8 @4 aL)<|a8 @999999893 aL)<|bJ 4<|aR c78<|a8 (aR vX<|a8 (aC 0)<|a8 @4 aL)<|a8 (uOp M.gSub (iH<|aT 2)<|@1)<|a8 @999999883 aL) bM5)
def cH6:US:=(aU (bJ 3<|aR lD<|a8 (aR vX<|a8 (aC 0)<|a8 @3 aL)<|a8 (fL<|a8 @3 aL)<|a8 @999999929 aL) cH5)
def cH7:US:=(aU (bJ 2<|c41 "poly"<|aC 1) cH6)
def c80:US:=(aU (bJ 1<|aR c62<|a8 (aC 0)<|a8 @0<|a8 @999999937 aL) cH7)
theorem tab_of (n4:n<=4)(he:e<=700)(hb: ∀i j,(T i j).natAbs<=2^e):aL6 (tbL n T)/\D.tup (tbF n n T)=bM3 (tbL n T):=by
 refine⟨⟨by rw[tG];lia,λl hl x hx=> ?_⟩,?_⟩
 .obtain⟨r,_,rfl⟩:=bU.mp hl;obtain⟨z,_,rfl⟩:=bU.mp hx;exact aH (hb r z) (cN ac he)
 .unfold bM3 tbF tbL;rw[dZ];rfl
section
variable {ns:List Int}{C:Addr}{p:List Int}{n:Nat}{s3:Option B}{Q:B->Prop}{L A:List (List Int)}
theorem law_6 (rp:eO p)(hn:p.length=n+1)(hL:aL6 L)(hA:aL6 A)(h:Q (.pu<|.bl true)):bM4 {Q with} [~~~.rol (ns.map .int),~~~pE C p,~~~aN p,s3,~~~bM3 L,~~~bM3 A,~~~.bl (idB p n A),none]:=by
 unfold bM4;rw[aM];left;rw[aA<|.inr trivial];refine⟨p,n,A,rfl,rp,hn,hA,?_⟩;left;rw[a7 ae]
 unfold cH3;rw[aM];left;refine⟨C,p,n,L,rfl,rp,hn,hL,?_⟩;try right
 unfold cH2;left;rw[aA<|.inr trivial];refine⟨p,n,L,rfl,rp,hn,hL,?_⟩;left;exact h
theorem e33 (hns:ns.length<=63)(rp:eO p)(hn:p.length=n+1)(hb: ∀i j,(T i j).natAbs<=2^600)(h:Q (.pu<|.bl true)):bM5 {Q with} [~~~.rol (ns.map .int),~~~pE C p,~~~aN p,s3,~~~.tup (tbF n n T),none,none,none]:=by
 have lo:=rp.ok.lo;have hi:=rp.ok.hi;unfold bM5;rw[aM];left;refine⟨ns,5,rfl,hns,ac,ac,λc=>⟨c,999999797,n,T,rfl,ad,ad,ac,hb,λA hA=> ?_⟩⟩
 try right
 unfold cH4;rw[aM];left;refine⟨C,p,n,A,rfl,rp,hn,hA,?_⟩;obtain⟨t1,t2⟩:=tab_of (n:=n) (T:=T) (e:=600) ad ac hb
 rw[t2];exact law_6 rp hn t1 hA h
end
theorem rd_law: Ra cC3 c80 ["s","r","p","w","t","a","f","g"]:=by
 rintro ds Q ⟨ns,rfl,hns,h⟩;unfold c80;show(aU _ _:US) _ [~~~.rol (ns.map .int),none,none,none,none,none,none,none];rw[aM];left;refine⟨ns,0,999999937,rfl,hns,ac,ac,λC p rp nz=> ?_⟩
 try right
 have lo:=rp.ok.lo;have hi:=rp.ok.hi;obtain⟨n,hn⟩: ∃n,p.length=n+1:=⟨p.length-1,ad⟩
 unfold cH7;rw[aM,kA,bX0 (C:=C) (p:=p) rfl];try right
 unfold cH6;rw[aM];left;refine⟨ns,3,rfl,hns,ac,ac,λc=>⟨ac,c,[3],999999929,rfl,ac,ac,ac,λxs hx=> ?_⟩⟩
 obtain⟨a,rfl⟩: ∃a,xs=[a]:=by
  match xs,hx.1 with
  | [a],_=>exact⟨a,rfl⟩
 try right
 unfold cH5;rw[aM];left;rw[show atI ([a].map D.int) 0=some (.int a)from rfl]
 right;split
 .refine⟨ns,4,rfl,hns,ac,ac,λc=>⟨p,n,c,999999893,rfl,rp,hn,nz,ac,λT tk=> ?_⟩⟩
  exact e33 hns rp hn tk.bd h
 .refine⟨ns,4,rfl,hns,ac,ac,λc=> ?_⟩
  simp only[aN];rw[aG,show(p.length:Int)-1=(n:Int)by lia]
  refine⟨c,n,999999883,rfl,ad,ad,ac,λT hT=> ?_⟩
  exact e33 hns rp hn (λi j=>aH (hT i j) (cN ac ac)) h
abbrev pF:=sI
abbrev pG:=sJ
theorem a94: Ra pF pG ["f","p","u","s","total","v","w"]:=bB3
theorem d53:bootBuiltins "sorted"=some (.builtin "sorted"):=af
end M
end
namespace M
set_option maxHeartbeats 4000000
def top (i:Nat):Stmt:=PySem.Challenge.pw_ringhouse_k29_what_is_an_ideal.main.body.getD i (.Pass ⟨0,0,0,0⟩)
abbrev bmV:List Value:=[.type "ValueError",.type "Exception",.type "BaseException",.type "object"]
abbrev vN:String:="ValueError.__new__"
def nk:NameKind->Bool
 | .local=>true
 | .cell=>true
 | _=>false
def nm (s:Stmt):List Str:=((aF s).names.filter λx=>nk x.2).map (·.1)
def pm (s:Stmt):List Str:=(nm s).take (jD s).args.length
abbrev aZ1:Stmt:=top 8
abbrev cY5:List Str:=nm aZ1
abbrev cH8:List Str:=pm aZ1
abbrev vA:Stmt:=top 9
abbrev bM6:List Str:=nm vA
abbrev b98:List Str:=pm vA
abbrev kD:Stmt:=top 10
abbrev a86:List Str:=nm kD
abbrev yW:List Str:=pm kD
abbrev rT:Stmt:=top 11
abbrev b99:List Str:=nm rT
abbrev aZ2:List Str:=pm rT
abbrev aI6:Stmt:=top 13
abbrev cY6:List Str:=nm aI6
abbrev jK:List Str:=pm aI6
abbrev o8:Stmt:=top 14
abbrev aE5:List Str:=nm o8
abbrev aZ3:List Str:=pm o8
abbrev o9:Stmt:=top 16
abbrev aE6:List Str:=nm o9
abbrev aZ4:List Str:=pm o9
abbrev aE7:Stmt:=top 19
abbrev cH9:List Str:=nm aE7
abbrev bZ6:List Str:=pm aE7
abbrev jL:Stmt:=top 20
abbrev yX:List Str:=nm jL
abbrev wB:List Str:=pm jL
abbrev tQ:Stmt:=top 22
abbrev b60:List Str:=nm tQ
abbrev bM7:List Str:=pm tQ
abbrev kB:Stmt:=top 23
abbrev tH:List Str:=nm kB
abbrev aL8:List Str:=pm kB
abbrev iA:Stmt:=top 24
abbrev qS:List Str:=nm iA
abbrev wC:List Str:=pm iA
abbrev lZ:Stmt:=top 26
abbrev a51:List Str:=nm lZ
abbrev aL9:List Str:=pm lZ
abbrev yY:Stmt:=top 27
abbrev bZ7:List Str:=nm yY
abbrev bM8:List Str:=pm yY
abbrev iB:Stmt:=top 30
abbrev qT:List Str:=nm iB
abbrev wD:List Str:=pm iB
abbrev iJ:Stmt:=top 31
abbrev vB:List Str:=nm iJ
abbrev sW:List Str:=pm iJ
abbrev yZ:Stmt:=top 33
abbrev bZ8:List Str:=nm yZ
abbrev bM9:List Str:=pm yZ
abbrev oR:Stmt:=top 34
abbrev aZ5:List Str:=nm oR
abbrev aM0:List Str:=pm oR
abbrev iU:Stmt:=top 35
abbrev wE:List Str:=nm iU
abbrev vC:List Str:=pm iU
abbrev gQ:Stmt:=top 36
abbrev rV:List Str:=nm gQ
abbrev pH:List Str:=pm gQ
abbrev oS:Stmt:=top 38
abbrev aZ6:List Str:=nm oS
abbrev aM1:List Str:=pm oS
abbrev oA:Stmt:=top 40
abbrev aE8:List Str:=nm oA
abbrev aZ7:List Str:=pm oA
abbrev kG:Stmt:=top 41
abbrev xR:List Str:=nm kG
abbrev aE9:List Str:=pm kG
abbrev mC:Stmt:=top 43
abbrev a52:List Str:=nm mC
abbrev aM2:List Str:=pm mC
abbrev lL:Stmt:=top 44
abbrev aF0:List Str:=nm lL
abbrev a87:List Str:=pm lL
abbrev qU:Stmt:=top 45
abbrev aU0:List Str:=nm qU
abbrev bA0:List Str:=pm qU
abbrev lM:Stmt:=top 46
abbrev aF1:List Str:=nm lM
abbrev a88:List Str:=pm lM
abbrev oU:Stmt:=top 48
abbrev aZ8:List Str:=nm oU
abbrev aM3:List Str:=pm oU
abbrev mZ:Stmt:=top 49
abbrev aM4:List Str:=nm mZ
abbrev aF2:List Str:=pm mZ
abbrev gK:Stmt:=top 50
abbrev nV:List Str:=nm gK
abbrev sX:List Str:=pm gK
abbrev gR:Stmt:=top 51
abbrev rW:List Str:=nm gR
abbrev pI:List Str:=pm gR
abbrev kH:Stmt:=top 54
abbrev xS:List Str:=nm kH
abbrev aF3:List Str:=pm kH
abbrev mD:Stmt:=top 55
abbrev a53:List Str:=nm mD
abbrev aM5:List Str:=pm mD
abbrev jM:Stmt:=top 56
abbrev vD:List Str:=nm jM
abbrev a89:List Str:=pm jM
abbrev gB:Stmt:=top 60
abbrev wF:List Str:=nm gB
abbrev vE:List Str:=pm gB
abbrev gS:Stmt:=top 61
abbrev vF:List Str:=nm gS
abbrev a90:List Str:=pm gS
abbrev bN0:Stmt:=top 63
abbrev dL5:List Str:=nm bN0
abbrev cY7:List Str:=pm bN0
abbrev aZ9:Stmt:=top 64
abbrev cY8:List Str:=nm aZ9
abbrev cI0:List Str:=pm aZ9
abbrev b00:Stmt:=top 65
abbrev cY9:List Str:=nm b00
abbrev cI1:List Str:=pm b00
abbrev zC:Stmt:=top 66
abbrev bZ9:List Str:=nm zC
abbrev bN1:List Str:=pm zC
abbrev b61:Stmt:=top 67
abbrev cS9:List Str:=nm b61
abbrev cZ0:List Str:=pm b61
abbrev oV:Stmt:=top 68
abbrev b01:List Str:=nm oV
abbrev aM6:List Str:=pm oV
abbrev bN2:Stmt:=top 69
abbrev dL6:List Str:=nm bN2
abbrev cZ1:List Str:=pm bN2
abbrev aF4:Stmt:=top 70
abbrev cI2:List Str:=nm aF4
abbrev c00:List Str:=pm aF4
abbrev b02:Stmt:=top 71
abbrev cZ2:List Str:=nm b02
abbrev cI3:List Str:=pm b02
abbrev bN3:Stmt:=top 72
abbrev dL7:List Str:=nm bN3
abbrev qV:List Str:=pm bN3
abbrev bE5:Stmt:=top 73
abbrev c81:List Str:=["_law_poly_here","_law_x","_law_many","_law_turn","_law_rows","_law_row_here","_law_k"]
abbrev cI4:List Str:=["_law_poly_here","_law_x"]
abbrev bN4:Stmt:=top 74
abbrev dL8:List Str:=nm bN4
abbrev cZ3:List Str:=pm bN4
abbrev b03:Stmt:=top 75
abbrev cZ4:List Str:=nm b03
abbrev cI5:List Str:=pm b03
abbrev b04:Stmt:=top 76
abbrev cZ5:List Str:=nm b04
abbrev cI6:List Str:=pm b04
abbrev wG:Stmt:=top 77
abbrev a54:List Str:=["_law_many","_law_m","_law_rows","_law_table_here","_law_row_here","_law_left","_law_at","_law_part","_law_onward","_law_low","_law_i","_law_j"]
abbrev cI7:List Str:=["_law_many","_law_m","_law_rows"]
abbrev bN5:Stmt:=top 78
abbrev dL9:List Str:=nm bN5
abbrev cZ6:List Str:=pm bN5
abbrev tT:Stmt:=top 79
abbrev b62:List Str:=nm tT
abbrev bN6:List Str:=pm tT
abbrev a55:Stmt:=top 80
abbrev bE6:List Str:=nm a55
abbrev cI8:List Str:=pm a55
abbrev b05:Stmt:=top 81
abbrev cZ7:List Str:=nm b05
abbrev cI9:List Str:=pm b05
abbrev c01:Stmt:=top 82
abbrev dM0:List Str:=nm c01
abbrev dM1:List Str:=pm c01
abbrev qW:Stmt:=top 83
abbrev aU1:List Str:=nm qW
abbrev bA1:List Str:=pm qW
abbrev zD:Stmt:=top 84
abbrev bN7:List Str:=nm zD
abbrev c02:List Str:=pm zD
abbrev aU2:Stmt:=top 85
abbrev c82:List Str:=nm aU2
abbrev cZ8:List Str:=pm aU2
abbrev bN8:Stmt:=top 86
abbrev dM2:List Str:=nm bN8
abbrev cZ9:List Str:=pm bN8
abbrev rX:Stmt:=top 87
abbrev aF5:List Str:=nm rX
abbrev c03:List Str:=pm rX
abbrev c04:Stmt:=top 88
abbrev dM3:List Str:=nm c04
abbrev dM4:List Str:=pm c04
abbrev b06:Stmt:=top 89
abbrev e34:List Str:=nm b06
abbrev PP_law:List Str:=pm b06
local macro_rules| `(tactic| walk_at "s")=> `(tactic| exact⟨rfl,rfl,rfl,by decide +kernel,rfl,by decide +kernel,by decide +kernel⟩)
theorem bN9:aY cY5 cH8 (aF aZ1):=by walk_at "s"
theorem cJ0:aY bM6 b98 (aF vA):=by walk_at "s"
theorem eM:aY a86 yW (aF kD):=by walk_at "s"
theorem tI:aY b99 aZ2 (aF rT):=by walk_at "s"
theorem oW:aY cY6 jK (aF aI6):=by walk_at "s"
theorem c83:aY aE5 aZ3 (aF o8):=by walk_at "s"
theorem a56:aY aE6 aZ4 (aF o9):=by walk_at "s"
theorem zE:aY cH9 bZ6 (aF aE7):=by walk_at "s"
theorem b07:aY yX wB (aF jL):=by walk_at "s"
theorem vG:aY b60 bM7 (aF tQ):=by walk_at "s"
theorem bR9:aY tH aL8 (aF kB):=by walk_at "s"
theorem wH:aY qS wC (aF iA):=by walk_at "s"
theorem bS0:aY a51 aL9 (aF lZ):=by walk_at "s"
theorem cT0:aY bZ7 bM8 (aF yY):=by walk_at "s"
theorem b08:aY qT wD (aF iB):=by walk_at "s"
theorem aK0:aY vB sW (aF iJ):=by walk_at "s"
theorem aU3:aY bZ8 bM9 (aF yZ):=by walk_at "s"
theorem xT:aY aZ5 aM0 (aF oR):=by walk_at "s"
theorem nW:aY wE vC (aF iU):=by walk_at "s"
theorem gE:aY rV pH (aF gQ):=by walk_at "s"
theorem xU:aY aZ6 aM1 (aF oS):=by walk_at "s"
theorem a57:aY aE8 aZ7 (aF oA):=by walk_at "s"
theorem jN:aY xR aE9 (aF kG):=by walk_at "s"
theorem bS1:aY a52 aM2 (aF mC):=by walk_at "s"
theorem kE:aY aF0 a87 (aF lL):=by walk_at "s"
theorem cJ1:aY aU0 bA0 (aF qU):=by walk_at "s"
theorem nA:aY aF1 a88 (aF lM):=by walk_at "s"
theorem xV:aY aZ8 aM3 (aF oU):=by walk_at "s"
theorem iK:aY aM4 aF2 (aF mZ):=by walk_at "s"
theorem sY:aY nV sX (aF gK):=by walk_at "s"
theorem eQ:aY rW pI (aF gR):=by walk_at "s"
theorem bO0:aY xS aF3 (aF kH):=by walk_at "s"
theorem bS2:aY a53 aM5 (aF mD):=by walk_at "s"
theorem iO:aY vD a89 (aF jM):=by walk_at "s"
theorem vH:aY wF vE (aF gB):=by walk_at "s"
theorem nB:aY vF a90 (aF gS):=by walk_at "s"
theorem dY8:aY dL5 cY7 (aF bN0):=by walk_at "s"
theorem bO1:aY cY8 cI0 (aF aZ9):=by walk_at "s"
theorem zF:aY cY9 cI1 (aF b00):=by walk_at "s"
theorem a58:aY bZ9 bN1 (aF zC):=by walk_at "s"
theorem aI7:aY cS9 cZ0 (aF b61):=by walk_at "s"
theorem xW:aY b01 aM6 (aF oV):=by walk_at "s"
theorem aI8:aY dL6 cZ1 (aF bN2):=by walk_at "s"
theorem c05:aY cI2 c00 (aF aF4):=by walk_at "s"
theorem rY:aY cZ2 cI3 (aF b02):=by walk_at "s"
theorem aF6:aY dL7 qV (aF bN3):=by walk_at "s"
theorem vI:aY c81 cI4 (aF bE5):=by walk_at "s"
theorem b09:aY dL8 cZ3 (aF bN4):=by walk_at "s"
theorem b10:aY cZ4 cI5 (aF b03):=by walk_at "s"
theorem zG:aY cZ5 cI6 (aF b04):=by walk_at "s"
theorem jO:aY a54 cI7 (aF wG):=by walk_at "s"
theorem a59:aY dL9 cZ6 (aF bN5):=by walk_at "s"
theorem a60:aY b62 bN6 (aF tT):=by walk_at "s"
theorem gF:aY bE6 cI8 (aF a55):=by walk_at "s"
theorem dM5:aY cZ7 cI9 (aF b05):=by walk_at "s"
theorem sc_row:aY dM0 dM1 (aF c01):=by walk_at "s"
theorem cJ2:aY aU1 bA1 (aF qW):=by walk_at "s"
theorem b63:aY bN7 c02 (aF zD):=by walk_at "s"
theorem c84:aY c82 cZ8 (aF aU2):=by walk_at "s"
theorem rH:aY dM2 cZ9 (aF bN8):=by walk_at "s"
theorem iP:aY aF5 c03 (aF rX):=by walk_at "s"
theorem dM6:aY dM3 dM4 (aF c04):=by walk_at "s"
theorem a61:aY e34 PP_law (aF b06):=by walk_at "s"
abbrev oX:Stmt:=(c43<|top 3).getD 0 (.Pass ⟨0,0,0,0⟩)
theorem bS3:aY ["self","left","right"] ["self","left","right"] (aF oX):=by walk_at "s"
abbrev vJ:Stmt:=(c43<|top 5).getD 0 (.Pass ⟨0,0,0,0⟩)
theorem cJ3:aY ["self","prime","number"] ["self","prime","number"] (aF vJ):=by walk_at "s"
abbrev aF7:Stmt:=(c43<|top 59).getD 0 (.Pass ⟨0,0,0,0⟩)
theorem d00:aY ["self","poly","size"] ["self","poly"] (aF aF7):=by walk_at "s"
structure Zs (mg:Str->Option Value):Prop where
 z0:mg "len"=none
 z1:mg "max"=none
 z2:mg "list"=none
 z3:mg "reversed"=none
 z4:mg "range"=none
 z5:mg "enumerate"=none
 z6:mg "tuple"=none
 z7:mg "zip"=none
 z8:mg "any"=none
 z9:mg "all"=none
 z10:mg "abs"=none
 z11:mg "sum"=none
 z12:mg "min"=none
 z13:mg "sorted"=none
 z14:mg "int"=none
 z15:mg "isinstance"=none
 z16:mg "bool"=none
abbrev DT (P:Program)(w:World)(K:Frag)(mg:Str->Option Value)(base:Heap)(N:List Str)(q:Str)(t:Stmt)(k:Nat)(u:US):Prop:= ∀{f:Addr} {cdv:Value} {A:Around} {outer:List Env} {s:Shared} {H:Hp} {E:XK},i8 k (A.deeper<|envOfC q (aF t) s.heap.objs.size f cdv)->qE (vQ CX0 P w K mg base N q (aF t) f cdv A outer s H E).nox (eK t) u
section
variable (P:Program)(w:World)(K:Frag)(mg:Str->Option Value)(base:Heap)
abbrev cJ4:=Fn P w K mg base "cut" cH8 1 aC0
abbrev cJ5:=Fn P w K mg base "padded" b98 1 aD0
abbrev mF:=Fn P w K mg base "poly_parted" yW 2 gJ
abbrev b11:=Fn P w K mg base "poly_at" aZ2 1 tE
abbrev dM7:=Fn P w K mg base "det" jK 5 (gP 4)
abbrev c85:=Fn P w K mg base "without" aZ3 1 a24
abbrev c86:=Fn P w K mg base "t_times" aZ4 1 a38
abbrev d54:=Fn P w K mg base "root" bZ6 1 b48
abbrev wI:=Fn P w K mg base "small_primes" wB 1 kN
abbrev cT1:=Fn P w K mg base "rest" bM7 1 aS7
abbrev bS4:=Fn P w K mg base "is_stair" aL8 2 xC
abbrev b12:=Fn P w K mg base "is_stair_row" wC 1 oP
abbrev bS5:=Fn P w K mg base "is_ideal" aL9 3 rG
abbrev cT2:=Fn P w K mg base "holds" bM8 2 aS9
abbrev b13:=Fn P w K mg base "is_ring_poly" wD 1 oN
abbrev mS:=Fn P w K mg base "need_ring_poly" sW 2 hU
abbrev cT3:=Fn P w K mg base "apart" bM9 4 aS3
abbrev aM7:=Fn P w K mg base "dividers" aM0 1 rF
abbrev aU4:=Fn P w K mg base "line_and_rest" vC 3 nT
abbrev a95:=Fn P w K mg base "two_by_two_apart" pH 3 kI
abbrev bS6:=Fn P w K mg base "two_with" aM1 2 wW
abbrev c87:=Fn P w K mg base "measure" aZ7 6 a36
abbrev bO2:=Fn P w K mg base "root_sums" aE9 1 uT
abbrev xX:=Fn P w K mg base "mod_poly" aM2 2 j8
abbrev bB6:=Fn P w K mg base "mod_parted" a87 4 sF
abbrev cJ6:=Fn P w K mg base "scaled" bA0 3 w6
abbrev bB7:=Fn P w K mg base "inverse_of" a88 1 sD
abbrev bS7:=Fn P w K mg base "split_by" aM3 6 wR
abbrev bO3:=Fn P w K mg base "lines_out" aF2 5 uY
abbrev aK1:=Fn P w K mg base "rootless_parts" sX 2 mO
abbrev a96:=Fn P w K mg base "two_by_two_split" pI 1 pF
abbrev bO4:=Fn P w K mg base "papers_of" aF3 8 v3
abbrev bS8:=Fn P w K mg base "parts_at" aM5 7 wT
abbrev bB8:=Fn P w K mg base "outside_of" a89 3 sK
abbrev d01:=Fn P w K mg base "_law_cell" cY7 1 vX
abbrev cJ7:=Fn P w K mg base "_law_mixed" cI0 1 aB3
abbrev aF8:=Fn P w K mg base "_law_draws" cI1 2 lD
abbrev cT4:=Fn P w K mg base "_law_shifted" bN1 1 a41
abbrev dY9:=Fn P w K mg base "_law_poly" cZ0 3 c61
abbrev bS9:=Fn P w K mg base "_law_known_ring" aM6 2 wY
abbrev dZ0:=Fn P w K mg base "_law_ring" cZ1 12 c62
abbrev c06:=Fn P w K mg base "_law_shared" c00 1 tP
abbrev bO5:=Fn P w K mg base "_law_times" cI3 1 aD3
abbrev dM8:=Fn P w K mg base "_law_det" qV 5 (lJ 4)
abbrev cJ8:=Fn P w K mg base "_law_table" cI4 2 aY1
abbrev dZ1:=Fn P w K mg base "_law_held" cZ3 1 c73
abbrev dM9:=Fn P w K mg base "_law_value" cI5 1 bL3
abbrev dN0:=Fn P w K mg base "_law_known" cI6 1 bL5
abbrev cJ9:=Fn P w K mg base "_law_stair" cI7 1 aX3
abbrev dZ2:=Fn P w K mg base "_law_made" cZ6 6 bE4
abbrev cT5:=Fn P w K mg base "_law_product" bN6 2 aT1
abbrev dN1:=Fn P w K mg base "_law_ideal" cI8 7 bL7
abbrev dN2:=Fn P w K mg base "_law_whole" cI9 1 aW9
abbrev TF_row:=Fn P w K mg base "_law_row" dM1 2 cS2
abbrev cK0:=Fn P w K mg base "_law_is_table" bA1 3 aE1
abbrev d55:=Fn P w K mg base "_law_stairs" c02 4 b56
abbrev dZ3:=Fn P w K mg base "_law_shut" cZ8 2 c75
abbrev dZ4:=Fn P w K mg base "_law_free" cZ9 3 c78
abbrev d56:=Fn P w K mg base "_law_spoilt" c03 3 b59
abbrev TF_due:=Fn P w K mg base "_law_due" dM4 5 c77
end
section
variable {P:Program}{w:World}{K:Frag}{mg:Str->Option Value}{base:Heap}
theorem d57 (Z:Zs mg):DT<$>cY5 "cut" aZ1 0 bJ4:=λhr=>
 (bP 1 bN9.nd (dL (bG 0) rfl Z.z0)<|bH (aA0 iE (PUW.pt<|aV7 (eV b79 (aJ 1) aD)<|a99<|eV eY (bO (bG 0)<|aI bK (aJ 1) aD) aD)<|b7<|us_g 1 bN9.nd aD iu_sub)<|eC<|b33 (aJ 0) jI<|gO<|aJ 1)
theorem c88 (Z:Zs mg):DT<$>bM6 "padded" vA 0 aD1:=λhr=>
 (eC<|aI bV (aJ 0)<|aI dT7 (fM<|bY aB)<|aI bK (aJ 1)<|dL (bG 0) rfl Z.z0)
theorem b14 (Z:Zs mg)(a64:cJ4<$>P):DT<$>a86 "poly_parted" kD 1 qO:=λhr=>
 (bP 2 eM.nd (aI bK (dL (bG 1) rfl Z.z0) aD)<|bP 3 eM.nd (cX (cN7 rfl) rfl Z.z1 cQ9 (bY<|aE (aI bK (dL (bG 0) rfl Z.z0)<|aJ 2) aB))<|bP 4 eM.nd (bN aH5 rfl Z.z2 aH9 (aQ 0 aB))<|bP 5 eM.nd (aI bF (cH<|bY aB)<|aJ 3)<|bH (kQ 6 eM.nd (cW4 rfl Z.z3 rfl Z.z4 (aQ 3 aB))<|bP 7 eM.nd (bO (bG 4)<|aI bV (aJ 6)<|aJ 2)<|bH (iG 5 (pv 5) (aJ 7)<|aJ 6)<|b7<|b24 iE rfl (dT2 (by rfl) Z.z5<|aQ 1 aB) (uO rfl (eU 8 (cV eM.nd rfl (Or.inl rfl))<|eU 9 (cV eM.nd rfl (Or.inl rfl)) oF) (dU<|dU mU)) (b7<|dT1 4 (pv 4) (aI bV (aJ 6)<|aJ 8) (aI bF (aJ 7)<|aJ 9) d81))<|eC<|fM<|aE (d4 a64 hr<|aE (bN cY rfl Z.z6 cP (aQ 5 aB)) aB)<|aE (d4 a64 hr<|aE (bN cY rfl Z.z6 cP (aQ 4 aB)) aB) aB)
theorem bT0 (Z:Zs mg):DT<$>b99 "poly_at" rT 0 a35:=λhr=>
 (bP 2 tI.nd aD<|bH (kQ 3 tI.nd (cW6 rfl Z.z3 (aQ 0 aB))<|b7<|qH 2 tI.nd<|aI bV (aI bF (aJ 2)<|aJ 1)<|aJ 3)<|b7<|kM 2<|pv 2)
theorem aI9 (Z:Zs mg){k:Nat}{gP:Φ}(hk:1<=k)(b16:Fn<$>"det" jK k gP)(oB:c85<$>P):DT<$>cY6 "det" aI6 k (bI4 gP):=λhr=>
 (bH (bV2 (aV6 eY (dL (mK 0<|pv 0) rfl Z.z0) aD<|bF2 _) (b7<|cN3<|a77 (gM<|a77 (mK 0<|pv 0) aD λ_ _=>rfl) aD λ_ _=>rfl) c20)<|bH (sC 1 oW.nd rfl (Or.inl rfl) aD (hl:=il (n:=4) rfl ac))<|bH (sC 2 oW.nd rfl (Or.inl rfl) aD (hl:=il (n:=4) rfl ac))<|bH (b24 iE rfl (cI rfl Z.z4 (aE (dL (mK 0<|pv 0) rfl Z.z0) aB)) (rD 3<|cV oW.nd rfl (Or.inl rfl)) (bH (dA2 1 oW.nd rfl (Or.inl rfl) (aI bF (aI bF (eR 2<|pv 2)<|a77 (gM<|a77 (mK 0<|pv 0) (eR 3<|pv 3) λ_ _=>rfl) aD λ_ _=>rfl)<|aK4 b16 hr (aK _) rfl (aE (aK4 oB hr hk rfl (aE (eR 0<|pv 0)<|aE (eR 3<|pv 3) aB)) aB)) cN4 (hl:=il (n:=4) rfl ac))<|b7<|sC 2 oW.nd rfl (Or.inl rfl) (gX<|eR 2<|pv 2) (hl:=il (n:=4) rfl ac)))<|b7<|kM 1<|pv 1)
theorem bT1 (Z:Zs mg):DT<$>aE5 "without" o8 0 a25:=λhr=>
 (eC<|bN cY rfl Z.z6 cP (aE (iM ["row",".acc"] (aF o8).names aE5 (eA<|aI bV (kC (bG 0) jI<|gO<|aJ 1)<|kC (bG 0) (gO<|aI bV (aJ 1) aD) jI) (λ_ _ _ _ _ _=>cO) λ_ _ _ _ _ _=>(kC (bG 0) (gO aD) jI)) aB))
theorem bT2 (Z:Zs mg):DT<$>aE6 "t_times" o9 0 a39:=λhr=>
 (bP 2 a56.nd (bO (bG 1)<|gX aD)<|bP 3 a56.nd (aI bV (fM<|bY aB)<|kC (bG 1) jI<|gO<|gX aD)<|eC<|bN cY rfl Z.z6 cP (aE (iM ["i","moved","last","ring",".acc"] (aF o9).names aE6 (cI rfl Z.z4 (aE (c42<|aJ 0) aB)) (λ_ _ _ _ _ _=>cO) λ_ _ _ _ _ _=>(aI bK (bO (bG 1)<|aJ 0)<|aI bF (aJ 2)<|bO (gM<|c42<|aJ 3)<|aJ 0)) aB))
theorem cT6 (Z:Zs mg):DT<$>cH9 "root" aE7 0 b49:=λhr=>
 (bP 1 zE.nd (aJ 0)<|bP 2 zE.nd (aI qG (aI bV (aJ 0) aD) aD)<|bH (aA0 iE (eV aA1 (aJ 2)<|aJ 1)<|bP 1 zE.nd (aJ 2)<|b7<|qH 2 zE.nd<|aI qG (aI bV (aJ 1)<|aI qG (aJ 0)<|aJ 1) aD)<|b7<|kM 1<|pv 1)
theorem aU5 (Z:Zs mg){jP:Addr}(iL:mg "SMALL_PRIMES"=some (.ref jP))(vK:KT K jP (T_SMALL_PRIMES.map V.int)):DT<$>yX "small_primes" jL 0 oM:=λhr=>
 (eC<|bN aH5 rfl Z.z2 aH9 (aE (dT8 rfl iL vK) aB))
theorem cK1 (Z:Zs mg):DT<$>b60 "rest" tQ 0 aS8:=λhr=>
 (bP 2 vG.nd (aJ 1)<|bH (kQ 3 vG.nd (cW4 rfl Z.z3 rfl Z.z4 (aE (dL (bG 1) rfl Z.z0) aB))<|bP 4 vG.nd (aI qG (bO (bG 2)<|aJ 3)<|bO (gM<|bO (bG 0)<|aJ 3)<|aJ 3)<|b7<|qH 2 vG.nd<|bN cY rfl Z.z6 cP (aE (aA8 (js:=[4]) (N:=["c","d","many",".acc"]) (cap:=[none,none,some 4,none]) (last:=3) (esc:=(aF tQ).names) (XN:=b60) rfl rfl af ac ac rfl (cO6 (by rfl) Z.z7<|aQ 2<|aE (bO (bG 0)<|aJ 3) aB) (λ_ _ _ _ _ _=>(uO rfl (eU 0 (cV (show Nodup (["c","d","many",".acc"]:List Str)by decide +kernel) rfl (Or.inl rfl))<|eU 1 (cV (show Nodup (["c","d","many",".acc"]:List Str)by decide +kernel) rfl (Or.inl rfl)) oF) (dU<|dU mU))) (λ_ _ _ _ _ _=>cO) (λ_ _ _ _ _ _=>(aI bK (aJ 0)<|aI bF (aJ 2)<|aJ 1))) aB))<|b7<|kM 2<|pv 2)
theorem bO6 (Z:Zs mg)(qX:b12<$>P):DT<$>tH "is_stair" kB 1 xD:=λhr=>
 (hG (PUW.pt<|wM (eV a78 (dL (bG 0) rfl Z.z0)<|aJ 1)<|t7<|a98<|cX (cP0 rfl) rfl Z.z8 bG9 (aE (iM ["row","k",".acc"] (aF kB).names tH (eA<|aJ 0) (λ_ _ _ _ _ _=>cO) λ_ _ _ _ _ _=>(bB0 a78 (dL (bG 0) rfl Z.z0)<|aJ 1)) aB)) (eC a76)<|eC<|cX (aA6 rfl) rfl Z.z9 aA7 (aE (iM ["i","table",".acc"] (aF kB).names tH (cI rfl Z.z4 (aQ 1 aB)) (λ_ _ _ _ _ _=>cO) λ_ _ _ _ _ _=>(d4 qX hr<|aQ 1<|aQ 0 aB)) aB))
theorem aU6 (Z:Zs mg):DT<$>qS "is_stair_row" iA 0 oQ:=λhr=>
 (bP 2 wH.nd (bO (bG 0)<|aJ 1)<|hG (PUW.pt<|wM (eV aA1 (bO (bG 2)<|aJ 1) aD)<|t7<|a98<|cX (cX2 rfl) rfl Z.z8 bG9 (aE (b33 (aJ 2) (gO<|aI bV (aJ 1) aD) jI) aB)) (eC a76)<|eC<|cX (aA6 rfl) rfl Z.z9 aA7 (aE (iM ["j","row","table",".acc"] (aF iA).names qS (cI rfl Z.z4 (aQ 1 aB)) (λ_ _ _ _ _ _=>cO) λ_ _ _ _ _ _=>(dC7 dA5 aA1 aD (bO (bG 1)<|aJ 0)<|bO (gM<|bO (bG 2)<|aJ 0)<|aJ 0)) aB))
theorem bO7 (Z:Zs mg)(a65:bS4<$>P)(b68:cT2<$>P)(aG2:c86<$>P):DT<$>a51 "is_ideal" lZ 2 xE:=λhr=>
 (hG (aH4<|a98<|d4 a65 hr<|aQ 1<|aE (c42<|aJ 0) aB) (eC a76)<|eC<|cX (aA6 rfl) rfl Z.z9 aA7 (aE (iM ["row","table","ring",".acc"] (aF lZ).names a51 (eA<|aJ 1) (λ_ _ _ _ _ _=>cO) λ_ _ _ _ _ _=>(d4 b68 hr<|aQ 1<|aE (d4 aG2 hr<|aQ 2<|aQ 0 aB) aB)) aB))
theorem cK2 (Z:Zs mg)(b70:cT1<$>P):DT<$>bZ7 "holds" yY 1 aT0:=λhr=>
 (eC<|d99<|cX (cX2 rfl) rfl Z.z8 bG9 (aE (d4 b70 hr<|aQ 0<|aQ 1 aB) aB))
theorem aU7 (Z:Zs mg){qY:Tok}(gL:mg "GREATEST_PLACE"=some (.int 499 qY)):DT<$>qT "is_ring_poly" iB 0 oO:=λhr=>
 (hG (PUW.pt<|wM (eV aA1 (dL (bG 0) rfl Z.z0) aD)<|wM (eV b79 (dL (bG 0) rfl Z.z0) aD)<|t7<|eV a78 (bO (bG 0)<|gX aD) aD) (eC a76)<|eC<|cX (aA6 rfl) rfl Z.z9 aA7 (aE (iM ["c",".acc"] (aF iB).names qT (eA<|aJ 0) (λ_ _ _ _ _ _=>cO) λ_ _ _ _ _ _=>(bB0 dA5 (cX bF8 rfl Z.z10 bI2 (aQ 0 aB))<|cW2 rfl gL)) aB))
theorem aF9 (Z:Zs mg)(qZ:b13<$>P):DT<$>vB "need_ring_poly" iJ 1 mQ:=λhr=>
 (b7<|bQ5 (aH4<|a98<|d4 qZ hr<|aQ 0 aB)<|b7 cB8)
theorem cK3 (Z:Zs mg)(dR:mS<$>P)(oY:aU4<$>P)(lP:a95<$>P):DT<$>bZ8 "apart" yZ 3 aS4:=λhr=>
 (bH (c28<|d4 dR hr<|aQ 0 aB)<|bP 1 aU3.nd (d4 oY hr<|aQ 0 aB)<|hG (PUW.pt<|aV7 (c30<|aJ 1)<|a99<|eV eY (dL (bG 0) rfl Z.z0) aD) (b7<|qH 1 aU3.nd<|d4 lP hr<|aQ 0 aB)<|b7<|kM 1<|pv 1)
theorem bO8 (Z:Zs mg):DT<$>aZ5 "dividers" oR 0 wV:=λhr=>
 (hG (eV eY (aJ 0) aD) (eC<|cH<|bY aB)<|bP 1 xT.nd (cH aB)<|bH (kQ 2 xT.nd (b25 rfl Z.z4 (bY<|aE (aI bV (cX bF8 rfl Z.z10 bI2 (aQ 0 aB)) aD) aB))<|b7<|bQ5 (eV eY (aI fN (aJ 0)<|aJ 2) aD)<|bH (jH 1 (pv 1)<|aJ 2)<|b7<|jH 1 (pv 1)<|gX<|aJ 2)<|b7<|kM 1<|pv 1)
theorem aK2 (Z:Zs mg)(mG:aM7<$>P)(oC:b11<$>P)(dF:mF<$>P):DT<$>wE "line_and_rest" iU 2 nU:=λhr=>
 (bH (kQ 1 nW.nd (eA<|d4 mG hr<|aE (bO (bG 0) aD) aB)<|b7<|bQ5 (eV eY (d4 oC hr<|aQ 0<|aQ 1 aB) aD)<|bP 2 nW.nd (fM<|sS (gX<|aJ 1)<|bY aB)<|eC<|fM<|aQ 2<|aE (bO (gM<|d4 dF hr<|aQ 0<|aQ 2 aB) aD) aB)<|eC bF5)
theorem a62 (Z:Zs mg)(mG:aM7<$>P)(a66:bS6<$>P):DT<$>rV "two_by_two" gQ 2 kJ:=λhr=>
 (bH (kQ 1 gE.nd (eA<|d4 mG hr<|aE (bO (bG 0) aD) aB)<|bP 2 gE.nd (aI qG (bO (bG 0) aD)<|aJ 1)<|b7<|kQ 3 gE.nd (eA<|d4 a66 hr<|aE (bO (bG 0) aD)<|aE (aI bK (aI bK (bO (bG 0) aD)<|aJ 1)<|aJ 2) aB)<|bP 4 gE.nd (aI bK (bO (bG 0) aD)<|aJ 3)<|b7<|bQ5 (eV eY (aI bV (aI bF (aJ 3)<|aJ 2)<|aI bF (aJ 1)<|aJ 4)<|bO (bG 0) aD)<|eC<|fM<|sR (fM<|aQ 1<|aQ 3<|bY aB)<|sR (fM<|aQ 2<|aQ 4<|bY aB) aB)<|eC bF5)
theorem bO9 (Z:Zs mg)(bP4:d54<$>P):DT<$>aZ6 "two_with" oS 1 wX:=λhr=>
 (bP 2 xU.nd (aI bK (aI bF (aJ 0)<|aJ 0)<|aI bF aD<|aJ 1)<|hG (eV aA1 (aJ 2) aD) (eC<|cH aB)<|bP 3 xU.nd (d4 bP4 hr<|aQ 2 aB)<|hG (eV a78 (aI bF (aJ 3)<|aJ 3)<|aJ 2) (eC<|cH aB)<|eC<|cH<|aE (aI qG (aI bV (aJ 0)<|aJ 3) aD)<|aE (aI qG (aI bK (aJ 0)<|aJ 3) aD) aB)
theorem bT3 (Z:Zs mg)(dR:mS<$>P)(xY:bO2<$>P)(b16:dM7<$>P):DT<$>aE8 "measure" oA 5 a37:=λhr=>
 (bH (c28<|d4 dR hr<|aQ 0 aB)<|bP 1 a57.nd (aI bK (dL (bG 0) rfl Z.z0) aD)<|bP 2 a57.nd (d4 xY hr<|aQ 0<|aE (aI bK (aI bF aD<|aJ 1) aD) aB)<|eC<|d4 b16 hr<|aE (bN cY rfl Z.z6 cP (aE (iM ["i","sums","n",".acc"] (aF oA).names aE8 (cI rfl Z.z4 (aQ 1 aB)) (λ_ _ _ _ _ _=>cO) λ_ _ _ _ _ _=>(bN cY rfl Z.z6 cP (aE (kC (bG 1) (gO<|aJ 0)<|gO<|aI bV (aJ 0)<|aJ 2) aB))) aB)) aB)
theorem bB9 (Z:Zs mg):DT<$>xR "root_sums" kG 0 uU:=λhr=>
 (bP 2 jN.nd (aI bK (dL (bG 0) rfl Z.z0) aD)<|bP 3 jN.nd (cH<|aQ 2 aB)<|bH (kQ 4 jN.nd (b25 rfl Z.z4 (bY<|aQ 1 aB))<|bP 5 jN.nd (cX (cu_sum rfl) rfl Z.z11 bt_sum (aE (iM ["i","poly","n","sums","k",".acc"] (aF kG).names xR (b25 rfl Z.z4 (bY<|aE (aI bV (cX (cu_min rfl) rfl Z.z12 bt_min (aE (aI bK (aJ 4) aD)<|aQ 2 aB)) aD) aB)) (λ_ _ _ _ _ _=>cO) λ_ _ _ _ _ _=>(aI bF (bO (bG 1)<|aI bK (aJ 2)<|aJ 0)<|bO (bG 3)<|aI bK (aJ 4)<|aJ 0)) aB))<|hG (eV dA5 (aJ 4)<|aJ 2) (b7<|us_g 5 jN.nd (aI bF (aJ 4)<|bO (bG 0)<|aI bK (aJ 2)<|aJ 4) cN4)<|b7<|jH 3 (pv 3)<|gX<|aJ 5)<|b7<|kM 3<|pv 3)
theorem bP0 (Z:Zs mg)(a64:cJ4<$>P):DT<$>a52 "mod_poly" mC 1 wQ:=λhr=>
 (eC<|d4 a64 hr<|aE (bN cY rfl Z.z6 cP (aE (iM ["c","p",".acc"] (aF mC).names a52 (eA<|aJ 0) (λ_ _ _ _ _ _=>cO) λ_ _ _ _ _ _=>(aI fN (aJ 0)<|aJ 1)) aB)) aB)
theorem b64 (Z:Zs mg)(gC:xX<$>P)(vL:bB7<$>P)(dF:mF<$>P)(a67:cJ6<$>P):DT<$>aF0 "mod_parted" lL 3 sG:=λhr=>
 (bP 3 kE.nd (d4 gC hr<|aQ 1<|aQ 2 aB)<|bP 4 kE.nd (d4 vL hr<|aE (bO (bG 3)<|gX aD)<|aQ 2 aB)<|bH (c22 (d4 dF hr<|aE (d4 gC hr<|aQ 0<|aQ 2 aB)<|aE (d4 a67 hr<|aQ 3<|aQ 4<|aQ 2 aB) aB)<|uO rfl (eU 5 (cV kE.nd rfl (Or.inl rfl))<|eU 6 (cV kE.nd rfl (Or.inl rfl)) oF) (dU<|dU mU))<|eC<|fM<|aE (d4 a67 hr<|aQ 5<|aQ 4<|aQ 2 aB)<|aE (d4 gC hr<|aQ 6<|aQ 2 aB) aB)
theorem c89 (Z:Zs mg)(gC:xX<$>P):DT<$>aU0 "scaled" qU 2 aC1:=λhr=>
 (eC<|d4 gC hr<|aE (bN cY rfl Z.z6 cP (aE (iM ["c","k",".acc"] (aF qU).names aU0 (eA<|aJ 0) (λ_ _ _ _ _ _=>cO) λ_ _ _ _ _ _=>(aI bF (aJ 1)<|aJ 0)) aB))<|aQ 2 aB)
theorem b65 (Z:Zs mg):DT<$>aF1 "inverse_of" lM 0 sE:=λhr=>
 (bP 2 nA.nd aD<|bH (kQ 3 nA.nd (cI rfl Z.z4 (aE (aI bK (aJ 1) aD) aB))<|b7<|qH 2 nA.nd<|aI fN (aI bF (aJ 2)<|aJ 0)<|aJ 1)<|b7<|kM 2<|pv 2)
theorem bP1 (Z:Zs mg)(iC:wI<$>P)(xZ:bO3<$>P)(gC:xX<$>P)(nX:aK1<$>P):DT<$>aZ8 "split_by" oU 5 wS:=λhr=>
 (hG (aV6 dB5 (aJ 1) (dA9 iC hr ac rfl) rfl) (b7 cB8)<|bH (c22 (d4 xZ hr<|aE (d4 gC hr<|aQ 0<|aQ 1 aB)<|aQ 1 aB)<|uO rfl (eU 2 (cV xV.nd rfl (Or.inl rfl))<|eU 3 (cV xV.nd rfl (Or.inl rfl)) oF) (dU<|dU mU))<|eC<|aI bV (aJ 2)<|d4 nX hr<|aQ 3<|aQ 1 aB)
theorem bC0 (Z:Zs mg)(oC:b11<$>P)(vM:bB6<$>P):DT<$>aM4 "lines_out" mZ 4 uZ:=λhr=>
 (bP 2 iK.nd (cH aB)<|bP 3 iK.nd (aJ 0)<|bH (kQ 4 iK.nd (cI rfl Z.z4 (aQ 1 aB))<|bP 5 iK.nd aD<|bH (aA0 iE (eV eY (aI fN (d4 oC hr<|aQ 3<|sS (gX<|aJ 4) aB)<|aJ 1) aD)<|bP 3 iK.nd (bO (gM<|d4 vM hr<|aQ 3<|sR (fM<|aQ 4<|bY aB)<|aQ 1 aB) aD)<|b7<|us_g 5 iK.nd aD cN4)<|b7<|bQ5 (eV b79 (aJ 5) aD)<|b7<|jH 2 (pv 2)<|fM<|sR (fM<|aQ 4<|bY aB)<|aQ 5 aB)<|eC<|fM<|aQ 2<|aQ 3 aB)
theorem aG0 (Z:Zs mg)(lR:a96<$>P):DT<$>nV "rootless_parts" gK 1 mP:=λhr=>
 (hG (eV eY (dL (bG 0) rfl Z.z0) aD) (eC<|cH aB)<|bP 2 sY.nd (dA0 (eV eY (dL (bG 0) rfl Z.z0) aD) (d4 lR hr<|aQ 0<|aQ 1 aB)<|cH aB)<|hG (eV eY (dL (bG 2) rfl Z.z0) aD) (eC<|cH<|sR (fM<|aQ 0<|bY aB) aB)<|hG (eV (cO5 hr.units) (bO (bG 2) aD)<|bO (bG 2) aD) (eC<|cH<|sR (fM<|aE (bO (bG 2) aD)<|bY aB) aB)<|eC<|iM ["g",".acc"] (aF gK).names nV (eA<|cX dD7 rfl Z.z13 d53 (aQ 2 aB)) (λ_ _ _ _ _ _=>cO) λ_ _ _ _ _ _=>(fM<|aQ 0<|bY aB))
theorem a63 (Z:Zs mg):DT<$>rW "two_by_two" gR 0 pG:=λhr=>
 (bH (kQ 2 eQ.nd (cI rfl Z.z4 (aQ 1 aB))<|bP 3 eQ.nd (aI fN (aI bK (bO (bG 0) aD)<|aJ 2)<|aJ 1)<|bP 4 eQ.nd (aI bK (bO (bG 0) aD)<|aI bF (aJ 2)<|aJ 3)<|b7<|kQ 5 eQ.nd (cI rfl Z.z4 (aQ 1 aB))<|bP 6 eQ.nd (aI fN (aI bK (aJ 4)<|aJ 5)<|aJ 1)<|b7<|bQ5 (PUW.pt<|aV7 (eV eY (aI fN (aI bF (aJ 5)<|aJ 6)<|aJ 1)<|bO (bG 0) aD)<|a99<|eV eY (aI fN (aI bV (aI bF (aJ 2)<|aJ 6)<|aI bF (aJ 5)<|aJ 3)<|aJ 1)<|bO (bG 0) aD)<|eC<|cH<|sR (fM<|aQ 5<|aQ 2<|bY aB)<|sR (fM<|aQ 6<|aQ 3<|bY aB) aB)<|eC<|cH aB)
theorem bC1 (Z:Zs mg)(iC:wI<$>P)(a68:bS8<$>P):DT<$>xS "papers_of" kH 7 v5:=λhr=>
 (eC<|iM ["p","poly","size",".acc"] (aF kH).names xS (eA<|dA9 iC hr ac rfl) (λ_ _ _ _ _ _=>(dS6<|eV eY (aI fN (aJ 2)<|aI bF (aJ 0)<|aJ 0) aD)) λ_ _ _ _ _ _=>(fM<|aQ 0<|aE (d4 a68 hr<|aQ 1<|aQ 0 aB) aB))
theorem bP2 (Z:Zs mg)(a69:bS7<$>P)(dF:mF<$>P):DT<$>a53 "parts_at" mD 6 wU:=λhr=>
 (eC<|aA8 (js:=[0]) (N:=["g","often","poly",".acc"]) (cap:=[none,none,some 0,none]) (last:=3) (esc:=(aF mD).names) (XN:=a53) rfl rfl af ac ac rfl (eA<|d4 a69 hr<|aQ 0<|aQ 1 aB) (λ_ _ _ _ _ _=>(uO rfl (eU 0 (cV (show Nodup (["g","often","poly",".acc"]:List Str)by decide +kernel) rfl (Or.inl rfl))<|eU 1 (cV (show Nodup (["g","often","poly",".acc"]:List Str)by decide +kernel) rfl (Or.inl rfl)) oF) (dU<|dU mU))) (λ_ _ _ _ _ _=>cO) (λ_ _ _ _ _ _=>(fM<|aQ 0<|aQ 1<|aE (bO (gM<|d4 dF hr<|aQ 2<|aQ 0 aB) aD) aB)))
theorem b66 (Z:Zs mg)(dF:mF<$>P):DT<$>vD "outside_of" jM 2 sL:=λhr=>
 (bH (b24 iE rfl (eA<|aJ 1) (uO rfl (eU 2 (cV iO.nd rfl (Or.inr rfl))<|eU 3 (cV iO.nd rfl (Or.inl rfl)) oF) (dU<|dU mU)) (b7<|b24 iE rfl (eA<|aJ 3) (uO rfl (eU 4 (cV iO.nd rfl (Or.inl rfl))<|eU 5 (cV iO.nd rfl (Or.inl rfl))<|eU 6 (cV iO.nd rfl (Or.inl rfl)) oF) (dU<|dU<|dU mU)) (b7<|bQ5 (PUW.pt<|aV7 (eV dA6 (aJ 5) aD)<|a99<|a98<|cX (aA6 rfl) rfl Z.z9 aA7 (aE (iM ["c","p",".acc"] (aF jM).names vD (eA<|aJ 6) (λ_ _ _ _ _ _=>cO) λ_ _ _ _ _ _=>(bB0 eY (aI fN (aJ 0)<|aI bF (aJ 1)<|aJ 1) aD)) aB))<|eC<|fM<|aQ 2<|aE (bO (gM<|d4 dF hr<|aQ 0<|aQ 4 aB) aD) aB)))<|eC bF5)
theorem aG1 (Z:Zs mg){eX:Addr}(iV:mg "FallsApart"=some (.ref eX)){hZ:Addr}{bT4:FuncData}(mH:aB2 K eX hZ bmV vN=true)(a70:cE1 K eX hZ bT4 "left" "right")(b71:cT3<$>P){f:Addr}{cdv:Value}{A:Around}{outer:List Env}{s:Shared}{H:Hp}{E:XK}(hr:i8 4 (A.deeper<|envOfC "need_together" (aF gB) s.heap.objs.size f cdv)) :
  a80 (vQ (CXr P w base) P w K mg base wF "need_together" (aF gB) f cdv A outer s H E) E (eK gB) mR:=
 (c38 (aW6<|sC 1 vH.nd rfl (Or.inl rfl) (aK4 b71 hr ac rfl (aE (eR 0<|pv 0) aB)) (hl:=il (n:=2) rfl ac))<|bH5<|dF7 (cD2<|eR 1<|pv 1) (bH5<|bW7 (k:=0) zK mH a70 (hr.mono ac) rfl iV rfl (aE (a77 (mK 1<|pv 1) aD λ_ _=>rfl)<|aE (a77 (mK 1<|pv 1) aD λ_ _=>rfl) aB) cQ5 rfl ac) cQ7)
theorem b15 (Z:Zs mg){gY:Addr}(lU:mg "NotWhole"=some (.ref gY)){jU:Addr}{cK6:FuncData}(r6:aB2 K gY jU bmV vN=true)(aU8:cE1 K gY jU cK6 "prime" "number")(vO:bB8<$>P)(yA:bO4<$>P)(aU9:cJ5<$>P){f:Addr}{cdv:Value}{A:Around}{outer:List Env}{s:Shared}{H:Hp}{E:XK}(hr:i8 8 (A.deeper<|envOfC "need_whole" (aF gS) s.heap.objs.size f cdv)) :
  a80 (vQ (CXr P w base) P w K mg base vF "need_whole" (aF gS) f cdv A outer s H E) E (eK gS) qQ:=
 (c38 (aW6<|sC 2 nB.nd rfl (Or.inl rfl) (aK4 vO hr ac rfl (aE (eR 0<|pv 0)<|aE (aK4 yA hr ac rfl (aE (eR 0<|pv 0)<|aE (eR 1<|pv 1) aB)) aB)) (hl:=il (n:=5) rfl ac))<|bH5<|dF7 (cD2<|eR 2<|pv 2) (c38 (aW6<|c22 (eR 2<|pv 2)<|uO rfl (eU 3 (cV nB.nd rfl (Or.inr rfl))<|eU 4 (cV nB.nd rfl (Or.inl rfl)) oF) (dU<|dU mU))<|bH5<|bW7 (k:=0) zK r6 aU8 (hr.mono ac) rfl lU rfl (aE (eR 3<|pv 3)<|aE (aK4 aU9 hr ac rfl (aE (bN cY rfl Z.z6 cP (aE (aA8 (js:=[3]) (N:=["c","p",".acc"]) (cap:=[none,some 3,none]) (last:=2) (esc:=(aF gS).names) (XN:=vF) rfl rfl af ac ac rfl (eA<|eR 4<|pv 4) (λ_ _ _ _ _ _=>(rD 0<|cV (show Nodup (["c","p",".acc"]:List Str)by decide +kernel) rfl (Or.inl rfl))) (λ_ _ _ _ _ _=>cO) (λ_ _ _ _ _ _=>(aI fN (eR 0<|pv 0)<|eR 1<|pv 1))) aB))<|aE (aI bK (dL (mK 0<|pv 0) rfl Z.z0) aD) aB)) aB) cQ5 rfl ac) cQ7)
theorem dN3 (Z:Zs mg):DT<$>dL5 "_law_cell" bN0 0 c44:=λhr=>
 (hG (eV eY (dL (bG 0) rfl Z.z0) aD) (eC<|aI bF aD<|aI bV (aJ 1) aD)<|hG (eV aA1 (aJ 1)<|dL (bG 0) rfl Z.z0) (eC<|bO (bG 0)<|aJ 1)<|eC<|aI bV (bO (bG 0)<|aI fN (aJ 1)<|dL (bG 0) rfl Z.z0)<|aI bF aD<|aJ 1)
theorem d58 (Z:Zs mg):DT<$>cY8 "_law_mixed" aZ9 0 bH8:=λhr=>
 (bP 3 bO1.nd (aI fN (aI bF (aI bV (aI bV (aI bV (aJ 0)<|aI bF (aI bF aD<|aJ 1)<|aJ 1)<|aI bF aD<|aJ 1) aD) aD) aD)<|bP 3 bO1.nd (aI fN (aI bF (aJ 3)<|aJ 3) aD)<|eC<|aI fN (aI bF (aJ 3) aD)<|aJ 2)
theorem d59 (Z:Zs mg)(aJ0:cJ7<$>P):DT<$>cY9 "_law_draws" b00 1 bH9:=λhr=>
 (bP 3 zF.nd aD<|hG (eV dA6 (aJ 0)<|aI wN aD aD) (b7<|qH 3 zF.nd<|aI bK (aJ 0)<|aI wN aD aD)<|bP 4 zF.nd (cH aB)<|bH (kQ 5 zF.nd (cI rfl Z.z4 (aE (dL (bG 1) rfl Z.z0) aB))<|b7<|bV2 (eV b79 (aJ 3) aD) (bH (jH 4 (pv 4)<|aI fN (aJ 3)<|bO (bG 1)<|aJ 5)<|b7<|qH 3 zF.nd<|aI qG (aJ 3)<|bO (bG 1)<|aJ 5)<|b7<|jH 4 (pv 4)<|aI fN (d4 aJ0 hr<|aQ 0<|aQ 5<|aQ 2 aB)<|bO (bG 1)<|aJ 5)<|b7<|kM 4<|pv 4)
theorem cK4 (Z:Zs mg):DT<$>bZ9 "_law_shifted" zC 0 aS6:=λhr=>
 (bP 2 a58.nd (bN aH5 rfl Z.z2 aH9 (aQ 0 aB))<|bH (kQ 3 a58.nd (cI rfl Z.z4 (aE (aI bK (dL (bG 2) rfl Z.z0) aD) aB))<|b7<|kQ 4 a58.nd (yM rfl Z.z4 (aE (aI bK (dL (bG 2) rfl Z.z0) aD)<|aE (aI bK (aJ 3) aD)<|sS (gX aD) aB))<|b7<|iG 2 (pv 2) (aI bV (bO (bG 2)<|aJ 4)<|aI bF (aJ 1)<|bO (bG 2)<|aI bV (aJ 4) aD)<|aJ 4)<|eC<|bN cY rfl Z.z6 cP (aQ 2 aB))
theorem dN4 (Z:Zs mg)(hV:aF8<$>P)(aJ1:cT4<$>P):DT<$>cS9 "_law_poly" b61 2 c64:=λhr=>
 (bP 2 aI7.nd (d4 hV hr<|aQ 0<|aE (cH<|bY<|bY aB)<|aQ 1 aB)<|bP 3 aI7.nd (kC (gM<|d4 hV hr<|aQ 0<|aE (by refine WE.out ?_;exact(dE4<|gZ<|gZ<|gZ<|gZ<|gZ<|gZ oJ))<|aQ 1 aB) (gO aD)<|gO<|aI bV (bO (bG 2) aD) aD)<|hG (eV eY (bO (bG 2) aD) aD) (eC<|bN cY rfl Z.z6 cP (aE (aI bV (iM ["_law_place",".acc"] (aF b61).names cS9 (eA<|aJ 3) (λ_ _ _ _ _ _=>cO) λ_ _ _ _ _ _=>(aI bK (aJ 0) aD))<|cH<|bY aB) aB))<|bP 4 aI7.nd (d4 hV hr<|aQ 0<|aE (by refine WE.out ?_;exact(dE4<|gZ<|gZ<|gZ<|gZ<|gZ<|gZ<|gZ oJ))<|aQ 1 aB)<|hG (eV eY (bO (bG 2) aD) aD) (bP 4 aI7.nd (d4 hV hr<|aQ 0<|aE (by refine WE.out ?_;exact(dE4<|gZ<|gZ<|gZ<|gZ oJ))<|aQ 1 aB)<|eC<|fM<|aE (aI bK (bO (bG 4) aD) aD)<|aE (aI bK (bO (bG 4) aD) aD)<|bY aB)<|hG (eV eY (bO (bG 2) aD) aD) (eC<|d4 aJ1 hr<|sR (fM<|aE (aI bK (bO (bG 4) aD) aD)<|aE (aI bK (bO (bG 4) aD) aD)<|aE (aI bK (bO (bG 4) aD) aD)<|bY aB)<|aE (aI bK (bO (bG 4) aD) aD) aB)<|bP 4 aI7.nd (d4 hV hr<|aQ 0<|aE (by refine WE.out ?_;exact(dE4<|gZ<|gZ<|gZ<|gZ<|gZ<|gZ<|gZ oJ))<|aQ 1 aB)<|eC<|d4 aJ1 hr<|sR (fM<|aE (aI bK (bO (bG 4) aD) aD)<|aE (aI bK (bO (bG 4) aD) aD)<|aE (aI bK (bO (bG 4) aD) aD)<|aE (aI bK (bO (bG 4) aD) aD)<|bY aB)<|aE (aI bK (bO (bG 4) aD) aD) aB)
theorem bP3 (Z:Zs mg)(aJ0:cJ7<$>P):DT<$>b01 "_law_known_ring" oV 1 wZ:=λhr=>
 (by refine WS.out ?_;exact ws_lw (cP4 (gZ<|gZ<|gZ oJ)<|cP4 (d29<|gZ<|gZ oJ)<|cP4 (gZ<|gZ<|gZ oJ)<|cP4 (d29<|gZ<|gZ oJ)<|cP4 (d29<|d29<|gZ<|gZ oJ)<|cP4 (d29<|gZ<|gZ<|gZ oJ)<|cP4 (d29<|gZ<|gZ<|gZ oJ) oJ) (dD8<|bP 1 xW.nd (aI bV (aJ 1)<|cH<|sR (fM<|bY<|bY<|bY<|bY<|bY aB)<|sR (fM<|sS (gX aD)<|sS (gX aD)<|bY<|bY<|bY aB)<|sR (fM<|bY<|bY<|bY<|bY<|bY aB)<|sR (fM<|sS (gX aD)<|bY<|bY<|bY<|bY aB)<|sR (fM<|bY<|bY<|sS (gX aD)<|bY<|bY aB) aB)<|eC<|bO (bG 1)<|aI fN (d4 aJ0 hr<|aQ 0<|bY<|bY aB) aD) xW.nd)
theorem dN5 (Z:Zs mg){i7:Addr}(lW:mg "RingError"=some (.ref i7))(rZ:excIn K i7 bmV vN=true)(r8: ∀n∈(["FallsApart","TooGreat","NotWhole"]:List Str),∀C,mg n=some (.ref C)->bH6 K i7 C bmV vN)(bE8:MkX<$>"Ring" 10 ["poly","degree","measure"] yV)(cU0:dY9<$>P)(yB:d01<$>P)(a71:bS9<$>P):DT<$>dL6 "_law_ring" bN2 11 c63:=λhr=>
 (bP 3 aI8.nd bF5<|bH (kQ 4 aI8.nd (cI rfl Z.z4 (bY aB))<|b7<|bQ5 (c30<|aJ 3)<|b7<|dV1 3 ["FallsApart","TooGreat","NotWhole"] zK bE8 hr ac rfl rfl rfl rfl rfl (λ_=>(aE (d4 cU0 hr<|aE (d4 yB hr<|aQ 0<|aE (aI bV (aJ 1)<|aJ 4) aB)<|aQ 2 aB) aB)) aI8.nd rfl (Or.inl rfl) (λ_=>(b7<|qH 3 aI8.nd bF5)) rfl lW rZ r8 (il (n:=5) rfl ac))<|hG (c30<|aJ 3) (b7<|qH 3 aI8.nd<|dV0 bE8 hr ac rfl (aE (d4 a71 hr<|aE (d4 yB hr<|aQ 0<|aQ 1 aB) aB) aB))<|b7<|kM 3<|pv 3)
theorem cT7 (Z:Zs mg):DT<$>cI2 "_law_shared" aF4 0 b54:=λhr=>
 (bH (aA0 iE (eV a78 (aJ 1) aD)<|b7<|us_par 0 1 rfl c05.nd rfl rfl ac rfl rfl (aQ 1<|aE (aI fN (aJ 0)<|aJ 1) aB) rfl (hl:=il2 (n:=2) rfl ac ac))<|eC<|cX bF8 rfl Z.z10 bI2 (aQ 0 aB))
theorem d60 (Z:Zs mg):DT<$>cZ2 "_law_times" b02 0 bK8:=λhr=>
 (bP 3 rY.nd (aI bK (dL (bG 0) rfl Z.z0) aD)<|bP 4 rY.nd (aI bF (cH<|bY aB)<|aI bK (aI bF aD<|aJ 3) aD)<|bH (kQ 5 rY.nd (cI rfl Z.z4 (aQ 3 aB))<|b7<|kQ 6 rY.nd (cI rfl Z.z4 (aQ 3 aB))<|b7<|iG 4 (pv 4) (aI bV (bO (bG 4)<|aI bV (aJ 5)<|aJ 6)<|aI bF (bO (bG 1)<|aJ 5)<|bO (bG 2)<|aJ 6)<|aI bV (aJ 5)<|aJ 6)<|bH (kQ 7 rY.nd (yM rfl Z.z4 (aE (aI bK (aI bF aD<|aJ 3) aD)<|aE (aI bK (aJ 3) aD)<|sS (gX aD) aB))<|b7<|kQ 6 rY.nd (cI rfl Z.z4 (aQ 3 aB))<|bP 8 rY.nd (aI bV (aI bK (aJ 7)<|aJ 3)<|aJ 6)<|b7<|iG 4 (pv 4) (aI bK (bO (bG 4)<|aJ 8)<|aI bF (bO (bG 4)<|aJ 7)<|bO (bG 0)<|aJ 6)<|aJ 8)<|eC<|bN cY rfl Z.z6 cP (aE (kC (bG 4) jI<|gO<|aJ 3) aB))
theorem bE7 (Z:Zs mg){k:Nat}{lJ:Φ}(hk:1<=k)(bA2:Fn<$>"_law_det" qV k lJ):DT<$>dL7 "_law_det" bN3 k (cS5 lJ):=λhr=>
 (bH (bV2 (aV6 eY (dL (mK 0<|pv 0) rfl Z.z0) aD<|bF2 _) (b7<|cN3<|a77 (gM<|a77 (mK 0<|pv 0) aD λ_ _=>rfl) aD λ_ _=>rfl) c20)<|bH (sC 1 aF6.nd rfl (Or.inl rfl) aD (hl:=il (n:=4) rfl ac))<|bH (b24 iE rfl (cI rfl Z.z4 (aE (dL (mK 0<|pv 0) rfl Z.z0) aB)) (rD 2<|cV aF6.nd rfl (Or.inl rfl)) (bH (rN (js:=[]) (N:=["_law_row_here",".acc"]) (cap:=[none,none]) (last:=1) (esc:=(aF bN3).names) (XN:=dL7) 3 rfl rfl af ac ac rfl (eA<|aI bV (kC (mK 0<|pv 0) jI<|gO<|eR 2<|pv 2)<|kC (mK 0<|pv 0) (gO<|aI bV (eR 2<|pv 2) aD) jI) (λ_ _ _ _ _ _=>(rD 0<|cV (show Nodup (["_law_row_here",".acc"]:List Str)by decide +kernel) rfl (Or.inl rfl))) (λ_ _ _ _ _ _=>cO) (λ_ _ _ _ _ _=>(kC (mK 0<|pv 0) (gO aD) jI)) (cV aF6.nd rfl (Or.inl rfl)) (il (n:=4) rfl ac))<|b7<|sC 1 aF6.nd rfl (Or.inl rfl) (aI bV (eR 1<|pv 1)<|aI bF (aI bF (aI bK aD<|aI bF aD<|aI fN (eR 2<|pv 2) aD)<|a77 (gM<|a77 (mK 0<|pv 0) (eR 2<|pv 2) λ_ _=>rfl) aD λ_ _=>rfl)<|aK4 bA2 hr (aK _) rfl (aE (eR 3<|pv 3) aB)) (hl:=il (n:=4) rfl ac)))<|b7<|kM 1<|pv 1)
theorem d61 (Z:Zs mg)(tJ:bO5<$>P):DT<$>c81 "_law_table" bE5 1 bL2:=λhr=>
 (bP 2 vI.nd (aI bK (dL (bG 0) rfl Z.z0) aD)<|bP 3 vI.nd (bN cY rfl Z.z6 cP (aE (iM ["_law_k",".acc"] (aF bE5).names c81 (cI rfl Z.z4 (aQ 2 aB)) (λ_ _ _ _ _ _=>cO) λ_ _ _ _ _ _=>(bN bF9 rfl Z.z14 b39 (aE (bB0 eY (aJ 0) aD) aB))) aB))<|bP 4 vI.nd (cH aB)<|bP 5 vI.nd (bN cY rfl Z.z6 cP (aQ 1 aB))<|bH (kQ 6 vI.nd (cI rfl Z.z4 (aQ 2 aB))<|bH (jH 4 (pv 4)<|aJ 5)<|b7<|qH 5 vI.nd<|d4 tJ hr<|aQ 0<|aQ 3<|aQ 5 aB)<|b7<|kM 4<|pv 4)
theorem dN6 (Z:Zs mg):DT<$>dL8 "_law_held" bN4 0 c74:=λhr=>
 (bP 2 b09.nd (bN aH5 rfl Z.z2 aH9 (aQ 1 aB))<|bH (kQ 3 b09.nd (yM rfl Z.z4 (aE (aI bK (dL (bG 2) rfl Z.z0) aD)<|sS (gX aD)<|sS (gX aD) aB))<|bP 4 b09.nd (aI qG (bO (bG 2)<|aJ 3)<|bO (gM<|bO (bG 0)<|aJ 3)<|aJ 3)<|b7<|kQ 5 b09.nd (cI rfl Z.z4 (aE (aI bV (aJ 3) aD) aB))<|b7<|iG 2 (pv 2) (aI bK (bO (bG 2)<|aJ 5)<|aI bF (aJ 4)<|bO (gM<|bO (bG 0)<|aJ 3)<|aJ 5)<|aJ 5)<|b7<|kM 2<|pv 2)
theorem d62 (Z:Zs mg):DT<$>cZ4 "_law_value" b03 0 bL4:=λhr=>
 (bP 2 b10.nd aD<|bH (kQ 3 b10.nd (cW6 rfl Z.z3 (aQ 0 aB))<|b7<|qH 2 b10.nd<|aI bV (aI bF (aJ 2)<|aJ 1)<|aJ 3)<|b7<|kM 2<|pv 2)
theorem d63 (Z:Zs mg):DT<$>cZ5 "_law_known" b04 0 bL6:=λhr=>
 (bP 3 zG.nd (cH aB)<|bP 4 zG.nd aD<|bH (kQ 5 zG.nd (cI rfl Z.z4 (aQ 0 aB))<|bP 6 zG.nd (aI bF (cH<|bY aB)<|aJ 0)<|bH (bV2 (eV eY (aJ 5) aD) (b7<|iG 6 (pv 6) (aJ 1) aD)<|bP 4 zG.nd (aI fN (aI bF (aJ 4)<|aJ 2)<|aJ 1)<|bH (iG 6 (pv 6) (aI fN (gX<|aJ 4)<|aJ 1) aD)<|b7<|iG 6 (pv 6) aD<|aJ 5)<|b7<|jH 3 (pv 3)<|bN cY rfl Z.z6 cP (aQ 6 aB))<|eC<|bN cY rfl Z.z6 cP (aQ 3 aB))
theorem d64 (Z:Zs mg):DT<$>a54 "_law_stair" wG 0 bJ1:=λhr=>
 (bH (rN (js:=[0,1]) (N:=["_law_i","_law_many","_law_m",".acc"]) (cap:=[none,some 0,some 1,none]) (last:=3) (esc:=(aF wG).names) (XN:=a54) 3 rfl rfl af ac ac rfl (cI rfl Z.z4 (aQ 0 aB)) (λ_ _ _ _ _ _=>(rD 0<|cV (show Nodup (["_law_i","_law_many","_law_m",".acc"]:List Str)by decide +kernel) rfl (Or.inr rfl))) (λ_ _ _ _ _ _=>cO) (λ_ _ _ _ _ _=>(iM ["_law_j","_law_m","_law_i",".acc"] [(".0",NameKind.local),("_law_i",NameKind.cell),("range",NameKind.globalImplicit),("_law_m",NameKind.cell),("_law_many",NameKind.cell)] ["_law_i","_law_many","_law_m",".acc"] (cI rfl Z.z4 (aQ 1 aB)) (λ_ _ _ _ _ _=>cO) λ_ _ _ _ _ _=>(aI bF (aJ 1)<|bN bF9 rfl Z.z14 b39 (aE (bB0 eY (aJ 2)<|aJ 0) aB)))) (cV jO.nd rfl (Or.inl rfl)) (il (n:=12) rfl ac))<|bH (kQ 4 jO.nd (eA<|aJ 2)<|bH (rN (js:=[1]) (N:=["_law_place","_law_m",".acc"]) (cap:=[none,some 1,none]) (last:=2) (esc:=(aF wG).names) (XN:=a54) 5 rfl rfl af ac ac rfl (eA<|aJ 4) (λ_ _ _ _ _ _=>(rD 0<|cV (show Nodup (["_law_place","_law_m",".acc"]:List Str)by decide +kernel) rfl (Or.inl rfl))) (λ_ _ _ _ _ _=>cO) (λ_ _ _ _ _ _=>(aI fN (aJ 0)<|aJ 1)) (cV jO.nd rfl (Or.inl rfl)) (il (n:=12) rfl ac))<|b7<|kQ 6 jO.nd (yM rfl Z.z4 (aE (aI bK (aJ 0) aD)<|sS (gX aD)<|sS (gX aD) aB))<|b7<|aA0 iE (eV a78 (bO (bG 5)<|aJ 6) aD)<|bP 7 jO.nd (aI qG (bO (gM<|bO (bG 3)<|aJ 6)<|aJ 6)<|bO (bG 5)<|aJ 6)<|bP 8 jO.nd (aI bK (bO (gM<|bO (bG 3)<|aJ 6)<|aJ 6)<|aI bF (aJ 7)<|bO (bG 5)<|aJ 6)<|bP 9 jO.nd (kC (gM<|bO (bG 3)<|aJ 6) jI<|gO<|aJ 6)<|bH (rN (js:=[7,1]) (N:=["_law_a","_law_b","_law_part","_law_m",".acc"]) (cap:=[none,none,some 7,some 1,none]) (last:=4) (esc:=(aF wG).names) (XN:=a54) 9 rfl rfl af ac ac rfl (cO6 (by rfl) Z.z7<|aQ 9<|aQ 5 aB) (λ_ _ _ _ _ _=>(uO rfl (eU 0 (cV (show Nodup (["_law_a","_law_b","_law_part","_law_m",".acc"]:List Str)by decide +kernel) rfl (Or.inl rfl))<|eU 1 (cV (show Nodup (["_law_a","_law_b","_law_part","_law_m",".acc"]:List Str)by decide +kernel) rfl (Or.inl rfl)) oF) (dU<|dU mU))) (λ_ _ _ _ _ _=>cO) (λ_ _ _ _ _ _=>(aI fN (aI bK (aJ 0)<|aI bF (aJ 2)<|aJ 1)<|aJ 3)) (cV jO.nd rfl (Or.inl rfl)) (il (n:=12) rfl ac))<|bH (iG 3 (pv 3) (aJ 5)<|aJ 6)<|b7<|qH 5 jO.nd<|aI bV (aI bV (aJ 9)<|cH<|aQ 8 aB)<|aI bF (cH<|bY aB)<|aI bK (aI bK (aJ 0) aD)<|aJ 6)<|bH (kQ 10 jO.nd (cI rfl Z.z4 (aQ 0 aB))<|b7<|kQ 11 jO.nd (yM rfl Z.z4 (aE (aI bK (aJ 10) aD)<|sS (gX aD)<|sS (gX aD) aB))<|bP 7 jO.nd (aI qG (bO (gM<|bO (bG 3)<|aJ 10)<|aJ 11)<|bO (gM<|bO (bG 3)<|aJ 11)<|aJ 11)<|b7<|iG 3 (pv 3) (aA8 (js:=[7]) (N:=["_law_a","_law_b","_law_part",".acc"]) (cap:=[none,none,some 7,none]) (last:=3) (esc:=(aF wG).names) (XN:=a54) rfl rfl af ac ac rfl (cO6 (by rfl) Z.z7<|aE (bO (bG 3)<|aJ 10)<|aE (bO (bG 3)<|aJ 11) aB) (λ_ _ _ _ _ _=>(uO rfl (eU 0 (cV (show Nodup (["_law_a","_law_b","_law_part",".acc"]:List Str)by decide +kernel) rfl (Or.inl rfl))<|eU 1 (cV (show Nodup (["_law_a","_law_b","_law_part",".acc"]:List Str)by decide +kernel) rfl (Or.inl rfl)) oF) (dU<|dU mU))) (λ_ _ _ _ _ _=>cO) (λ_ _ _ _ _ _=>(aI bK (aJ 0)<|aI bF (aJ 2)<|aJ 1)))<|aJ 10)<|eC<|bN cY rfl Z.z6 cP (aE (iM ["_law_row_here",".acc"] (aF wG).names a54 (eA<|aJ 3) (λ_ _ _ _ _ _=>cO) λ_ _ _ _ _ _=>(bN cY rfl Z.z6 cP (aQ 0 aB))) aB))
theorem dN7 (Z:Zs mg)(aJ2:cJ8<$>P)(sA:c06<$>P)(bA2:dM8<$>P)(aJ3:cJ9<$>P):DT<$>dL9 "_law_made" bN5 5 c70:=λhr=>
 (bP 2 a59.nd aD<|bP 3 a59.nd (cH aB)<|bH (kQ 4 a59.nd (eA<|aJ 1)<|bP 5 a59.nd (d4 aJ2 hr<|aQ 0<|aQ 4 aB)<|bP 2 a59.nd (d4 sA hr<|aQ 2<|aE (d4 bA2 hr<|aQ 5 aB) aB)<|b7<|qH 3 a59.nd<|aI bV (aJ 3)<|aJ 5)<|eC<|d4 aJ3 hr<|aE (aI bK (dL (bG 0) rfl Z.z0) aD)<|aQ 2<|aQ 3 aB)
theorem cK5 (Z:Zs mg)(tJ:bO5<$>P)(aJ3:cJ9<$>P):DT<$>b62 "_law_product" tT 1 aT2:=λhr=>
 (bP 3 a60.nd (cH aB)<|bH (kQ 4 a60.nd (eA<|aJ 1)<|b7<|qH 3 a60.nd<|aI bV (aJ 3)<|iM ["_law_y","_law_poly_here","_law_x",".acc"] (aF tT).names b62 (eA<|aJ 2) (λ_ _ _ _ _ _=>cO) λ_ _ _ _ _ _=>(d4 tJ hr<|aQ 1<|aQ 2<|aQ 0 aB))<|eC<|d4 aJ3 hr<|aE (aI bK (dL (bG 0) rfl Z.z0) aD)<|aE (aI bF (bO (gM<|bO (bG 1) aD) aD)<|bO (gM<|bO (bG 2) aD) aD)<|aQ 3 aB)
theorem d65 (Z:Zs mg)(hV:aF8<$>P)(c91:dM9<$>P)(sA:c06<$>P)(c92:dN0<$>P)(b72:cT5<$>P)(bA2:dM8<$>P)(aJ2:cJ8<$>P)(cU1:dZ2<$>P):DT<$>bE6 "_law_ideal" a55 6 bM1:=λhr=>
 (bP 3 gF.nd (aI bK (dL (bG 0) rfl Z.z0) aD)<|bP 4 gF.nd (d4 hV hr<|aQ 1<|aE (by refine WE.out ?_;exact(aJ6 bV (dE4<|gZ<|gZ<|gZ<|gZ<|wa_e (aJ6 wN a91 a91)<|wa_e (aJ6 wN a91 a91)<|gZ oJ)<|we_p<|aI bF (cH<|bY aB)<|aJ 3))<|aQ 2 aB) (by refine WS.out ?_;exact ws_ew (aJ6 bF (aJ6 bF (aJ6 bF (aJ6 bF (aJ6 bF (aJ6 bF (aJ6 bF (aJ6 bF (aJ6 wN a91 a91)<|aJ6 wN a91 a91)<|aJ6 wN a91 a91)<|aJ6 wN a91 a91)<|aJ6 wN a91 a91) a91) a91) a91) a91) (dD8<|bP 6 gF.nd (cH aB)<|bH (kQ 7 gF.nd (cI rfl Z.z4 (bY aB))<|bP 8 gF.nd (aI bK (bO (bG 4)<|aI bV aD<|aJ 7) aD)<|bP 9 gF.nd (cX bF8 rfl Z.z10 bI2 (aE (d4 c91 hr<|aQ 0<|aQ 8 aB) aB))<|hG (eV b79 (aI fN (bO (bG 4)<|aI bV aD<|aJ 7) aD) aD) (b7<|qH 9 gF.nd<|d4 sA hr<|aQ 9<|aE (aI bF (aJ 5)<|aI bV aD<|aI qG (bO (bG 4)<|aI bV aD<|aJ 7) aD) aB)<|b7<|jH 6 (pv 6)<|d4 c92 hr<|aQ 3<|aQ 9<|aQ 8 aB) (by refine WS.out ?_;exact ws_lx (gZ<|gZ<|gZ oJ) (bO (bG 4) aD) (dD8<|bP 11 gF.nd (bN cY rfl Z.z6 cP (aE (iM ["_law_place","_law_wide",".acc"] (aF a55).names bE6 (eA<|kC (bG 4) (gO aD) jI) (λ_ _ _ _ _ _=>cO) λ_ _ _ _ _ _=>(aI bK (aI fN (aJ 0)<|aI bV (aI bF aD<|aJ 1) aD)<|aJ 1)) aB))<|hG (eV (cO5 hr.units) (aJ 11)<|bN cY rfl Z.z6 cP (aE (aI bF (cH<|bY aB)<|aJ 3) aB)) (b7<|qH 11 gF.nd<|bN cY rfl Z.z6 cP (aE (aI bV (cH<|bY aB)<|aI bF (cH<|bY aB)<|aI bK (aJ 3) aD) aB))<|bP 12 gF.nd (bO (bG 6) aD)<|hG (eV eY (bO (bG 4) aD) aD) (b7<|qH 12 gF.nd<|d4 b72 hr<|aQ 0<|aE (bO (bG 6) aD)<|aE (bO (bG 6) aD) aB)<|hG (eV b79 (bO (bG 4) aD) aD) (bP 9 gF.nd (d4 sA hr<|aE (d4 bA2 hr<|aE (d4 aJ2 hr<|aQ 0<|aQ 11 aB) aB)<|aE (aI bF (aI bF (aJ 5) aD) aD) aB)<|hG (eV eY (bO (bG 4) aD) aD) (b7<|qH 9 gF.nd<|aI qG (aJ 9)<|d4 sA hr<|aQ 9<|aE (aI bV aD<|aI fN (bO (bG 4) aD) aD) aB)<|hG (PUW.pt<|aV7 (eV eY (bO (bG 4) aD) aD)<|a99<|eV eY (aI fN (bO (bG 4) aD) aD) aD) (b7<|qH 9 gF.nd<|aI bV aD<|bO (bG 4) aD)<|b7<|qH 12 gF.nd<|d4 cU1 hr<|aQ 0<|aE (cH<|aQ 11<|aE (bN cY rfl Z.z6 cP (aE (aI bV (cH<|aQ 9 aB)<|aI bF (cH<|bY aB)<|aI bK (aJ 3) aD) aB)) aB) aB)<|eC<|bN cY rfl Z.z6 cP (aE (iM ["_law_row_here","_law_found",".acc"] (aF a55).names bE6 (eA<|aJ 12) (λ_ _ _ _ _ _=>cO) λ_ _ _ _ _ _=>(bN cY rfl Z.z6 cP (aE (iM ["_law_place","_law_found",".acc"] [(".0",NameKind.local),("_law_row_here",NameKind.local),("tuple",NameKind.globalImplicit),("_law_found",NameKind.cell)] ["_law_row_here","_law_found",".acc"] (eA<|aJ 0) (λ_ _ _ _ _ _=>cO) λ_ _ _ _ _ _=>(aI bF (cX (cN7 rfl) rfl Z.z1 cQ9 (bY<|aE (aI bK (bO (bG 1) aD) aD) aB))<|aJ 0)) aB))) aB)) gF.nd)) gF.nd))
theorem d66 (Z:Zs mg):DT<$>cZ7 "_law_whole" b05 0 bI1:=λhr=>
 (eC<|cN2 (cX b26 rfl Z.z15 kF (aQ 0<|aE (bV4 rfl Z.z14 b39) aB))<|cN1<|d99<|cX b26 rfl Z.z15 kF (aQ 0<|aE (bV4 rfl Z.z16 c45) aB))
theorem dZ5 (Z:Zs mg)(c93:dN2<$>P):DT<$>dM0 "_law_row" c01 1 cS1:=λhr=>
 (hG (PUW.pt<|wM (aH4<|a98<|cX b26 rfl Z.z15 kF (aQ 0<|aE (bV4 rfl Z.z6 cP) aB))<|t7<|eV a78 (dL (bG 0) rfl Z.z0)<|aJ 1) (eC a76)<|eC<|cX (aA6 rfl) rfl Z.z9 aA7 (aE (iM ["_law_place",".acc"] (aF c01).names dM0 (eA<|aJ 0) (λ_ _ _ _ _ _=>cO) λ_ _ _ _ _ _=>(d4 c93 hr<|aQ 0 aB)) aB))
theorem c90 (Z:Zs mg)(dO1:TF_row<$>P):DT<$>aU1 "_law_is_table" qW 2 aE2:=λhr=>
 (hG (PUW.pt<|wM (aH4<|a98<|cX b26 rfl Z.z15 kF (aQ 0<|aE (bV4 rfl Z.z6 cP) aB))<|t7<|eV a78 (dL (bG 0) rfl Z.z0)<|aJ 1) (eC a76)<|eC<|cX (aA6 rfl) rfl Z.z9 aA7 (aE (iM ["_law_row_here","_law_many",".acc"] (aF qW).names aU1 (eA<|aJ 0) (λ_ _ _ _ _ _=>cO) λ_ _ _ _ _ _=>(d4 dO1 hr<|aQ 0<|aQ 1 aB)) aB))
theorem cT8 (Z:Zs mg)(aV0:cK0<$>P):DT<$>bN7 "_law_stairs" zD 3 b57:=λhr=>
 (hG (aH4<|a98<|d4 aV0 hr<|aQ 0<|aQ 1 aB) (eC a76)<|bH (kQ 2 b63.nd (cI rfl Z.z4 (aQ 1 aB))<|hG (PUW.pt<|wM (eV aA1 (bO (gM<|bO (bG 0)<|aJ 2)<|aJ 2) aD)<|t7<|a98<|cX (cP0 rfl) rfl Z.z8 bG9 (aE (iM ["_law_place",".acc"] (aF zD).names bN7 (eA<|b33 (bO (bG 0)<|aJ 2) (gO<|aI bV (aJ 2) aD) jI) (λ_ _ _ _ _ _=>cO) λ_ _ _ _ _ _=>(bB0 a78 (aJ 0) aD)) aB)) (eC a76)<|b7<|kQ 3 b63.nd (cI rfl Z.z4 (aQ 2 aB))<|b7<|bQ5 (PUW.pt<|wM (eV aA1 (bO (gM<|bO (bG 0)<|aJ 2)<|aJ 3) aD)<|t7<|eV dA6 (bO (gM<|bO (bG 0)<|aJ 2)<|aJ 3)<|bO (gM<|bO (bG 0)<|aJ 3)<|aJ 3)<|eC a76)<|eC a76)
theorem dN8 (Z:Zs mg)(cU2:dZ1<$>P)(tJ:bO5<$>P):DT<$>c82 "_law_shut" aU2 1 c76:=λhr=>
 (bP 2 c84.nd (aI bK (dL (bG 0) rfl Z.z0) aD)<|bP 3 c84.nd (bN cY rfl Z.z6 cP (aE (iM ["_law_k",".acc"] (aF aU2).names c82 (cI rfl Z.z4 (aQ 2 aB)) (λ_ _ _ _ _ _=>cO) λ_ _ _ _ _ _=>(bN bF9 rfl Z.z14 b39 (aE (bB0 eY (aJ 0) aD) aB))) aB))<|eC<|cX (aA6 rfl) rfl Z.z9 aA7 (aE (iM ["_law_row_here","_law_table_here","_law_poly_here","_law_turn","_law_many",".acc"] (aF aU2).names c82 (eA<|aJ 1) (λ_ _ _ _ _ _=>cO) λ_ _ _ _ _ _=>(bB0 (cO5 hr.units) (d4 cU2 hr<|aQ 1<|aE (d4 tJ hr<|aQ 2<|aQ 3<|aQ 0 aB) aB)<|aI bF (cH<|bY aB)<|aJ 4)) aB))
theorem dN9 (Z:Zs mg)(hV:aF8<$>P):DT<$>dM2 "_law_free" bN8 2 c79:=λhr=>
 (bP 3 rH.nd (d4 hV hr<|aQ 0<|aE (aI bV (aI bV (cH<|bY aB)<|aI bF (cH<|bY aB)<|aJ 1)<|aI bF (cH<|aE (aI wN aD aD) aB) aD)<|aQ 2 aB)<|bP 4 rH.nd (cH aB)<|bP 5 rH.nd (aI bV (aJ 1) aD)<|bH (kQ 6 rH.nd (cI rfl Z.z4 (aQ 1 aB))<|bP 7 rH.nd (aI bV aD<|bO (bG 3)<|aI bV aD<|aJ 6)<|hG (eV eY (bO (bG 3) aD) aD) (b7<|qH 7 rH.nd<|aI bV aD<|aI bF (bN bF9 rfl Z.z14 b39 (aE (bB0 eY (aJ 6)<|aI bK (aJ 1) aD) aB))<|aJ 7)<|bP 8 rH.nd (aI bV (aI bV (aI bF (cH<|bY aB)<|aJ 6)<|cH<|aQ 7 aB)<|aI bF (cH<|bY aB)<|aI bK (aI bK (aJ 1) aD)<|aJ 6)<|bH (kQ 9 rH.nd (cI rfl Z.z4 (aQ 6 aB))<|bH (iG 8 (pv 8) (aI fN (bO (bG 3)<|aJ 5)<|bO (gM<|bO (bG 4)<|aJ 9)<|aJ 9)<|aJ 9)<|b7<|qH 5 rH.nd<|aI bV (aJ 5) aD)<|b7<|jH 4 (pv 4)<|bN cY rfl Z.z6 cP (aQ 8 aB))<|eC<|bN cY rfl Z.z6 cP (aQ 4 aB))
theorem cT9 (Z:Zs mg)(hV:aF8<$>P):DT<$>aF5 "_law_spoilt" rX 2 b58:=λhr=>
 (bP 3 iP.nd (dL (bG 1) rfl Z.z0)<|bP 4 iP.nd (d4 hV hr<|aQ 0<|aE (cH<|bY<|aQ 3<|aQ 3<|bY<|bY aB)<|aQ 2 aB)<|dE1 (dE3 (N:=["_law_row_here",".acc"]) (esc:=(aF rX).names) (XN:=aF5) rfl rfl af rfl (eA<|aJ 1) (λ_ _ _ _ _ _=>(rD 0<|cV (show Nodup (["_law_row_here",".acc"]:List Str)by decide +kernel) rfl (Or.inl rfl))) (λ_ _ _ _ _ _=>(bN aH5 rfl Z.z2 aH9 (aQ 0 aB))) (cV iP.nd rfl (Or.inl rfl)))<|dE5<|cQ0 (bH1 6 iP.nd rfl (Or.inl rfl) (bO (bG 4) aD) (hl:=il (n:=10) rfl ac))<|cQ0 (bH1 7 iP.nd rfl (Or.inl rfl) (bO (bG 4) aD) (hl:=il (n:=10) rfl ac))<|cQ0 (bH1 8 iP.nd rfl (Or.inl rfl) (aI bK (bO (bG 4) aD) aD) (hl:=il (n:=10) rfl ac))<|d31 (eV aA1 (aJ 8) aD) (cW9 (bH1 9 iP.nd rfl (Or.inl rfl) (bO (gM<|cH<|bY<|bY<|aE (bO (gM<|bO (bG 5)<|aJ 7)<|aJ 7)<|aE (aI bF (bO (gM<|bO (bG 5)<|aJ 6)<|aJ 6)<|aI bV aD<|aI fN (bO (bG 4) aD) aD)<|aE (aI bF (gX<|bO (gM<|bO (bG 5)<|aJ 6)<|aJ 6)<|aI bV aD<|aI fN (bO (bG 4) aD) aD) aB)<|cX (cN7 rfl) (by rfl) (by exact Z.z1) cQ9<|bY<|aQ 8 aB) (hl:=il (n:=10) rfl ac))<|cW9 (un_if (eV b79 (aJ 8) aD) (aR7<|bH1 7 iP.nd rfl (Or.inl rfl) (aJ 6) (hl:=il (n:=10) rfl ac)) un_nil)<|aR7<|bD4 (pv 5) (aI bV (bO (gM<|bO (bG 5)<|aJ 6)<|aJ 7)<|aI bF (aJ 9)<|bO (gM<|cH<|bY<|sS (gX aD) aB)<|aI bF (bO (bG 4) aD)<|bN bF9 (by rfl) (by exact Z.z14) b39<|aE (bB0 aA1 (aJ 8) aD) aB) (aJ 6) (aJ 7) λ_ _=>rfl)<|d31 (eV eY (aJ 8) aD) (aR7<|bD4 (pv 5) (aI bV (bO (gM<|bO (bG 5)<|aJ 6)<|aI bK (aJ 3) aD) aD) (aJ 6) (aI bK (aJ 3) aD) λ_ _=>rfl)<|d32 (eV eY (aJ 8) aD) (b7<|dU4 5 (pv 5)<|aQ 6 aB)<|d32 (eV eY (aJ 8) aD) (b7<|jH 5 (pv 5)<|bN aH5 (by rfl) (by exact Z.z2) aH9<|aE (bO (bG 5)<|aI bK (aJ 3) aD) aB)<|d31 (eV eY (aJ 8) aD) (aR7<|dU2 (pv 5) (aJ 6) (aQ 7 aB) λ_ _=>rfl)<|d31 (eV eY (aJ 8) aD) (aR7<|dU3 (pv 5) (aJ 6) (aQ 7<|bY aB) λ_ _=>rfl)<|d32 (eV eY (aJ 8) aD) (b7<|c22 (fM<|aE (bO (bG 5)<|aJ 7)<|aE (bO (bG 5)<|aJ 6) aB)<|uO rfl (dU5 2<|cD6 5 (pv 5) (aJ 6) (cD6 5 (pv 5) (aJ 7) oF (by intro _;rfl)) (by intro _;rfl)) λ_ _ _ h=>h.1)<|d32 (eV eY (aJ 8) aD) (b7<|rN (js:=[]) (N:=["_law_row_here",".acc"]) (cap:=[none,none]) (last:=1) (esc:=(aF rX).names) (XN:=aF5) 5 rfl rfl af ac ac rfl (eA<|aJ 5) (λ_ _ _ _ _ _=>(rD 0<|cV (show Nodup (["_law_row_here",".acc"]:List Str)by decide +kernel) rfl (Or.inl rfl))) (λ_ _ _ _ _ _=>cO) (λ_ _ _ _ _ _=>(iM ["_law_place",".acc"] [(".0",NameKind.local),("_law_row_here",NameKind.local)] ["_law_row_here",".acc"] (eA<|aJ 0) (λ_ _ _ _ _ _=>cO) λ_ _ _ _ _ _=>(aI bF aD<|aJ 0))) (cV iP.nd rfl (Or.inl rfl)) (il (n:=10) rfl ac))<|d32 (eV eY (aJ 8) aD) (b7<|qH 5 iP.nd<|cH aB)<|d32 (eV eY (aJ 8) aD) (b7<|qH 5 iP.nd<|cH<|aE (cH aB) aB)<|d31 (eV eY (aJ 8) aD) (aR7<|bD4 (pv 5) (aI bV (bO (gM<|bO (bG 5)<|aJ 6)<|aJ 6) aD) (aJ 6) (aJ 6) λ_ _=>rfl)<|d31 (eV eY (aJ 8) aD) (aR7<|bD4 (pv 5) (aI bF (bO (gM<|bO (bG 5) aD) aD)<|aI bV aD<|bO (bG 4) aD) aD aD λ_ _=>rfl)<|dU1<|eC<|bN cY (by rfl) (by exact Z.z6) cP<|aE (iM ["_law_row_here",".acc"] (aF rX).names aF5 (eA<|aJ 5) (λ_ _ _ _ _ _=>cO) λ_ _ _ _ _ _=>(bN cY (by rfl) (by exact Z.z6) cP<|aQ 0 aB)) aB)
theorem dZ6 (Z:Zs mg)(bP5:d55<$>P)(cU3:dZ3<$>P):DT<$>dM3 "_law_due" c04 4 cS7:=λhr=>
 (bP 2 dM6.nd (aI bK (dL (bG 0) rfl Z.z0) aD)<|hG (PUW.pt<|wM (eV a78 (dL (bG 1) rfl Z.z0)<|aJ 2)<|t7<|a98<|cX (cP0 rfl) rfl Z.z8 bG9 (aE (iM ["_law_row_here","_law_many",".acc"] (aF c04).names dM3 (eA<|aJ 1) (λ_ _ _ _ _ _=>cO) λ_ _ _ _ _ _=>(bB0 a78 (dL (bG 0) rfl Z.z0)<|aJ 1)) aB)) (eC a76)<|eC<|cN2 (d4 bP5 hr<|aQ 1<|aQ 2 aB)<|cN1<|d4 cU3 hr<|aQ 0<|aQ 1 aB)
theorem dZ7 (Z:Zs mg)(cU4:dZ0<$>P)(hV:aF8<$>P)(yB:d01<$>P)(c94:dN1<$>P)(cU5:dZ4<$>P)(bP6:d56<$>P)(tK:bS5<$>P)(d02:TF_due<$>P):DT<$>e34 "law" b06 12 c80:=λhr=>
 (bP 1 a61.nd (d4 cU4 hr<|aQ 0<|bY<|bY aB)<|bP 2 a61.nd (c42<|aJ 1)<|bP 3 a61.nd (d4 hV hr<|aE (d4 yB hr<|aQ 0<|bY aB)<|aE (cH<|bY aB)<|bY aB)<|bH (bV2 (eV aA1 (bO (bG 3) aD) aD) (b7<|qH 4 a61.nd<|d4 c94 hr<|aQ 2<|aE (d4 yB hr<|aQ 0<|bY aB)<|bY aB)<|b7<|qH 4 a61.nd<|d4 cU5 hr<|aE (d4 yB hr<|aQ 0<|bY aB)<|aE (aI bK (dL (bG 2) rfl Z.z0) aD)<|bY aB)<|bP 5 a61.nd (d4 bP6 hr<|aE (d4 yB hr<|aQ 0<|bY aB)<|aQ 4<|bY aB)<|bP 6 a61.nd (d4 tK hr<|aQ 1<|aQ 5 aB)<|hG (PUW.pt<|wM (aH4<|a98<|cX b26 rfl Z.z15 kF (aQ 6<|aE (bV4 rfl Z.z16 c45) aB))<|t7<|eV a78 (aJ 6)<|d4 d02 hr<|aQ 2<|aQ 5 aB) (eC a76)<|bP 7 a61.nd (d4 tK hr<|aQ 1<|aQ 4 aB)<|eC<|cN2 (cX b26 rfl Z.z15 kF (aQ 7<|aE (bV4 rfl Z.z16 c45) aB))<|cN1<|bB0 eY (aJ 7)<|d4 d02 hr<|aQ 2<|aQ 4 aB)
theorem d67 (Z:Zs mg){nY:Tok}(fP:mg "GREATEST_MEASURE"=some (.int 39999 nY)){rA:Addr}(lX:mg "TooGreat"=some (.ref rA))(rB:excIn K rA bmV vN=true)(dR:mS<$>P)(aG3:c87<$>P)(nZ:FnX<$>"need_together" vE 5 jF)(sN:FnX<$>"need_whole" a90 9 lY){f:Addr}{cdv:Value}{A:Around}{outer:List Env}{s:Shared}{H:Hp}{E:XK}(hr:i8 9 (A.deeper<|envOfC "Ring.__init__" (aF aF7) s.heap.objs.size f cdv)) :
  PSs (vQ (CXr P w base) P w K mg base ["self","poly","size"] "Ring.__init__" (aF aF7) f cdv A outer s H E) (eK aF7) (λD=>lSX K mg E bK3 {D with nx:=tS3 K "poly" "degree" "measure" bK4 bK5 bK6 D}):=
 (bD9 (aW6<|c28<|aK4 dR hr ac rfl (aE (eR 1<|pv 1) aB))<|bD9 (cX3 nZ hr ac e18 rfl (aE (eR 1<|pv 1) aB))<|bD9 (aW6<|sC 2 d00.nd rfl (Or.inl rfl) (aK4 aG3 hr ac rfl (aE (eR 1<|pv 1) aB)) (hl:=il (n:=3) rfl ac))<|bD9 (dF7 (aV6 b79 (cX bF8 rfl Z.z10 bI2 (aE (eR 2<|pv 2) aB)) (cW2 rfl fP)<|bF2 _) (bH5<|dF8 zK rB rfl lX rfl (aE pu_str aB) cQ5 rfl) cQ7)<|dV2 (cX3 sN hr ac e18 rfl (aE (eR 1<|pv 1)<|aE (eR 2<|pv 2) aB))<|l8 (cM1 (pv 0) (eR 1<|pv 1) rfl)<|l8 (cM1 (pv 0) (aI bK (dL (mK 1<|pv 1) rfl Z.z0) aD) rfl)<|bC5<|cM1 (pv 0) (eR 2<|pv 2) rfl)
end
theorem lC {P:List Value->Prop}{n:Nat}(h: ∀a us,us.length=n->P (a::us)): ∀us:List Value,us.length=n+1->P us:=λus=>us.casesOn (λe=>nomatch e) λa us e=>h a us (Nat.succ.inj e)
theorem lN0 {P:List Value->Prop}(h:P []): ∀us:List Value,us.length=0->P us:=λus=>us.casesOn (λ_=>h) λ_ _ e=>nomatch e
local macro_rules| `(tactic| walk_at "b0")=> `(tactic| exact λ_ _ _ _ _ _=>lN0 rfl)
theorem lN1 {P:List Value->Prop}(h: ∀a0,P [a0]): ∀us:List Value,us.length=1->P us:=lC λa0=>lN0 (h a0)
local macro_rules| `(tactic| walk_at "b1")=> `(tactic| exact λ_ _ _ _ _ _=>lN1 λ_=>rfl)
theorem lN2 {P:List Value->Prop}(h: ∀a0 a1,P [a0,a1]): ∀us:List Value,us.length=2->P us:=lC λa0=>lC λa1=>lN0 (h a0 a1)
local macro_rules| `(tactic| walk_at "b2")=> `(tactic| exact λ_ _ _ _ _ _=>lN2 λ_ _=>rfl)
theorem lN3 {P:List Value->Prop}(h: ∀a0 a1 a2,P [a0,a1,a2]): ∀us:List Value,us.length=3->P us:=lC λa0=>lC λa1=>lC λa2=>lN0 (h a0 a1 a2)
local macro_rules| `(tactic| walk_at "b3")=> `(tactic| exact λ_ _ _ _ _ _=>lN3 λ_ _ _=>rfl)
local macro_rules| `(tactic| walk_at "n")=> `(tactic| (intro _ _ h;repeat (first| (obtain⟨e,_⟩:=h;subst e;rfl)|obtain⟨_,h⟩:=h)))
structure FD where
 oc:Value
 od:Option Addr
 kV:Value
 dc:Value
 pm:Value
 an:Option Addr
 cd:Value
 ct:Value
 sl:Array (Option Value)
abbrev eP (K:Frag)(x y:Str)(s:Stmt)(f:Addr):Prop:= ∃d:FD,nsIn K mainGlobals y=some (some<|.ref f)/\K.lookup f=some ⟨d.oc,d.od,.func<|fnOf x x (jD s) (eK s) (aF s) .none d.kV d.dc d.pm d.an d.cd d.ct,d.sl⟩/\codeIn K d.cd x=true/\keepIn K (.ref f)=true
theorem fnAt {K:Frag}{x y:Str}{s:Stmt}{f:Addr}{oc:Value}{od:Option Addr}{kV dc pm:Value}{an:Option Addr}{cd ct:Value}{sl:Array (Option Value)}(a:nsIn K mainGlobals y=some (some<|.ref f))(b:K.lookup f=some ⟨oc,od,.func<|fnOf x x (jD s) (eK s) (aF s) .none kV dc pm an cd ct,sl⟩)(c:codeIn K cd x=true)(k:keepIn K (.ref f)=true):eP K x y s f:=⟨⟨oc,od,kV,dc,pm,an,cd,ct,sl⟩,a,b,c,k⟩
theorem dO0 {K:Frag}{x y:Str}{s:Stmt}{f:Addr}(p:eP K x y s f): ∃fd,Fun K x x s f fd/\nsIn K mainGlobals y=some (some<|.ref f):=let ⟨_,a,b,c,k⟩:=p;⟨_,b22 b c k,a⟩
section
variable {P:Program}{w:World}{K:Frag}{mg:Str->Option Value}{base h:Heap}(X:K.In h)(G:h.Ns mainGlobals mg){x y:Str}{st:Stmt}{f:Addr}{N ps:List Str}{k:Nat}(p:eP K x y st f)(b: ∀(kV doc pm:Value) (an:Option Addr) (cdv ct:Value) (us:List Value),us.length=ps.length->bindArgs (fnOf x x (jD st) (eK st) (aF st) .none kV doc pm an cdv ct) ⟨us,[]⟩=pure (ps.zip us))(S:aY N ps (aF st))
include X G p b S
theorem fn_b {φ:Φ}(len: ∀ds Q,φ ds Q->ds.length=ps.length){t:US}(der:DT<$>N x st k t)(rd: ∀ds Q,φ ds Q->t {Q with} (init N ds)):Fn<$>y ps (k+1) φ:=
 let ⟨_,U,m⟩:=dO0 p
 Fn.mkA U (dA X G m) (U.binds b) S len (λ_ _ _ _ _ _=>der) rd
theorem fnX_b {φ:ΦX}(q:x=y)(len: ∀ds Q Ex,φ ds Q Ex->ds.length=ps.length){t:USX}(der: ∀(cdv:Value) (A:Around) (outer:List Env) (s:Shared) (H:Hp) (E:XK),i8 k (A.deeper<|envOfC x (aF st) s.heap.objs.size f cdv)->a80 (vQ (CXr P w base) P w K mg base N x (aF st) f cdv A outer s H E) E (eK st) t)(rd: ∀ds Q Ex,φ ds Q Ex->t Ex {Q with} (init N ds)):FnX<$>y ps (k+1) φ:=
 let ⟨_,U,m⟩:=dO0 p
 q▸FnX.mk' U (dA X G<|q▸m) (U.binds b) S len der rd
end
theorem all_mk {l:PySem.W.OpenLaw}{w:World}{K:Frag}{h:Heap}{mg:Str->Option Value}{fa f1 f2 f3 f4 f5 f6 f7 f8 f9 f10 f11 f12 f13 f14 f15 f16 f17 f18 f19 f20 f21 f22 f23 f24 f25 f26 f27 f28 f29 f30 f31 f32 f33 f34 f35 f36 f37 f38 f39 f40 f41 f42 f43 f44 f45 f46 f47 f48 f49 f50 f51 f52 f53 f54 f55 f56 f57 f58 f59 f60 f61 f62 f63 hZ jU b17 eX gY rA i7 rC jP:Addr}(X:K.In h)(G:h.Ns mainGlobals mg)(hfa:mg "law"=some (.ref fa))
  {bT5 bT6 cK7 cK8 dZ8 dZ9 bC2:Option Addr} {bT7 cK9 e00 bC3:Array (Option Value)} {bT8 bT9 bU0 aM8 bU1 cL0 cL1 cL2 bA3 cL3 e01 e02 e03 d03 e04 e05:Value} {tL a72 bP7:ClassData} {qY nY:Tok} {b73:Array Value} {n_SMALL_PRIMES:Nat}
  (P1:eP K "cut" "cut" aZ1 f1)
  (P2:eP K "padded" "padded" vA f2)
  (P3:eP K "poly_parted" "poly_parted" kD f3)
  (P4:eP K "poly_at" "poly_at" rT f4)
  (P5:eP K "det" "det" aI6 f5)
  (P6:eP K "without" "without" o8 f6)
  (P7:eP K "t_times" "t_times" o9 f7)
  (P8:eP K "root" "root" aE7 f8)
  (P9:eP K "small_primes" "small_primes" jL f9)
  (P10:eP K "rest" "rest" tQ f10)
  (P11:eP K "is_stair" "is_stair" kB f11)
  (P12:eP K "is_stair_row" "is_stair_row" iA f12)
  (P13:eP K "is_ideal" "is_ideal" lZ f13)
  (P14:eP K "holds" "holds" yY f14)
  (P15:eP K "is_ring_poly" "is_ring_poly" iB f15)
  (P16:eP K "need_ring_poly" "need_ring_poly" iJ f16)
  (P17:eP K "apart" "apart" yZ f17)
  (P18:eP K "dividers" "dividers" oR f18)
  (P19:eP K "line_and_rest" "line_and_rest" iU f19)
  (P20:eP K "two_by_two" "two_by_two_apart" gQ f20)
  (P21:eP K "two_with" "two_with" oS f21)
  (P22:eP K "measure" "measure" oA f22)
  (P23:eP K "root_sums" "root_sums" kG f23)
  (P24:eP K "mod_poly" "mod_poly" mC f24)
  (P25:eP K "mod_parted" "mod_parted" lL f25)
  (P26:eP K "scaled" "scaled" qU f26)
  (P27:eP K "inverse_of" "inverse_of" lM f27)
  (P28:eP K "split_by" "split_by" oU f28)
  (P29:eP K "lines_out" "lines_out" mZ f29)
  (P30:eP K "rootless_parts" "rootless_parts" gK f30)
  (P31:eP K "two_by_two" "two_by_two_split" gR f31)
  (P32:eP K "papers_of" "papers_of" kH f32)
  (P33:eP K "parts_at" "parts_at" mD f33)
  (P34:eP K "outside_of" "outside_of" jM f34)
  (P35:eP K "need_together" "need_together" gB f35)
  (P36:eP K "need_whole" "need_whole" gS f36)
  (P37:eP K "_law_cell" "_law_cell" bN0 f37)
  (P38:eP K "_law_mixed" "_law_mixed" aZ9 f38)
  (P39:eP K "_law_draws" "_law_draws" b00 f39)
  (P40:eP K "_law_shifted" "_law_shifted" zC f40)
  (P41:eP K "_law_poly" "_law_poly" b61 f41)
  (P42:eP K "_law_known_ring" "_law_known_ring" oV f42)
  (P43:eP K "_law_ring" "_law_ring" bN2 f43)
  (P44:eP K "_law_shared" "_law_shared" aF4 f44)
  (P45:eP K "_law_times" "_law_times" b02 f45)
  (P46:eP K "_law_det" "_law_det" bN3 f46)
  (P47:eP K "_law_table" "_law_table" bE5 f47)
  (P48:eP K "_law_held" "_law_held" bN4 f48)
  (P49:eP K "_law_value" "_law_value" b03 f49)
  (P50:eP K "_law_known" "_law_known" b04 f50)
  (P51:eP K "_law_stair" "_law_stair" wG f51)
  (P52:eP K "_law_made" "_law_made" bN5 f52)
  (P53:eP K "_law_product" "_law_product" tT f53)
  (P54:eP K "_law_ideal" "_law_ideal" a55 f54)
  (P55:eP K "_law_whole" "_law_whole" b05 f55)
  (P56:eP K "_law_row" "_law_row" c01 f56)
  (P57:eP K "_law_is_table" "_law_is_table" qW f57)
  (P58:eP K "_law_stairs" "_law_stairs" zD f58)
  (P59:eP K "_law_shut" "_law_shut" aU2 f59)
  (P60:eP K "_law_free" "_law_free" bN8 f60)
  (P61:eP K "_law_spoilt" "_law_spoilt" rX f61)
  (P62:eP K "_law_due" "_law_due" c04 f62)
  (P63:eP K "law" "law" b06 f63)
  (iV:nsIn K mainGlobals "FallsApart"=some (some<|.ref eX))
  (lU:nsIn K mainGlobals "NotWhole"=some (some<|.ref gY))
  (lX:nsIn K mainGlobals "TooGreat"=some (some<|.ref rA))
  (lW:nsIn K mainGlobals "RingError"=some (some<|.ref i7))
  (bP8:nsIn K mainGlobals "Ring"=some (some<|.ref rC))
  (aM9:findIn K (.ref eX) "__init__"=some (some<|.ref hZ))
  (bA4:findIn K (.ref gY) "__init__"=some (some<|.ref jU))
  (c95:findIn K (.ref rC) "__init__"=some (some<|.ref b17))
  (a73:K.lookup hZ=some ⟨.type "function",bT5,.func<|fnOf "__init__" "FallsApart.__init__" (jD oX) (eK oX) (aF oX) .none bT8 bT9 bU0 bT6 aM8 bU1,bT7⟩)
  (aV1:K.lookup jU=some ⟨.type "function",cK7,.func<|fnOf "__init__" "NotWhole.__init__" (jD vJ) (eK vJ) (aF vJ) .none cL0 cL1 cL2 cK8 bA3 cL3,cK9⟩)
  (cU6:K.lookup b17=some ⟨e05,dZ8,.func<|fnOf "__init__" "Ring.__init__" (jD aF7) (eK aF7) (aF aF7) .none e01 e02 e03 dZ9 d03 e04,e00⟩)
  (yC:codeIn K aM8 "FallsApart.__init__"=true)
  (yD:keepIn K (.ref hZ)=true)
  (aG4:codeIn K bA3 "NotWhole.__init__"=true)
  (aG5:keepIn K (.ref jU)=true)
  (c96:codeIn K d03 "Ring.__init__"=true)
  (c97:keepIn K (.ref b17)=true)
  (mH:aB2 K eX hZ [.type "ValueError",.type "Exception",.type "BaseException",.type "object"] "ValueError.__new__"=true)
  (r6:aB2 K gY jU [.type "ValueError",.type "Exception",.type "BaseException",.type "object"] "ValueError.__new__"=true)
  (rB:excIn K rA [.type "ValueError",.type "Exception",.type "BaseException",.type "object"] "ValueError.__new__"=true)
  (rZ:excIn K i7 [.type "ValueError",.type "Exception",.type "BaseException",.type "object"] "ValueError.__new__"=true)
  (rJ:clsIn K eX=some tL)
  (wJ:clsIn K gY=some a72)
  (aG6:clsIn K rA=some bP7)
  (jQ:(tL).mro.contains (.ref i7)=true)
  (kK:(bP7).mro.contains (.ref i7)=true)
  (kL:(a72).mro.contains (.ref i7)=true)
  (yE:a23 (tL).mro=true)
  (yF:(tL).hasDict=true)
  (yG:findIn K (.ref eX) "__setattr__"=some (some<|.builtin "object.__setattr__"))
  (yH:findIn K (.ref eX) "left"=some none)
  (yI:findIn K (.ref eX) "right"=some none)
  (aG7:a23 (a72).mro=true)
  (aG8:(a72).hasDict=true)
  (aG9:findIn K (.ref gY) "__setattr__"=some (some<|.builtin "object.__setattr__"))
  (aH0:findIn K (.ref gY) "prime"=some none)
  (aH1:findIn K (.ref gY) "number"=some none)
  (mk_Ring:makesIn K rC=true)
  (fn_Ring:PySem.W.isFn K (.ref b17)=true)
  (kc_Ring:keepIn K (.ref rC)=true)
  (pg_Ring:plainGet K rC Str.empty=true)
  (c98:hasDictIn K rC=true)
  (po_Ring:plainOver K rC=true)
  (c99:findIn K (.ref rC) "__setattr__"=some (some<|.builtin "object.__setattr__"))
  (cA0:findIn K (.ref rC) "poly"=some none)
  (b74:findIn K (.ref rC) "degree"=some none)
  (aV2:findIn K (.ref rC) "measure"=some none)
  (dO2:nsIn K mainGlobals "len"=some none)
  (dO3:nsIn K mainGlobals "max"=some none)
  (cU7:nsIn K mainGlobals "list"=some none)
  (aV3:nsIn K mainGlobals "reversed"=some none)
  (cA1:nsIn K mainGlobals "range"=some none)
  (aH2:nsIn K mainGlobals "enumerate"=some none)
  (cA2:nsIn K mainGlobals "tuple"=some none)
  (dO4:nsIn K mainGlobals "zip"=some none)
  (dO5:nsIn K mainGlobals "any"=some none)
  (dO6:nsIn K mainGlobals "all"=some none)
  (dO7:nsIn K mainGlobals "abs"=some none)
  (dO8:nsIn K mainGlobals "sum"=some none)
  (dO9:nsIn K mainGlobals "min"=some none)
  (bP9:nsIn K mainGlobals "sorted"=some none)
  (dP0:nsIn K mainGlobals "int"=some none)
  (a74:nsIn K mainGlobals "isinstance"=some none)
  (cU8:nsIn K mainGlobals "bool"=some none)
  (gL:nsIn K mainGlobals "GREATEST_PLACE"=some (some<|.int 499 qY))
  (fP:nsIn K mainGlobals "GREATEST_MEASURE"=some (some<|.int 39999 nY))
  (iL:nsIn K mainGlobals "SMALL_PRIMES"=some (some<|.ref jP))
  (sO:K.lookup jP=some ⟨.type "tuple",bC2,.seq b73 n_SMALL_PRIMES,bC3⟩)
  (sP:b73.size<=sizeLine)
  (sQ:Vals (T_SMALL_PRIMES.map V.int) b73.toList) :
  ∃fd:FuncData,(∀(s:Shared) (v:Value),BindsTo s fd ⟨[v],[]⟩ [("_law_script",v)])/\ ∀base:Heap,K.In base->base.Ns mainGlobals mg->sZ l.prog w K mg base CX0 13 fa fd ["_law_script"] (spP K cC3):=by
 have h5:=P5.choose_spec;have h46:=P46.choose_spec;have h63:=P63.choose_spec;have e:=hfa.symm.trans (dA X G h63.1);cases e;have Z:Zs mg:=⟨eE X G dO2,eE X G dO3,eE X G cU7,eE X G aV3,eE X G cA1,eE X G aH2,eE X G cA2,eE X G dO4,eE X G dO5,eE X G dO6,eE X G dO7,eE X G dO8,eE X G dO9,eE X G bP9,eE X G dP0,eE X G a74,eE X G cU8⟩;have gL:=dA X G gL;have fP:=dA X G fP;have iL:=dA X G iL
 have vK:KT K jP (T_SMALL_PRIMES.map V.int):=kt_of sO sP sQ;have iV:=dA X G iV;have lU:=dA X G lU;have lX:=dA X G lX;have lW:=dA X G lW;have bP8:=dA X G bP8;have a70:cE1 K eX hZ _ "left" "right":=cX4 (st:=oX) (x0:="self") (x1:="left") (x2:="right") a73 yC yD rfl bS3 rfl rfl rfl ac ac ac (λ_ _ _ _ _ _=>lN3 λ_ _ _=>rfl) rJ yE yF yG yH yI
 have aU8:cE1 K gY jU _ "prime" "number":=cX4 (st:=vJ) (x0:="self") (x1:="prime") (x2:="number") aV1 aG4 aG5 rfl cJ3 rfl rfl rfl ac ac ac (λ_ _ _ _ _ _=>lN3 λ_ _ _=>rfl) wJ aG7 aG8 aG9 aH0 aH1
 have r8: ∀n∈(["FallsApart","TooGreat","NotWhole"]:List Str),∀C,mg n=some (.ref C)->bH6 K i7 C bmV vN:=by
  intro n hn C hm;simp only[bB,fF,eI]at hn;rcases hn with rfl|rfl|rfl
  . (have e:=hm.symm.trans iV;cases e;exact b37 (.inr ⟨_,mH⟩) rJ jQ)
  . (have e:=hm.symm.trans lX;cases e;exact b37 (.inl rB) aG6 kK)
  . (have e:=hm.symm.trans lU;cases e;exact b37 (.inr ⟨_,r6⟩) wJ kL)
 have U5:=b22 (st:=aI6) h5.2.1 h5.2.2.1 h5.2.2.2;have U46:=b22 (st:=bN3) h46.2.1 h46.2.2.1 h46.2.2.2;have U63:=b22 (st:=b06) h63.2.1 h63.2.2.1 h63.2.2.2;have UR:=b22 (st:=aF7) cU6 c96 c97;refine⟨fnOf "law" "law" (jD b06) (eK b06) (aF b06) .none P63.choose.kV P63.choose.dc P63.choose.pm P63.choose.an P63.choose.cd P63.choose.ct,λs v=> .of_eq rfl,λbase _ _=> ?_⟩
 have mB:= @fn_b l.prog w K mg base h X G;have mX:= @fnX_b l.prog w K mg base h X G;have a64:=mB P1 (by walk_at "b1") bN9 ag (d57 Z) dH8
 have aU9:=mB P2 ah cJ0 ag (c88 Z) cF3
 have dF:=mB P3 ah eM ag (b14 Z a64) b44
 have oC:=mB P4 ah tI ag (bT0 Z) c54
 have oB:=mB P6 ah c83 ag (bT1 Z) c47
 have d68:Fn l.prog w K mg base "det" jK 1 (gP 0):=Fn.void U5 (dA X G h5.1) (U5.binds (ps:=jK)<|by walk_at "b1") cR0
 have d69:Fn l.prog w K mg base "det" jK 2 (gP 1):=Fn.mk' U5 (dA X G h5.1) (U5.binds (ps:=jK)<|by walk_at "b1") oW (aI0 _) (λcdv A outer s H E hr=>aI9 Z ac d68 oB hr) (aX0 0 ac)
 have d70:Fn l.prog w K mg base "det" jK 3 (gP 2):=Fn.mk' U5 (dA X G h5.1) (U5.binds (ps:=jK)<|by walk_at "b1") oW (aI0 _) (λcdv A outer s H E hr=>aI9 Z ac d69 oB hr) (aX0 1 ac)
 have d71:Fn l.prog w K mg base "det" jK 4 (gP 3):=Fn.mk' U5 (dA X G h5.1) (U5.binds (ps:=jK)<|by walk_at "b1") oW (aI0 _) (λcdv A outer s H E hr=>aI9 Z ac d70 oB hr) (aX0 2 ac)
 have d72:Fn l.prog w K mg base "det" jK 5 (gP 4):=Fn.mk' U5 (dA X G h5.1) (U5.binds (ps:=jK)<|by walk_at "b1") oW (aI0 _) (λcdv A outer s H E hr=>aI9 Z ac d71 oB hr) (aX0 3 ac)
 have b16:=d72;have aG2:=mB P7 ah a56 ag (bT2 Z) c59
 have bP4:=mB P8 (by walk_at "b1") zE ag (cT6 Z) d43
 have iC:=mB P9 (by walk_at "b0") b07 ag (aU5 Z iL vK) aX5
 have b70:=mB P10 ah vG ag (cK1 Z) cS3
 have qX:=mB P12 ah wH ag (aU6 Z) aY6
 have a65:=mB P11 ah bR9 ag (bO6 Z qX) bR7
 have b68:=mB P14 ah cT0 ag (cK2 Z b70) cS4
 have tK:=mB P13 ah bS0 ag (bO7 Z a65 b68 aG2) bR8
 have qZ:=mB P15 (by walk_at "b1") b08 ag (aU7 Z gL) aX6
 have dR:=mB P16 (by walk_at "b1") aK0 ag (aF9 Z qZ) aJ8
 have mG:=mB P18 (by walk_at "b1") xT ag (bO8 Z) bR1
 have oY:=mB P19 (by walk_at "b1") nW ag (aK2 Z mG oC dF) aS2
 have a66:=mB P21 ah xU ag (bO9 Z bP4) bR2
 have lP:=mB P20 (by walk_at "b1") gE ag (a62 Z mG a66) a92
 have b71:=mB P17 (by walk_at "b1") aU3 ag (cK3 Z dR oY lP) cR7
 have xY:=mB P23 ah jN ag (bB9 Z) bI5
 have aG3:=mB P22 (by walk_at "b1") a57 ag (bT3 Z dR xY b16) c56
 have gC:=mB P24 ah bS1 ag (bP0 Z a64) bQ7
 have vL:=mB P27 ah nA ag (b65 Z) bB1
 have a67:=mB P26 (by walk_at "b3") cJ1 ag (c89 Z gC) cE6
 have vM:=mB P25 (by walk_at "b3") kE ag (b64 Z gC vL dF a67) bB2
 have xZ:=mB P29 ah iK ag (bC0 Z oC vM) bJ9
 have lR:=mB P31 ah eQ ag (a63 Z) a94
 have nX:=mB P30 ah sY ag (aG0 Z lR) aJ7
 have a69:=mB P28 ah xV ag (bP1 Z iC xZ gC nX) bQ8
 have a68:=mB P33 ah bS2 ag (bP2 Z a69 dF) bQ9
 have yA:=mB P32 ah bO0 ag (bC1 Z iC a68) bK1
 have vO:=mB P34 ah iO ag (b66 Z dF) bB4
 have nZ:=mX P35 (by walk_at "b1") vH rfl aD2 (λ_ _ _ _ _ _ hr=>aG1 Z iV mH a70 b71 hr) aJ9
 have sN:=mX P36 ah nB rfl aX7 (λ_ _ _ _ _ _ hr=>b15 Z lU r6 aU8 vO yA aU9 hr) b50
 have yB:=mB P37 ah dY8 ag (dN3 Z) dV3
 have aJ0:=mB P38 (by walk_at "b3") bO1 ag (d58 Z) dG5
 have hV:=mB P39 (by walk_at "b3") zF ag (d59 Z aJ0) dG6
 have aJ1:=mB P40 ah a58 ag (cK4 Z) cS0
 have cU0:=mB P41 ah aI7 ag (dN4 Z hV aJ1) dX5
 have a71:=mB P42 (by walk_at "b1") xW ag (bP3 Z aJ0) bR5
 have okR:OkC K rC ["poly","degree","measure"]:=⟨⟨pg_Ring,c98,po_Ring,c99⟩,λf hf=>by
  simp only[bB,fF,eI]at hf;rcases hf with rfl|rfl|rfl
  .exact cA0
  .exact b74
  .exact aV2⟩
 have fR:=dG4 UR d00 okR ac ac ac d45 ac (λcdv A outer s H E hr=>d67 Z fP lX rB dR aG3 nZ sN hr) dJ1
 have bR:=UR.binds (ps:=["self","poly"]) λ_ _ _ _ _ _ us hl=>match us,hl with| [_,_],_=>rfl
 have bE8:MkX l.prog w K mg base "Ring" 10 ["poly","degree","measure"] yV:=⟨rC,b17,_,["self","poly"],Mk.mk mk_Ring c95 fn_Ring kc_Ring,okR,fR,bR,bP8⟩;have cU4:=mB P43 (by walk_at "b3") aI8 ag (dN5 Z lW rZ r8 bE8 cU0 yB a71) dX3
 have sA:=mB P44 ah c05 ag (cT7 Z) d49
 have tJ:=mB P45 (by walk_at "b3") rY ag (d60 Z) dJ5
 have e06:Fn l.prog w K mg base "_law_det" qV 1 (lJ 0):=Fn.void U46 (dA X G h46.1) (U46.binds (ps:=qV)<|by walk_at "b1") dK4
 have e07:Fn l.prog w K mg base "_law_det" qV 2 (lJ 1):=Fn.mk' U46 (dA X G h46.1) (U46.binds (ps:=qV)<|by walk_at "b1") aF6 (bE3 _) (λcdv A outer s H E hr=>bE7 Z ac e06 hr) (c66 0 ac)
 have e08:Fn l.prog w K mg base "_law_det" qV 3 (lJ 2):=Fn.mk' U46 (dA X G h46.1) (U46.binds (ps:=qV)<|by walk_at "b1") aF6 (bE3 _) (λcdv A outer s H E hr=>bE7 Z ac e07 hr) (c66 1 ac)
 have e09:Fn l.prog w K mg base "_law_det" qV 4 (lJ 3):=Fn.mk' U46 (dA X G h46.1) (U46.binds (ps:=qV)<|by walk_at "b1") aF6 (bE3 _) (λcdv A outer s H E hr=>bE7 Z ac e08 hr) (c66 2 ac)
 have e10:Fn l.prog w K mg base "_law_det" qV 5 (lJ 4):=Fn.mk' U46 (dA X G h46.1) (U46.binds (ps:=qV)<|by walk_at "b1") aF6 (bE3 _) (λcdv A outer s H E hr=>bE7 Z ac e09 hr) (c66 3 ac)
 have bA2:=e10;have aJ2:=mB P47 ah vI ag (d61 Z tJ) dK3
 have cU2:=mB P48 ah b09 ag (dN6 Z) dY2
 have c91:=mB P49 ah b10 ag (d62 Z) dK5
 have c92:=mB P50 (by walk_at "b3") zG ag (d63 Z) dK6
 have aJ3:=mB P51 (by walk_at "b3") jO ag (d64 Z) dH7
 have cU1:=mB P52 ah a59 ag (dN7 Z aJ2 sA bA2 aJ3) dX7
 have b72:=mB P53 (by walk_at "b3") a60 ag (cK5 Z tJ aJ3) cS6
 have c94:=mB P54 (by walk_at "b3") gF ag (d65 Z hV c91 sA c92 b72 bA2 aJ2 cU1) dL0
 have c93:=mB P55 (by walk_at "b1") dM5 ag (d66 Z) dG9
 have dO1:=mB P56 ah sc_row ag (dZ5 Z c93) rd_row
 have aV0:=mB P57 ah cJ2 ag (c90 Z dO1) cG9
 have bP5:=mB P58 ah b63 ag (cT8 Z aV0) d50
 have cU3:=mB P59 ah c84 ag (dN8 Z cU2 tJ) dY4
 have cU5:=mB P60 (by walk_at "b3") rH ag (dN9 Z hV) dY5
 have bP6:=mB P61 (by walk_at "b3") iP ag (cT9 Z hV) d52
 have d02:=mB P62 ah dM6 ag (dZ6 Z bP5 cU3) rd_due
 exact c25 U63 a61 dV4 (λcdv A outer s H E hr=>⟨c80,dZ7 Z cU4 hV yB c94 cU5 bP6 tK d02 hr,rd_law⟩)
end M
open PySem PySem.W PyProof.Rows
local macro_rules| `(tactic| walk_at "f")=> `(tactic| (refine' M.fnAt ?x1 ?x2 ?x3 ?x4;(case x1=>k_is);(case x2=>k_is);(case x3=>k_is);(case x4=>k_is)))
namespace PySem.W.Fast
def tw17655600148684393481:=()
def tw17598646206535069789:=()
def tw340614159856919565:=()
def tw4790739959955906205:=()
def tw12313035929881146290:=()
def tw11082261290562025080:=()
def tw9538585381335066489:=()
def tw8316811576983513914:=()
def tw11024872712441729660:=()
def tw13740020350962567421:=()
def tw3457285494498798885:=()
def tw14247634232537930725:=()
def tw17174535794596299209:=()
def tw9574995972014269353:=()
def tw105065374607130567:=()
def tw8250772664652725976:=()
def tw5449827504328936447:=()
def tw14553967828615738619:=()
def tw16323735083954405873:=()
def tw16652308675957013970:=()
def tw10492635210207800692:=()
def tw8390853838853232701:=()
def tw15002270290798566368:=()
def tw10191101502622609328:=()
def tw2585155399277846607:=()
def tw14988920103160030734:=()
def tw1596006674909002028:=()
def tw2000404792675441424:=()
def tw5463324577440100605:=()
def tw7578703382269133037:=()
def tw15434206204770537092:=()
def tw22226664205372777:=()
def tw13206917105713970581:=()
def tw16303950044921012247:=()
def tw12727471641705358596:=()
def tw5267036647614183662:=()
def tw12533971786952352198:=()
def tw8634276010665807965:=()
def tw16421296635724780885:=()
def tw5217305693663462391:=()
def tw13264954231377261164:=()
def tw3405626518911397575:=()
def tw14473717444917553087:=()
def tw3484743441066602598:=()
def tw5446953654402876102:=()
def tw8004513237408096023:=()
def tw7073457166723420601:=()
def tw18181613884088143576:=()
def tw4441508417960949413:=()
def tw7778717811874899358:=()
def tw34708869834581375:=()
def tw10446204917423591325:=()
def tw9249403638251066988:=()
def tw11272380631443715288:=()
def tw4927823436601106694:=()
def tw16939322685019590038:=()
def tw10124106605450845382:=()
def tw18321294892171484533:=()
def tw16882471720872380323:=()
def tw14791779359386038287:=()
def tw14354774514444826322:=()
def tw3390974160951552818:=()
def tw339280814964081266:=()
def tw4063644980528065582:=()
def tw4648421340281242496:=()
def tw9003227189129181276:=()
def tw1631883563963945169:=()
def tw4466376113542590483:=()
def tw9054849274503479305:=()
def tw10698106353870081608:=()
def tw14135234931255606472:=()
def tw2759651579281973982:=()
def tw5377066930370451736:=()
def tw15646053769399464643:=()
def tw16664383603401320767:=()
def tw17939747675670795137:=()
def tw7691182055971338048:=()
def tw5858392478395135829:=()
def tw4057118753033487005:=()
def tw1661652057166999011:=()
def tw2606892166194843101:=()
def tw15249472624098687659:=()
def tw655577770666708357:=()
def tw10434475836162714273:=()
def tw4322488539564507053:=()
def tw10116520757983243821:=()
def tw13777640664994438842:=()
def tw5682921945003841239:=()
def tw2220880479395882221:=()
def tw10669716152395192831:=()
def tw2019997213642479827:=()
def tw553639475591128754:=()
def tw12490547176992237521:=()
def tw68570202246543194:=()
def tw3329619888449664404:=()
def tw6219710666806209282:=()
def tw5617575426564275977:=()
def tw2504701611673509526:=()
def tw7446746358538922934:=()
def tw14580113105423561345:=()
def tw3078949346400512733:=()
def tw7094723317446759787:=()
def tw9292629156870027932:=()
def tw12351584601839651676:=()
def tw3916738651079750445:=()
def tw15631849009411014492:=()
def tw3993678612061122490:=()
def tw18328392194173057582:=()
def tw2195406423223767737:=()
def tw9230193074065391830:=()
def tw14159096798545218333:=()
def tw16646282941077461289:=()
def tw2747375309893221491:=()
def tw5008626831114447105:=()
def tw6668583784120586641:=()
def tw3053404585254159812:=()
def tw16276896037020284489:=()
def tw9210079476570843417:=()
def tw5705913533698948842:=()
def tw14347395629503848683:=()
def tw3754511849004479666:=()
def tw7062180206949686560:=()
def tw3942761974407137110:=()
def tw16269932536891488570:=()
def tw17634594877301502554:=()
def tw5500012162112395346:=()
def tw18200062382715122268:=()
def tw16877169270277618211:=()
def tw3083871995338926781:=()
def tw12744307164133569665:=()
def tw4827427511577913099:=()
def tw15879255628911864091:=()
def tw17853163239203498651:=()
def tw6830247693872068512:=()
def tw14725179056201923249:=()
def tw2261253267944691990:=()
def tw15398133225291406927:=()
def tw16989647461089808520:=()
def tw3832940242853846152:=()
def tw15804303193320555982:=()
def tw16061387746491035862:=()
def tw679282954336800363:=()
def tw12784056003175728813:=()
def tw5179032188241807101:=()
def tw4480564694138694768:=()
def tw6015829832336129124:=()
def tw5328521652719427166:=()
def tw12475514667444002361:=()
def tw4091591039254373550:=()
def tw14876906311690539158:=()
def tw14628121729173142042:=()
def tw16819022964477659723:=()
def tw7932601389598971835:=()
def tw9720114352425934376:=()
def tw15267213693430743400:=()
def tw1589894252703296193:=()
def tw120800561485823310:=()
def tw2349554224304826774:=()
def tw11675486549633270416:=()
def tw14448765444472339928:=()
def tw1806802884640939228:=()
def tw11513590579442775419:=()
def tw5099093877392323444:=()
def tw14845692960947080017:=()
def tw341107890735130723:=()
def tw6162006202101882813:=()
def tw17242123578790851227:=()
def tw7249564547911459904:=()
def tw7002889154029550312:=()
def tw13433803435879747640:=()
def tw7491259762080494456:=()
def tw14985225330872230545:=()
def tw1705846241272930156:=()
def tw1510001436695961981:=()
def tw16572636450932605521:=()
def tw766236438089153632:=()
def tw13190055106145104397:=()
def tw2699452427764359201:=()
def tw9377261225808679621:=()
def tw1578128342559158580:=()
def tw2505726211435378489:=()
def tw16639828934063386074:=()
def tw3622653480349393269:=()
def tw2732673404984507944:=()
def tw12920732363028095713:=()
def tw2108424527892311217:=()
def tw18244170773952538472:=()
def tw13741360064890879281:=()
def tw16465310206676502016:=()
def tw14267585496364533653:=()
def tw16131697668352037730:=()
def tw10867522613350531302:=()
def tw10554612753783952048:=()
def tw18035247753312149037:=()
def tw14434615079755967136:=()
def tw13669526896325584746:=()
def tw3733663293587884521:=()
def tw1312325690338267741:=()
def tw11386058202854738627:=()
def tw15282877094921352672:=()
def tw16444858485222128510:=()
def tw16593068051125187588:=()
def tw10992708830925942808:=()
def tw4803006604097474182:=()
def tw4506440436742227694:=()
def tw17575503668527566325:=()
def tw4318430972141440470:=()
def tw17691778201707436894:=()
def tw5238991237271324206:=()
def tw750208725219609910:=()
def tw12839869749589127681:=()
def tw3559564050552314692:=()
def tw8746596915361846174:=()
def tw17554181224521172640:=()
def tw14982255861402554115:=()
def tw10576808114168929514:=()
def tw9114111052128534303:=()
def tw2311795817894679311:=()
def tw8771300336462162608:=()
def tw13999523256427748859:=()
def tw861876344254739824:=()
def tw1167511295336526498:=()
def tw16708491735480703272:=()
def tw8347295663427832268:=()
def tw17876044160514058626:=()
def tw6866662554898469962:=()
def tw10107797557311994028:=()
def tw2887581723695387252:=()
def tw6617488190650149073:=()
def tw13419439857386079096:=()
def tw9935084199665137135:=()
def tw12069687489614339015:=()
def tw7437089514413701189:=()
def tw8105479718706006236:=()
def tw11494452351328289188:=()
def tw13260640968275825292:=()
def tw10241682013005764823:=()
def tw14830376236135175897:=()
def tw3628909347701395511:=()
def tw8369197161852255319:=()
def tw11325544152269549711:=()
def tw14205650683323968426:=()
def tw12080497065209776917:=()
def tw16472093674950198300:=()
def tw16113037883631319770:=()
def tw4991791744817507575:=()
def tw6404495095099047189:=()
def tw16276045632287533434:=()
def tw15333584899628593050:=()
def tw7819024356731655546:=()
def tw297231119626954441:=()
def tw4795985142833629311:=()
def tw16219266425662161992:=()
def tw11029007875755674533:=()
def tw8549724890339586962:=()
def tw8827512045210588736:=()
def tw4353949557871770083:=()
def tw9058917309792064086:=()
def tw2542040498742645885:=()
def tw11388650690626077096:=()
def tw3227488757070148866:=()
def tw16573972501568787576:=()
def tw5288104830903906264:=()
def tw12584424518297854800:=()
def tw9185466978761543480:=()
def tw6898522593707518190:=()
def tw482792953363354585:=()
def tw8661609673755431294:=()
def tw8827381524267396037:=()
def tw2641903505842201623:=()
def tw17307973230997977565:=()
def tw16478476905941356392:=()
def tw4186322960086639046:=()
def tw2823170935813807422:=()
def tw15381057065836462323:=()
def tw44720244017129799:=()
def tw2497921368823573523:=()
def tw12052059639580597398:=()
def tw7400849859959931260:=()
def tw10356308661289371033:=()
def tw3562679942956359377:=()
def tw546467126066965136:=()
def tw6793923840074771433:=()
def tw8598301230122511994:=()
def tw17625916771112436936:=()
def tw1179359590415251166:=()
def tw10454868895725282416:=()
def tw2703424912356444803:=()
def tw14465243639856420844:=()
def tw4690788224611749962:=()
def tw12628522397244499014:=()
def tw7202427551884125582:=()
def tw16968196184430961514:=()
def tw4104150271854187571:=()
def tw7342870852235201963:=()
def tw15399142281057195285:=()
def tw1308624180443986943:=()
def tw8250351422091197465:=()
def tw3972588355787950807:=()
def tw16989983066096745697:=()
def tw10387819060480965165:=()
def tw7143170030171839005:=()
def tw7975173066580230020:=()
def tw11256668798912089779:=()
def tw15469560899177778044:=()
def tw16183679947798073947:=()
def tw4742056831191969331:=()
end PySem.W.Fast
set_option maxRecDepth 100000 in
set_option maxHeartbeats 0 in
theorem PySem.Challenge.cw_ringhouse_k29_what_is_an_ideal_holds : PySem.Challenge.rw_ringhouse_k29_what_is_an_ideal.Holds := by
 w_on;o_law;k_head;(case hw=>w_witness2)
 k_fill
 refine M.walkM (l:=PySem.Challenge.rw_ringhouse_k29_what_is_an_ideal) (k:=13) (x:="_law_script") rfl rfl ⟨rfl,ac,ac⟩ (λw h Y=>PySem.W.kIn_of Y) ?F
 case F=>
  intro w mg fa h KX G hmg
  refine' M.all_mk KX G hmg ?P1 ?P2 ?P3 ?P4 ?P5 ?P6 ?P7 ?P8 ?P9 ?P10 ?P11 ?P12 ?P13 ?P14 ?P15 ?P16 ?P17 ?P18 ?P19 ?P20 ?P21 ?P22 ?P23 ?P24 ?P25 ?P26 ?P27 ?P28 ?P29 ?P30 ?P31 ?P32 ?P33 ?P34 ?P35 ?P36 ?P37 ?P38 ?P39 ?P40 ?P41 ?P42 ?P43 ?P44 ?P45 ?P46 ?P47 ?P48 ?P49 ?P50 ?P51 ?P52 ?P53 ?P54 ?P55 ?P56 ?P57 ?P58 ?P59 ?P60 ?P61 ?P62 ?P63 ?iV ?lU ?lX ?lW ?bP8 ?aM9 ?bA4 ?c95 ?a73 ?aV1 ?cU6 ?yC ?yD ?aG4 ?aG5 ?c96 ?c97 ?mH ?r6 ?rB ?rZ ?rJ ?wJ ?aG6 ?jQ ?kK ?kL ?yE ?yF ?yG ?yH ?yI ?aG7 ?aG8 ?aG9 ?aH0 ?aH1 ?mk_Ring ?fn_Ring ?kc_Ring ?pg_Ring ?c98 ?po_Ring ?c99 ?cA0 ?b74 ?aV2 ?dO2 ?dO3 ?cU7 ?aV3 ?cA1 ?aH2 ?cA2 ?dO4 ?dO5 ?dO6 ?dO7 ?dO8 ?dO9 ?bP9 ?dP0 ?a74 ?cU8 ?gL ?fP ?iL ?sO ?sP ?sQ
  (case P1|P2|P3|P4|P5|P6|P7|P8|P9|P10|P11|P12|P13|P14|P15|P16|P17|P18|P19|P20|P21|P22|P23|P24|P25|P26|P27|P28|P29|P30|P31|P32|P33|P34|P35|P36|P37|P38|P39|P40|P41|P42|P43|P44|P45|P46|P47|P48|P49|P50|P51|P52|P53|P54|P55|P56|P57|P58|P59|P60|P61|P62|P63=>walk_at "f");(case iV|lU|lX|lW|bP8|aM9|bA4|c95|a73|aV1|cU6|yC|yD|aG4|aG5|c96|c97|rJ|wJ|aG6|yG|yH|yI|aG9|aH0|aH1|mk_Ring|fn_Ring|kc_Ring|pg_Ring|c98|po_Ring|c99|cA0|b74|aV2|dO2|dO3|cU7|aV3|cA1|aH2|cA2|dO4|dO5|dO6|dO7|dO8|dO9|bP9|dP0|a74|cU8|gL|fP|iL|sO=>k_is);(case mH|r6=>first|kernel_rfl|rfl);(case rB|rZ=>k_exc);(case jQ|kK|kL|yE|yF|aG7|aG8=>first|kernel_rfl|rfl|decide);(case sP=>first|decide| (trace_state;decide +kernel));(case sQ=>first| (show L2.Vals (List.map _ _) (List.toList _);simp only[M.T_SMALL_PRIMES,List.map];repeat (first|exact .nil|refine .cons (.int _ _) ?_))| (repeat constructor)|trace_state)
