import PyProof.Rows.All
import Wide.All
import OpenK.AllK
import Wide.FinOn
import Lean
import PyProof.EqAt
import PyProof.EqKinds
import PyProof.TupleCall
import PySem.Challenge.RW_ringhouse_k60_degree_two_alone
set_option Elab.async false
set_option linter.all false
open PySem.W (instObj methodObj lookIn InstAt plainGet hasDictIn plainOver takerIn makesIn emptyDict keepIn fnOf codeIn excIn nsIn kitOne kitAny)
open List (set_cons_zero set_cons_succ replicate length all_cons any_cons foldl forIn_nil map_drop Nodup)
open Nat (le_of_eq mul_comm mul_succ)
open Int (le_of_lt natAbs_neg pow_zero)
open PySem.Heap (SameBut ExtBut FlyingW HeldW MadeExcOf)
open Option (getD_none bind_some)
open Array (toList)
set_option maxRecDepth 100000
set_option compiler.extract_closed false
set_option bootstrap.genMatcherCode false
local macro_rules | `(tactic| walk_at "z") => `(tactic| first|exact .inl rfl|exact .inr rfl|assumption)
def aa{p:Prop}(h:p:=by omega):p:=h
def ac{p:Prop}(h:p:=by decide):p:=h
def ad{p:Prop}(h:p:=by lia):p:=h
def ae{p:Prop}(h:p:=by simp):p:=h
def af{p:Prop}(h:p:=by decide +kernel):p:=h
def al{p:Prop}(h:p:=by rfl):p:=h
local macro_rules|`(↥$t)=>`(autoParam $t al._auto_1)|`(⇑$t)=>`(autoParam $t ac._auto_1)
local macro_rules|`(nonrec def $i:declId $s:optDeclSig $v:declVal)=>`(noncomputable def $i:declId $s:optDeclSig $v:declVal)
local macro_rules|`($x∩$e $s*)=>`(PySem.wpAny (PySem.model ($x).prog ($x).w) ($x).A $e $s*)
local macro_rules|`($x∪0)=>`(($x==("__debug__":PySem.Str))=false)
local macro_rules|`({$q:ident with})=>`({nx:=λ_=>$q (.pu .non),rt:=$q})
local macro_rules|`(@$n:num)=>`($(Lean.mkIdent `M.uC) (.int $n))
local macro_rules|`($f<$>$x:ident)=>`($f $x $(Lean.mkIdent `w) $(Lean.mkIdent `K) $(Lean.mkIdent `mg) $(Lean.mkIdent `base))|`($f<$>$g $s*)=>`($f $(Lean.mkIdent `P) $(Lean.mkIdent `w) $(Lean.mkIdent `K) $(Lean.mkIdent `mg) $(Lean.mkIdent `base) $g $s*)
local macro_rules|`(tactic|exists $t)=>`(tactic|simpa using $t)
local macro_rules|`(tactic|right)=>`(tactic|dsimp only)
def ag{p:Prop}(h:p:=by walk_at "n"):p:=h
def ah{p:Prop}(h:p:=by walk_at "b2"):p:=h
def a9:= @PySem.wpAny_bind
def aR:= @List.getD_eq_getElem?_getD
def a8:= @if_neg
def aU:= @List.getElem?_eq_getElem
def aJ:= @List.length_map
def aT:= @PySem.Heap.get?_push_of_some
def aA:= @if_pos
def aG:= @Nat.le_refl
def aK:= @Nat.le_trans
def aH:= @PySem.wpAny_pure
def b9:= @Nat.lt_of_lt_of_le
def aV:= @PySem.Heap.lt_size
def bD:= @List.size_toArray
def bH:= @Bool.false_ne_true
def aZ:= @List.mem_cons
def bO:= @List.length_append
def bP:= @List.getElem?_map
def bZ:= @PySem.Heap.get?_push_size
def bW:= @Int.toNat_natCast
def bK:= @PySem.W.mg_of
def bI:= @Nat.ne_of_lt
def cC:= @Nat.zero_lt_succ
def cY:= @Int.emod_lt_of_pos
def bG:= @PySem.wpAny_mono
def cL:= @List.getElem_mem
def cH:= @List.map_append
def cI:= @List.range_succ
def cN:= @List.lookup_cons
nonrec def dC:= @List.length_cons
def cZ:= @Bool.and_eq_true
def eJ:= @List.mem_cons_of_mem
def cO:= @Int.emod_nonneg
def eU:= @List.mem_append_right
def eV:= @List.getElem?_eq_none
def dD:= @List.all_eq_true
def dE:= @List.not_mem_nil
def dW:= @PySem.W.mg_none_of
def gZ:= @List.getElem?_append_right
def d4:= @List.mem_append
def hG:= @List.getElem?_append_left
def fL:= @Nat.pow_le_pow_right
def dL:= @List.length_set
def d5:= @List.map_cons
def jJ:= @PyProof.Rows.callWith_type1
nonrec def dF:= @Nat.lt_irrefl
def jK:= @List.getElem?_eq_some_iff
def dX:= @List.mem_range
def cP:= @PySem.wpAny_field
def eK:= @Int.natAbs_mul
def gE:= @decide_eq_true_eq
def dM:= @Int.zero_add
def hJ:= @List.mem_cons_self
def cJ:= @And.right
def fM:= @decide_eq_false
def iQ:= @List.filterMap_cons
def kH:= @PySem.wpAny_callSpecial?_slot
def gF:= @PySem.PassesOwn.never
def jL:= @List.replicate_succ
def iR:= @PySem.wpAny_newObj_type
def kI:= @List.length_replicate
def gG:= @Nat.mul_le_mul
def hU:= @Option.some.inj
def hV:= @PySem.wpAny_execs_nil
def jM:= @List.mem_singleton
def kJ:= @PySem.Heap.get?_none_of_le
def iS:= @PySem.wpAny_call_entry
def gH:= @PySem.wpAny_holding
def pF:= @PySem.F.excBase_ValueError
def eW:= @Nat.zero_le
def jN:= @PySem.wpAny_loadPart_at
def iT:= @List.append_nil
def jO:= @PySem.wpAny_loadPart'
def dG:= @or_false
def gI:= @List.mem_map
def eX:= @beq_iff_eq
def iU:= @PySem.Heap.size_push
def dN:= @congrArg
def kK:= @Nat.lt_succ_of_lt
def kL:= @List.length_range
def kM:= @List.length_nil
def jP:= @Nat.min_eq_left
def yR:= @PySem.F.slot_tuple_iterator_next
def mZ:= @PySem.wpAny_Call_Name_kw
def pG:= @PySem.Heap.get?_update_self
def pH:= @Bool.beq_eq_decide_eq
def yS:= @PyProof.Rows.slot_tuple_getitem
def pI:= @List.getElem?_set_ne
def pJ:= @PySem.wpAny_loadName_local
def n6:= @List.flatten_cons
def nA:= @Int.emod_eq_of_lt
def tZ:= @List.getElem?_replicate
def u4:= @List.length_eq_zero_iff
def u5:= @List.getElem?_cons_zero
def pK:= @beq_eq_false_iff_ne
def pL:= @PySem.mem_of_lookup
def pM:= @PySem.wpAny_isSubtype_exc
def nB:= @PySem.wpAny_execs_cons
def kN:= @PySem.wpAny_seqItems
def iV:= @Nat.pow_add
def jQ:= @List.map_nil
def pN:= @PySem.Obj.data_mapFields
def pO:= @PySem.wpAny_setField_rec
def pP:= @Nat.lt_of_le_of_lt
def nE:= @PySem.wpAny_passesOwn
def nF:= @List.nil_append
def yT:= @List.length_eraseIdx_of_lt
def pQ:= @PySem.wpAny_truthy_bool
def pR:= @PySem.Heap.get?_push_ne
def pS:= @List.ext_getElem?
def yU:= @Int.natAbs_ediv_le_natAbs
def jR:= @PySem.wpAny_of_eq
def nG:= @decide_eq_true
def nI:= @Bool.false_xor
def pT:= @Nat.lt_succ_self
def yV:= @Option.isSome_iff_exists
def pU:= @List.ext_getElem
def kO:= @List.map_map
def kP:= @Int.mul_zero
def u6:= @PySem.Heap.SameBut.update
def u7:= @Nat.mul_le_mul_left
def aJ3:= @PySem.plainObj_wpAny_Assign_Attribute
def nJ:= @PySem.wpAny_standAt
def nK:= @PySem.wpAny_attempt
def nL:= @List.map_take
def u8:= @PySem.W.of_hideAll
def yW:= @List.getElem?_set_self
def nM:= @Nat.le_of_lt
def yX:= @PySem.F.slot_zip_next
def pV:= @PySem.isSubtype_type
def yY:= @PySem.builtinLookup_eq_fast
def yZ:= @List.mem_append_left
def kQ:= @PySem.call_meets
def u9:= @PySem.Heap.size_update
def uA:= @List.cons_append
def pW:= @Bool.true_xor
def pX:= @Int.le_of_dvd
def hX:= @if_true
def zC:= @PySem.Heap.get?_update_ne
def zD:= @List.map_congr_left
def aJ4:= @Decidable.byContradiction
def pY:= @Nat.ne_of_gt
def pZ:= @PySem.codeAny_mono
def zE:= @PySem.W.callWith_K
def aJ5:= @PySem.F.args_tuple_add_2
def aJ6:= @PySem.AutoSeq1.wpAny_loadPart'
def aJ7:= @PySem.F.args_tuple_mul_2
def zF:= @List.contains_cons
def b85:= @set_cons_zero
def b86:= @set_cons_succ
def aJ8:= @List.mem_of_mem_eraseIdx
def qA:= @Nat.sub_self
def qB:= @Int.le_trans
def zG:= @Int.natCast_nonneg
def nN:= @PySem.wpAny_Name
def nO:= @PySem.wpAny_rule
def nP:= @PySem.wpAny_call
def uB:= @PySem.wpAny_setField
def aJ9:= @PySem.F.entry_tuple_add
def aK0:= @PySem.F.entry_tuple_mul
def aK1:= @Nat.le_mul_of_pos_right
def zH:= @Int.natAbs_add_le
def zI:= @of_decide_eq_true
def aK2:= @PySem.wpAny_pyIter_rangeiter
def aK3:= @PySem.W.cellsFrom_some
def aK4:= @PySem.F.slot_tuple_add
def aK5:= @PySem.Heap.get?_update_other
def aK6:= @PySem.F.slot_tuple_mul
def zJ:= @List.length_take
def zK:= @List.length_drop
def aK7:= @List.length_singleton
def aK8:= @PySem.Obj.isFreed_of_fields
def aK9:= @Nat.le_of_ble_eq_true
def zL:= @Bool.eq_iff_iff
def zM:= @List.nodup_cons
def zN:= @List.of_mem_zip
def aL0:= @List.mem_of_getElem?
def aL1:= @PySem.Calls.evalArgs_plain
def zO:= @List.forIn_cons
def aL2:= @PySem.wpAny_updateSeq_pair
def zP:= @PySem.typeLookup_type
def aL3:= @PySem.codeAny_call_builtin
def aL4:= @Nat.mul_le_mul_right
def aL5:= @Nat.pow_lt_pow_right
def uD:= @Int.mul_comm
def zQ:= @Nat.not_lt_zero
def zR:= @Bool.or_eq_true
def aL6:= @List.forall_mem_cons
def aL7:= @Array.length_toList
def aL8:= @PySem.W.looks_clsIn
def zS:= @Int.mul_le_mul
def uE:= @Int.mul_one
def uF:= @Nat.le_succ
def uG:= @Nat.one_mul
def uH:= @Int.mul_pos
def aL9:= @PyProof.Rows.assignInOrder_cons
def qC:= @PyProof.Rows.IsTup.new
def aM0:= @List.mem_filterMap
def aM1:= @List.zip_cons_cons
def aM2:= @PySem.Code.quiet_builtin
def aM3:= @Nat.add_sub_cancel
def zT:= @PySem.wpAny_onRaise
def zU:= @Nat.add_assoc
def zV:= @Int.zero_emod
def aM4:= @List.getElem?_set
def aM5:= @PySem.wpAny_pyIter_list
def aM6:= @Bool.not_eq_true'
def aM7:= @Nat.le_succ_of_le
def aM8:= @Int.natAbs_sub_le
def aM9:= @Int.gcd_dvd_right
def uI:= @PySem.typeIs_int
def aN0:= @PySem.noFill_tuple_add
def qD:= @if_false
def zW:= @PySem.wpAny_typeOf
def zX:= @PySem.seqIndex_neg
def aN1:= @PySem.AutoSeq1.idx_int
def aN2:= @beq_self_eq_true
def zY:= @Bool.or_true
def zZ:= @Int.add_zero
def a00:= @Nat.pow_succ
def a01:= @Int.zero_mul
def aN3:= @PySem.pushCells_keeps
def aN4:= @Int.natCast_mul
def aN5:= @List.sum_append
def a02:= @PySem.seqIndex_of
open PySem PySem.Spec PyProof.Rows
section
variable {us its bmB:List Value}{a b it f t C dx R sl l l1 l2 fI:Addr}{P q:Program}{w:World}{h g base h':Heap}{o oe:Obj}{t' i j k n tk k' last kt:Nat}{ch fp:List Addr}{x y qual r f1 f2:Str}{e c tg iter ix elt:Expr}{N loose XN ks:List Str}{A:Around}{E Q:Value->Shared->Prop}{u v vl vu fl:Value}{s' s:Shared}{pos pos' py tpos p cpos p2 spos tp np:Pos}{pins:List (Addr×Obj)}{op:CmpOp}{K:PySem.W.Frag}{st:Stmt}{es ifs elts:List Expr}{body sts:List Stmt}{vs items xs:Array Value}{lo:Int}{hi:Option Int}{kw:List (Str×Value)}{mg:Str->Option Value}{fd:FuncData}{outer:List Env}{scope:Scope}{YP:World->Heap->Prop}{od:Option Addr}{φ:Φ}{T T1 T2:Bool}{cl:List (Str×Addr)}{cap:List (Option Nat)}{em:Value->Env->Sem Unit}{js:List Nat}{esc:List (Str×NameKind)}{newId initId:String}
namespace L2
abbrev Key:=Sum Int Str
nonrec def dM5:Key->Value->Bool
 | .inl k,v=>Value.isInt k v
 | .inr x,v=>Value.isStrOf x v
nonrec def keyH (w:World):Key->Int
 | .inl k=>hashInt k
 | .inr x=>hashStr w x
theorem iI: ∀{k:Key} {v:Value},dM5 k v=true->(∃i t,k=Sum.inl i/\v=Value.int i t)\/(∃x t,k=Sum.inr x/\v=Value.str x t)
 | .inl i,v,h=>by
  obtain⟨t,e⟩:=Value.isInt_shape (k:=i) (v:=v) h;exact .inl ⟨i,t,rfl,e⟩
 | .inr x,v,h=>by
  obtain⟨t,e⟩:=Value.isStrOf_shape (x:=x) (v:=v) h;exact .inr ⟨x,t,rfl,e⟩
theorem key_ll (a b:Int):decide ((Sum.inl a:Key)=Sum.inl b)=(a==b):=by
 by_cases e:a=b
 .subst e;simp
 .have h: ¬(Sum.inl a:Key)=Sum.inl b:=λq=>e (Sum.inl.inj q)
  rw[fM h];exact(pK.mpr e).symm
theorem key_rr (a b:Str):decide ((Sum.inr a:Key)=Sum.inr b)=decide (a=b):=by
 by_cases e:a=b
 .subst e;simp
 .have h: ¬(Sum.inr a:Key)=Sum.inr b:=λq=>e (Sum.inr.inj q)
  rw[fM h,fM e]
theorem key_lr (a:Int)(b:Str):decide ((Sum.inl a:Key)=Sum.inr b)=false:=fM (λq=>nomatch q)
theorem key_rl (a:Str)(b:Int):decide ((Sum.inr a:Key)=Sum.inl b)=false:=fM (λq=>nomatch q)
nonrec def cJ0 (prog:Program)(w:World):PySem.KeyKind prog w Key where
 is:=dM5
 hash:=keyH w
 inj:=λv a b ha hb=>by
  rcases iI ha with⟨i,t,rfl,rfl⟩| ⟨x,t,rfl,rfl⟩
  .rcases iI hb with⟨j,u,rfl,e⟩| ⟨y,u,rfl,e⟩
   .injection e with e1 _;rw[e1]
   .exact nomatch e
  .rcases iI hb with⟨j,u,rfl,e⟩| ⟨y,u,rfl,e⟩
   .exact nomatch e
   .injection e with e1 _;rw[e1]
 byValue:=λk v h=>by
  rcases iI h with⟨i,t,rfl,rfl⟩| ⟨x,t,rfl,rfl⟩<;>rfl
 pyHash:=λhv h=>by
  rcases iI hv with⟨i,t,rfl,rfl⟩| ⟨x,t,rfl,rfl⟩
  .exact wpAny_pyHash_int h
  .exact wpAny_pyHash_str h
 eqBool:=λhu hv h=>by
  rcases iI hu with⟨i,t,rfl,rfl⟩| ⟨x,t,rfl,rfl⟩
  .rcases iI hv with⟨j,u,rfl,rfl⟩| ⟨y,u,rfl,rfl⟩
   .rw[key_ll]at h;exact wpAny_eqBool_int h
   .rw[key_lr]at h;exact SeqAt.EqAt.int_str i t y u _ _ _ _ h
  .rcases iI hv with⟨j,u,rfl,rfl⟩| ⟨y,u,rfl,rfl⟩
   .rw[key_rl]at h;exact SeqAt.EqAt.str_int x t j u _ _ _ _ h
   .rw[key_rr]at h;exact wpAny_eqBool_str h
 «strs» :=λk x t v h=>by
  rcases iI h with⟨i,u,rfl,e⟩| ⟨y,u,rfl,e⟩
  .exact nomatch e
  .injection e with e1 _
   subst e1;cases v<;>rfl
end L2
open L2
namespace L2
inductive V where
 | non|bl (b:Bool)|int (i:Int)|str (x:Str)|byt (b:Array UInt8)|flt (b:UInt64)|ref (a:Addr)|ty (n:String)
 deriving DecidableEq
def RelV:V->Value->Prop
 | .non,u=>u=Value.none
 | .bl b,u=>u=Value.bool b
 | .int i,u=> ∃t,u=Value.int i t
 | .str x,u=> ∃t,u=Value.str x t
 | .byt b,u=> ∃t,u=Value.bytes b t
 | .flt b,u=> ∃t,u=Value.float b t
 | .ref a,u=>u=Value.ref a
 | .ty n,u=>u=Value.type n
abbrev Vals:List V->List Value->Prop:=Paired RelV
theorem Vals.length {xs:List V}(r:Vals xs us):xs.length=us.length:=Paired.length r
theorem Vals.get: ∀{xs:List V} {us:List Value} {i:Nat} {x:V},Vals xs us->xs[i]? =some x-> ∃u,us[i]? =some u/\RelV x u
 | _,_,_,_,.nil,e=>by simp at e
 | _,_,0,_,.cons r _,e=>by simp at e;subst e;exact⟨_,rfl,r⟩
 | _,_,i+1,x,.cons _ t,e=>by
  obtain⟨u,h1,h2⟩:=Vals.get (i:=i) (x:=x) t (by exists e)
  exact⟨u,by simpa using h1,h2⟩
theorem Vals.set {x:V}{u:Value}(r:RelV x u): ∀{xs:List V} {us:List Value} (i:Nat),Vals xs us->Vals (xs.set i x) (us.set i u)
 | _,_,_,.nil=> .nil
 | _,_,0,.cons _ t=> .cons r t
 | _,_,i+1,.cons q t=> .cons q (Vals.set r i t)
theorem Vals.append: ∀{xs ys:List V} {us ws:List Value},Vals xs us->Vals ys ws->Vals (xs++ys) (us++ws)
 | _,_,_,_,.nil,s=>s
 | _,_,_,_,.cons r t,s=> .cons r (Vals.append t s)
theorem Vals.take: ∀{xs:List V} {us:List Value} (n:Nat),Vals xs us->Vals (xs.take n) (us.take n)
 | _,_,0,_=> .nil
 | _,_,_+1,.nil=> .nil
 | _,_,n+1,.cons r t=> .cons r (Vals.take n t)
theorem Vals.drop: ∀{xs:List V} {us:List Value} (n:Nat),Vals xs us->Vals (xs.drop n) (us.drop n)
 | _,_,0,r=>r
 | _,_,_+1,.nil=> .nil
 | _,_,n+1,.cons _ t=>Vals.drop n t
def cB6:Option V->Option Value->Prop
 | some v,some u=>RelV v u
 | none,none=>True
 | _,_=>False
def KV {κ:Type}:List (κ×V)->List (κ×Value)->Prop:=Paired fun(p:κ×V) (q:κ×Value)=>p.1=q.1/\RelV p.2 q.2
nonrec def kV:Key->V
 | .inl i=> .int i
 | .inr x=> .str x
inductive HO where
 | lst (xs:List V)
 | tup (xs:List V)
 | dK (kvs:List (Key×V))|dT (kvs:List (List Key×V))
 | set (S:Int->Bool) (n:Nat)
 | ins (C dx:Addr) (fs:List (Str×V))
 | own (x:Addr)
 | xd (fs:List (Str×V))
 | met (f x:Addr)
 | rng (lo hi:Int)
 | frz (o:Obj) (u:HO)
 | tbl (ps:Array Value)
 | ext (φ:Heap->Prop)
abbrev Hp:=Addr->Option HO
nonrec def upd (H:Hp)(a:Addr)(o:HO):Hp:=λb=>if b=a then some o else H b
theorem iJ {H:Hp}{o:HO}:upd H a o a=some o:=by unfold upd;rw[aA rfl]
theorem cD {H:Hp}{o:HO}(h:b≠a):upd H a o b=H b:=by unfold upd;rw[a8 h]
theorem cQ {H:Hp}{o:HO}(h:H a=some o)(h':H b=none):a≠b:=by
 intro e;subst e;rw[h]at h';cases h'
section
variable (P:Program)(w:World)
nonrec def rL (H:Hp)(h:Heap)(a:Addr):HO->Prop
 | .lst xs=>xs.length<=sizeLine/\ ∃(its:List Value) (n:Nat),Vals xs its/\h.get? a=some {cls:= .type "list",data:= .seq its.toArray n}
 | .tup xs=>xs.length<=sizeLine/\ ∃its:List Value,Vals xs its/\IsTup h a its.toArray
 | .dK kvs=>kvs.length<=sizeLine/\(a==sysModules)=false/\ ∃vs,KV kvs vs/\h.DictOf (cJ0 P w) a vs
 | .dT kvs=>kvs.length<=sizeLine/\(a==sysModules)=false/\ ∃xs:List (List Key×Addr×Value),
   Paired (fun(p:List Key×V) (q:List Key×Addr×Value)=>p.1=q.1/\H q.2.1=some (.tup<|p.1.map kV)/\RelV p.2 q.2.2) kvs xs/\
   ∃o es ep,h.get? a=some o/\o.ExactDict/\o.data= .dict es ep/\es.toList=xs.map (entryOfKey<|tupleKind<|cJ0 P w)/\(xs.map (·.1)).Nodup
 | .set S n=>h.SetOf (intKind P w) a S n
 | .ins C dx fs=>H dx=some (.own a)/\fs.length<=1000/\dx≠a/\h.get? a=some (instObj C dx)/\
   ∃mA,h.Ns1 dx mA/\(∀f,cB6 (fs.lookup f)<|mA f)/\PySem.Within mA (fs.map (·.1))
 | .own _=> ∃o,h.get? a=some o
 | .xd fs=> ∃mA,h.Ns1 a mA/\ ∀f,cB6 (fs.lookup f) (mA f)
 | .rng lo hi=> ∃t u v,h.get? a=some {cls:= .type "range",data:= .fields #[.int lo t,.int hi u,.int 1 v]}
 | .frz o u=>h.get? a=some o/\rL H h a u
 | .tbl ps=>h.get? a=some {cls:= .none,data:= .fields ps}
 | .met f x=>h.get? a=some (methodObj (.ref f)<|.ref x)
 | .ext φ=>φ h/\(∃o,h.get? a=some o)/\ ∀h1 h2:Heap,φ h1->(∀o,h1.get? a=some o->h2.get? a=some o)->φ h2
def HOk (H:Hp)(h:Heap):Prop:= ∀a o,H a=some o->rL P w H h a o
end
section
variable {P:Program}{w:World}{H H':Hp}{h h':Heap}{a:Addr}{o:HO}
theorem rL.lt (x:rL P w H h a o):a<h.objs.size:=by
 cases o with
 | lst xs=>obtain⟨_,_,_,_,e⟩:=x;exact aV e
 | tup xs=>obtain⟨_,_,_,p⟩:=x;exact p.lt
 | dK kvs=>obtain⟨_,_,_,_,o,_,_,e,_⟩:=x;exact aV e
 | dT kvs=>obtain⟨_,_,_,_,o,_,_,e,_⟩:=x;exact aV e
 | set S n=>obtain⟨o,_,_,_,e,_⟩:=x;exact aV e
 | ins C dx fs=>obtain⟨_,_,_,e,_⟩:=x;exact aV e
 | own y=>obtain⟨_,e⟩:=x;exact aV e
 | xd fs=>obtain⟨_,⟨_,_,_,e,_⟩,_⟩:=x;exact aV e
 | rng lo hi=>obtain⟨_,_,_,e⟩:=x;exact aV e
 | frz ob u=>obtain⟨e,_⟩:=x;exact aV e
 | tbl ps=>exact aV (show h.get? a=some _ from x)
 | met f y=>exact aV (show h.get? a=some _ from x)
 | ext φ=>obtain⟨_,⟨_,e⟩,_⟩:=x;exact aV e
theorem Paired.mapP {α β:Type}{F G:α->β->Prop}: ∀{l₁:List α} {l₂:List β},Paired F l₁ l₂->(∀a b,F a b->G a b)->Paired G l₁ l₂
 | _,_,.nil,_=> .nil
 | _,_,.cons r t,f=> .cons (f _ _ r) (Paired.mapP t f)
theorem rL.stay (x:rL P w H h a o)(k: ∀b u,(b=a\/H b=some (.own a))->h.get? b=some u->h'.get? b=some u)
  (ho: ∀b,H b=some (.own a)->H' b=some (.own a)) (ht: ∀b xs,H b=some (.tup xs)->H' b=some (.tup xs)):rL P w H' h' a o:=by
 induction o with
 | lst xs=>obtain⟨z,its,n,r,e⟩:=x;exact⟨z,its,n,r,k _ _ (.inl rfl) e⟩
 | tup xs=>obtain⟨z,its,r,ob,e,c⟩:=x;exact⟨z,its,r,ob,k _ _ (.inl rfl) e,c⟩
 | dK kvs=>obtain⟨z,y,vs,r,ob,es,ep,e,c⟩:=x;exact⟨z,y,vs,r,ob,es,ep,k _ _ (.inl rfl) e,c⟩
 | dT kvs=>
  obtain⟨z,y,xs,r,ob,es,ep,e,c⟩:=x;exact⟨z,y,xs,Paired.mapP r λp q z=>⟨z.1,ht _ _ z.2.1,z.2.2⟩,ob,es,ep,k _ _ (.inl rfl) e,c⟩
 | set S n=>obtain⟨ob,es,ep,t,e,c⟩:=x;exact⟨ob,es,ep,t,k _ _ (.inl rfl) e,c⟩
 | ins C dx fs=>
  obtain⟨d,z,ne,e,mA,⟨od,es,ep,e2,c⟩,r⟩:=x;exact⟨ho _ d,z,ne,k _ _ (.inl rfl) e,mA,⟨od,es,ep,k _ _ (.inr d) e2,c⟩,r⟩
 | own y=>obtain⟨ob,e⟩:=x;exact⟨ob,k _ _ (.inl rfl) e⟩
 | xd fs=>obtain⟨mA,⟨od,es,ep,e,c⟩,r⟩:=x;exact⟨mA,⟨od,es,ep,k _ _ (.inl rfl) e,c⟩,r⟩
 | rng lo hi=>obtain⟨t,u,v,e⟩:=x;exact⟨t,u,v,k _ _ (.inl rfl) e⟩
 | frz ob u ih=>obtain⟨e,q⟩:=x;exact⟨k _ _ (.inl rfl) e,ih q⟩
 | tbl ps=>
  have e:h.get? a=some {cls:= .none,data:= .fields ps}:=x;show h'.get? a=some {cls:= .none,data:= .fields ps};exact k a _ (.inl rfl) e
 | met f y=>
  have e:h.get? a=some (methodObj (.ref f)<|.ref y):=x;show h'.get? a=some (methodObj (.ref f)<|.ref y);exact k a _ (.inl rfl) e
 | ext φ=>obtain⟨p,⟨o,e⟩,st⟩:=x;exact⟨st _ _ p λo q=>k _ _ (.inl rfl) q,⟨o,k _ _ (.inl rfl) e⟩,st⟩
theorem HOk.lt (x:HOk P w H h)(e:H a=some o):a<h.objs.size:=(x a o e).lt
theorem HOk.fresh (x:HOk P w H h)(e:h.objs.size<=a):H a=none:=by
 cases q:H a with
 | none=>rfl
 | some u=>exact absurd (b9 (x.lt q) e) (dF _)
theorem HOk.kept (x:HOk P w H h)(k: ∀b u,h.get? b=some u->h'.get? b=some u):HOk P w H h':=λa o e=>
 (x a o e).stay (λb u _ q=>k b u q) (λ_ q=>q) λ_ _ q=>q
theorem HOk.laid (x:HOk P w H h)(k: ∀b u,h.get? b=some u->h'.get? b=some u)(hp:h.objs.size<=a)(new:rL P w (upd H a o) h' a o):HOk P w (upd H a o) h':=λb u e=>by
 have hn:=x.fresh hp
 by_cases hb:b=a
 .subst hb;rw[iJ]at e;cases e;exact new
 .rw[cD hb]at e;exact(x b u e).stay (λc v _ q=>k c v q) (λc q=>by rw[cD<|cQ q hn];exact q) λc xs q=>by rw[cD<|cQ q hn];exact q
end
def Rd (H:Hp)(a:Addr)(u:HO):Prop:=H a=some u\/ ∃o,H a=some (.frz o u)
theorem Rd.ok {H:Hp}{u:HO}(r:Rd H a u)(x:HOk P w H h):rL P w H h a u:=by
 rcases r with r| ⟨o,r⟩
 .exact x a u r
 .obtain⟨_,q⟩:=x a _ r;exact q
def Mut:Option HO->Prop
 | some (.lst _)=>True
 | some (.dK _)=>True
 | some (.dT _)=>True
 | some (.set _ _)=>True
 | some (.ins _ _ _)=>True
 | some (.ext _)=>True
 | _=>False
section
variable {P:Program}{w:World}{H:Hp}{h h':Heap}{x e:Addr}{o':HO}
theorem HOk.write (ok:HOk P w H h)(mu:Mut (H x))(he:e=x\/H e=some (.own x))(k: ∀b u,b≠e->h.get? b=some u->h'.get? b=some u)(heo: ∃u,h'.get? e=some u)
  (new:rL P w (upd H x o') h' x o'):HOk P w (upd H x o') h':=λb u q=>by
 have nown: ∀c y,H c=some (.own y)->c≠x:=λc y r z=>by subst z;rw[r]at mu;exact mu
 have ntup: ∀c xs,H c=some (.tup xs)->c≠x:=λc xs r z=>by subst z;rw[r]at mu;exact mu
 by_cases hb:b=x
 .subst hb;rw[iJ]at q;cases q;exact new
 .rw[cD hb]at q
  by_cases hbe:b=e
  .have q':H b=some (.own x):=by
    rcases he with z|z
    .exact absurd (hbe.trans z) hb
    .rw[hbe];exact z
   rw[q]at q';cases q';obtain⟨v,hv⟩:=heo;exact⟨v,by rw[hbe];exact hv⟩
  .refine(ok b u q).stay (λc v hc r=>k c v ?_ r) (λc r=>by rw[cD<|nown c b r];exact r) λc xs r=>by rw[cD<|ntup c xs r];exact r
   rcases hc with rfl|hc
   .exact hbe
   .rintro rfl;rcases he with z|z
    .exact nown c b hc z
    .rw[hc]at z;cases z;exact hb rfl
end
structure Un (fs ex:List Addr)(H H':Hp)(h h':Heap):Prop where
 keep: ∀b o,h.get? b=some o->H b=none->b ∉ fs->b ∉ ex->h'.get? b=some o
 slot: ∀b o,h.get? b=some o->H b=none->b∈fs->b ∉ ex-> ∃sl,h'.get? b=some {o with slots:=sl}
 free: ∀b o,h.get? b=some o->H b=none->b ∉ ex->H' b=none
 there: ∀b o,h.get? b=some o->b ∉ ex-> ∃o',h'.get? b=some o'
 tups: ∀b xs,H b=some (.tup xs)->H' b=some (.tup xs)
 frzs: ∀b o u,H b=some (.frz o u)->H' b=some (.frz o u)
 tbls: ∀b ps,H b=some (.tbl ps)-> ∃more,H' b=some (.tbl<|ps++more)
section
variable {fs fs' ex ex':List Addr}{H H1 H2:Hp}{h h1 h2 h':Heap}{a x e:Addr}{o:HO}
theorem Un.any (u:Un fs ex H H1 h h1){ob:Obj}(q:h.get? b=some ob)(n:H b=none)(hx:b ∉ ex): ∃sl,h1.get? b=some {ob with slots:=sl}:=by
 by_cases hb:b∈fs
 .exact u.slot b ob q n hb hx
 .exact⟨ob.slots,u.keep b ob q n hb hx⟩
theorem Un.kept (k: ∀b u,h.get? b=some u->h'.get? b=some u):Un fs ex H H h h':=
 ⟨λb ob q _ _ _=>k b ob q,λb ob q _ _ _=>⟨ob.slots,k b ob q⟩,λ_ _ _ n _=>n,λb ob q _=>⟨ob,k b ob q⟩,λ_ _ q=>q,λ_ _ _ q=>q,λ_ ps q=>⟨#[],by rw[q];simp⟩⟩
theorem Un.refl:Un fs ex H H h h:=Un.kept λ_ _ q=>q
theorem Un.laid (k: ∀b u,h.get? b=some u->h'.get? b=some u)(hp:h.objs.size<=a)(hn:H a=none):Un fs ex H (upd H a o) h h' where
 keep:=λb u q _ _ _=>k b u q
 slot:=λb u q _ _ _=>⟨u.slots,k b u q⟩
 free:=λb u q n _=>by rw[cD<|bI<|b9 (aV q) hp];exact n
 there:=λb u q _=>⟨u,k b u q⟩
 tups:=λb xs q=>by rw[cD<|cQ q hn];exact q
 frzs:=λb u xs q=>by rw[cD<|cQ q hn];exact q
 tbls:=λb ps q=>⟨#[],by rw[cD<|cQ q hn,q];simp⟩
theorem Un.write (mu:Mut (H x))(he:e=x\/H e=some (.own x))(k: ∀b u,b≠e->h.get? b=some u->h'.get? b=some u)(heo: ∃u,h'.get? e=some u):Un fs ex H (upd H x o) h h':=by
 have hx: ∀b,H b=none->b≠x:=λb n z=>by subst z;rw[n]at mu;exact mu
 have hb: ∀b,H b=none->b≠e:=λb n z=>by
  subst z;rcases he with r|r
  .exact hx b n r
  .rw[n]at r;cases r
 have hm: ∀b u,H b=some u-> ¬Mut (some u)->b≠x:=λb u q nm z=>by subst z;rw[q]at mu;exact nm mu
 refine⟨λb u q n _ _=>k b u (hb b n) q,λb u q n _ _=>⟨u.slots,k b u (hb b n) q⟩,λb u q n _=>by rw[cD<|hx b n];exact n,λb u q _=> ?_,
  λb xs q=>by rw[cD<|hm b _ q λz=>z];exact q,λb u xs q=>by rw[cD<|hm b _ q λz=>z];exact q,λb ps q=>⟨#[],by rw[cD<|hm b _ q λz=>z,q];simp⟩⟩
 by_cases hbe:b=e
 .subst hbe;exact heo
 .exact⟨u,k b u hbe q⟩
end
nonrec def trk (h:Heap)(H:Hp):List Addr:=(List.range h.objs.size).filter λa=>(H a).isSome
nonrec def bS7 (h:Heap)(H:Hp):Heap:=PySem.W.hideAll h (trk h H)
theorem cO5 (h:Heap)(H:Hp):(bS7 h H).objs.size=h.objs.size:=PySem.W.hideAll_size _ _
theorem cV2 {H:Hp}(e:h.get? b=some o)(n:H b=none):(bS7 h H).get? b=some o:=
 PySem.W.hideAll_get _ e λhm=>by
  have q:(H b).isSome=true:=(List.mem_filter.mp hm).2;rw[n]at q;simp at q
theorem dA8 {H:Hp}(e:(bS7 h H).get? b=some o):h.get? b=some o/\H b=none:=by
 have e':h.get? b=some o:=u8 (trk h H) e;refine⟨e',?_⟩;cases q:H b with
 | none=>rfl
 | some x=>
  have hm:b∈trk h H:=List.mem_filter.mpr ⟨dX.mpr<|aV e',by simp[q]⟩
  have z:(bS7 h H).get? b=none:=PySem.W.hideAll_none (trk h H) hm;rw[z]at e;cases e
nonrec def dA9 (g h:Heap)(L:Addr):List (Addr×Obj):=(List.range h.objs.size).filterMap λa=>if a=L\/(g.get? a).isSome=true then none else(h.get? a).map λo=>(a,o)
nonrec def fS (g h:Heap)(L d:Addr):List (Addr×Obj):=(dA9 g h L).filter λp=>decide (p.1≠d)
structure Mod (K:PySem.W.Frag)(mg:Str->Option Value)(base:Heap):Prop where
 kin:K.In base
 glob:base.Ns mainGlobals mg
 blt: ∃mb,base.Ns builtinsNs mb/\ ∀x:Str,x≠"__name__"->mb x=bootBuiltins x
 nolimit:base.NoLimit
structure Cx where
 prog:Program
 w:World
 K:PySem.W.Frag
 mg:Str->Option Value
 base:Heap
 A:Around
 N:List Str
 s₀:Shared
 H₀:Hp
 env:Env
 outer:List Env
 stack:List Env
 ex:List Addr
 fn:Str->Bool
 calm:Bool
 pn:List (Addr×Obj)
 xe:Value->Shared->Prop
nonrec def frs (l:List Env):List Addr:=l.filterMap (·.frame)
noncomputable abbrev Cx.fs (X:Cx):List Addr:=frs X.outer
def Vis (sc:Scope)(x:Str):Prop:=sc.names.lookup x=some .local\/sc.names.lookup x=some .cell\/sc.names.lookup x=some .free
def Loc (sc:Scope)(x:Str):Prop:=sc.names.lookup x=some .local\/sc.names.lookup x=some .cell
def Look (env:Env)(h:Heap)(m:Str->Option Value)(x:Str)(u:Value):Prop:=
 (env.kindOf x=some .local/\m x=some u)\/((env.kindOf x=some .cell\/env.kindOf x=some .free)/\ ∃c,env.cells.lookup x=some c/\h.IsCell c (some u))
structure Cx.Ok (X:Cx):Prop where
 mod:Mod X.K X.mg X.base
 kind:X.env.scope.kind= .function
 glob:X.env.globals=mainGlobals
 blt:X.env.builtins=builtinsNs
 above:X.s₀.heap.objs.size<=X.env.locals
 inj: ∀x y c,X.env.cells.lookup x=some c->X.env.cells.lookup y=some c->x=y
 has: ∀x,(X.env.kindOf x=some .cell\/X.env.kindOf x=some .free)-> ∃c,X.env.cells.lookup x=some c
 cab: ∀x c,X.fn x=true->X.env.cells.lookup x=some c->X.s₀.heap.objs.size<=c
 hd:X.calm=true->X.A.handled=none
 frames:X.A.frames=some X.stack
 stk:X.stack=X.outer\/(X.stack=X.env::X.outer/\X.env.frame=some X.env.locals)
 exf: ∀b∈X.ex,b≠X.env.locals/\ ∀x c,X.env.cells.lookup x=some c->c≠b
 bs: ∀b o,X.base.get? b=some o->X.s₀.heap.get? b=some o/\X.H₀ b=none
 bsz:X.base.objs.size<=X.s₀.heap.objs.size
 noex: ∀b o,X.base.get? b=some o->b ∉ X.ex
 exfs: ∀b∈X.ex,b ∉ X.fs
 funs:X.s₀.heap.FunFrames X.base X.outer
 frf: ∀b∈X.fs,X.H₀ b=none
structure Inv (X:Cx)(pins:List (Addr×Obj))(σ:List (Option V))(H:Hp)(s:Shared):Prop where
 ok:X.Ok
 os:s.os=X.s₀.os
 bare:AllBare s.gens
 base:Un X.fs X.ex X.H₀ H X.s₀.heap s.heap
 loc: ∃m,s.heap.Ns X.env.locals m/\ ∀(i:Nat) (x:Str) (v:V),X.N[i]? =some x->σ[i]? =some (some v)->Vis X.env.scope x-> ∃u,RelV v u/\Look X.env s.heap m x u
 cell: ∀x c,X.env.cells.lookup x=some c-> ∃v,s.heap.IsCell c v
 free:H X.env.locals=none
 freeC: ∀x c,X.env.cells.lookup x=some c->H c=none
 pin: ∀p∈X.pn++pins,s.heap.get? p.1=some p.2/\H p.1=none/\p.1≠X.env.locals/\p.1 ∉ X.fs/\ ∀v,p.2.data≠ .cell v
 hok:HOk X.prog X.w H s.heap
 len:σ.length=X.N.length
section
variable {X:Cx}{pins:List (Addr×Obj)}{σ:List (Option V)}{H H':Hp}{s:Shared}{h':Heap}
theorem Cx.Ok.nofr (ok:X.Ok)(e:X.base.get? b=some o):b ∉ X.fs:=λhb=>by
 have:=(ok.funs.mem hb).1;rw[e]at this;cases this
theorem Inv.bs (I:Inv X pins σ H s): ∀b o,X.base.get? b=some o->s.heap.get? b=some o/\H b=none:=λb o e=>
 ⟨I.base.keep b o (I.ok.bs b o e).1 (I.ok.bs b o e).2 (I.ok.nofr e)<|I.ok.noex b o e,I.base.free b o (I.ok.bs b o e).1 (I.ok.bs b o e).2<|I.ok.noex b o e⟩
theorem Inv.bk (I:Inv X pins σ H s): ∀b o,X.base.get? b=some o->s.heap.get? b=some o:=λb o e=>(I.bs b o e).1
theorem Inv.mod (I:Inv X pins σ H s):Mod X.K X.mg X.base:=I.ok.mod
theorem Inv.kIn (I:Inv X pins σ H s):X.K.In s.heap:=I.ok.mod.kin.keeps I.bk
theorem Inv.nolimit (I:Inv X pins σ H s):s.heap.NoLimit:=I.ok.mod.nolimit.keeps I.bk
theorem Inv.lt (I:Inv X pins σ H s):X.env.locals<s.heap.objs.size:=let ⟨_,hn,_⟩:=I.loc;hn.lt
theorem Inv.sz (I:Inv X pins σ H s):X.s₀.heap.objs.size<=s.heap.objs.size:=aK I.ok.above (nM I.lt)
theorem Inv.nofs (I:Inv X pins σ H s)(h:s.heap.objs.size<=a):a ∉ X.fs:=λhb=>by
 obtain⟨_,o,ho,_⟩:=I.ok.funs.mem hb;exact absurd (b9 (aV ho)<|aK I.sz h) (dF _)
theorem Inv.cne (I:Inv X pins σ H s): ∀x c,X.env.cells.lookup x=some c->c≠X.env.locals:=λx c e z=>by
 obtain⟨v,o,ho,hd⟩:=I.cell x c e;obtain⟨m,⟨o',es,ep,ho',hd',_⟩,_⟩:=I.loc;rw[z,ho']at ho;cases ho;rw[hd']at hd;cases hd
theorem Inv.funs (I:Inv X pins σ H s):s.heap.FunFrames X.base X.outer:=by
 have all: ∀(l:List Env),(∀b∈frs l,b∈X.fs)->X.s₀.heap.FunFrames X.base l->s.heap.FunFrames X.base l:=by
  intro l
  induction l with
  | nil=>intro _ _;trivial
  | cons env r ih=>
   intro hs hl;obtain⟨hk,⟨L,o,hf,hn,ho,hd⟩,hr⟩:=hl;have hL:L∈X.fs:=hs L (by unfold frs;rw[iQ,hf];exact hJ)
   obtain⟨sl,e⟩:=I.base.slot L o ho (I.ok.frf L hL) hL λz=>I.ok.exfs L z hL
   exact⟨hk,⟨L,_,hf,hn,e,hd⟩,ih (λb hb=>hs b (by unfold frs;rw[iQ,hf];exact eJ _ hb)) hr⟩
 exact all X.outer (λ_ hb=>hb) I.ok.funs
theorem Inv.stack (I:Inv X pins σ H s):s.heap.FunFrames X.base X.stack:=by
 rcases I.ok.stk with e| ⟨e,hf⟩
 .rw[e];exact I.funs
 .rw[e];obtain⟨m,hn,_⟩:=I.loc;refine .cons (by rw[I.ok.kind];decide) hf hn ?_ I.funs
  exact kJ (aK I.ok.bsz I.ok.above)
theorem Inv.stkSub (I:Inv X pins σ H s): ∀b∈frs X.stack,b∈X.env.locals::X.fs:=λb hb=>by
 rcases I.ok.stk with e| ⟨e,hf⟩
 .rw[e]at hb;exact eJ _ hb
 .rw[e]at hb;unfold frs at hb;rw[iQ,hf]at hb;exact hb
theorem Inv.stkFree (I:Inv X pins σ H s): ∀b∈frs X.stack,H b=none:=λb hb=>by
 rcases aZ.mp (I.stkSub b hb)with e|hb
 .rw[e];exact I.free
 .obtain⟨_,o,ho,_⟩:=I.ok.funs.mem hb;exact I.base.free b o ho (I.ok.frf b hb) λz=>I.ok.exfs b z hb
theorem Inv.step {g':Array GenState}{d':Drawn}(I:Inv X pins σ H s)
  (hch: ∀b∈ch,(b∈X.ex\/X.s₀.heap.objs.size<=b)/\b≠X.env.locals/\(∀x c,X.env.cells.lookup x=some c->c≠b)/\ ∀p∈X.pn++pins,p.1≠b)
  (keep: ∀b o,b≠X.env.locals->b ∉ X.fs->b ∉ ch->s.heap.get? b=some o->H b=none->h'.get? b=some o)
  (slot: ∀b o,b≠X.env.locals->b∈X.fs->b ∉ ch->s.heap.get? b=some o->H b=none-> ∃sl,h'.get? b=some {o with slots:=sl}) (free: ∀b o,b ∉ ch->s.heap.get? b=some o->H b=none->H' b=none)
  (there: ∀b o,b ∉ ch->s.heap.get? b=some o-> ∃o',h'.get? b=some o')
  (tups: ∀b xs,H b=some (.tup xs)->H' b=some (.tup xs)) (frzs: ∀b o u,H b=some (.frz o u)->H' b=some (.frz o u)) (tbls: ∀b ps,H b=some (.tbl ps)-> ∃more,H' b=some (.tbl<|ps++more))
  (ns: ∀m,s.heap.Ns X.env.locals m->h'.Ns X.env.locals m) (hok:HOk X.prog X.w H' h') (hg:AllBare g') :
  Inv X pins σ H' {s with heap:=h',gens:=g',drawn:=d',toks:=t'}:=by
 have neL: ∀b o,X.s₀.heap.get? b=some o->b≠X.env.locals:=λb o e=>bI (b9 (aV e) I.ok.above)
 have neC: ∀b o,X.s₀.heap.get? b=some o->b ∉ X.ex->b ∉ ch:=λb o e hx hb=>by
  rcases(hch b hb).1 with z|z
  .exact hx z
  .exact absurd (b9 (aV e) z) (dF _)
 have cellK: ∀x c,X.env.cells.lookup x=some c-> ∀v,s.heap.IsCell c v->h'.IsCell c v:=λx c e v ⟨o,ho,hd⟩=>by
  have nch:c ∉ ch:=λz=>(hch c z).2.2.1 x c e rfl
  by_cases hc:c∈X.fs
  .obtain⟨sl,q⟩:=slot c o (I.cne x c e) hc nch ho (I.freeC x c e);exact⟨_,q,hd⟩
  .exact⟨o,keep c o (I.cne x c e) hc nch ho<|I.freeC x c e,hd⟩
 refine⟨I.ok,I.os,hg,⟨λb o e n hb hx=> ?_,λb o e n hb hx=> ?_,λb o e n hx=> ?_,λb o e hx=> ?_,λb xs e=>tups b xs (I.base.tups b xs e),λb o xs e=>frzs b o xs (I.base.frzs b o xs e),λb ps e=> ?_⟩,?_,λx c e=> ?_,?_,λx c e=> ?_,λp hp=> ?_,hok,I.len⟩
 .exact keep b o (neL b o e) hb (neC b o e hx) (I.base.keep b o e n hb hx) (I.base.free b o e n hx)
 .obtain⟨sl,e1⟩:=I.base.slot b o e n hb hx;obtain⟨sl',e2⟩:=slot b _ (neL b o e) hb (neC b o e hx) e1 (I.base.free b o e n hx);exact⟨sl',e2⟩
 .obtain⟨o',e1⟩:=I.base.there b o e hx;exact free b o' (neC b o e hx) e1 (I.base.free b o e n hx)
 .obtain⟨o',e1⟩:=I.base.there b o e hx;exact there b o' (neC b o e hx) e1
 .obtain⟨m1,e1⟩:=I.base.tbls b ps e;obtain⟨m2,e2⟩:=tbls b _ e1;exact⟨m1++m2,by rw[e2,Array.append_assoc]⟩
 .obtain⟨m,hn,hl⟩:=I.loc;refine⟨m,ns m hn,λi x v e1 e2 e3=> ?_⟩
  obtain⟨u,r,l⟩:=hl i x v e1 e2 e3;refine⟨u,r,?_⟩;rcases l with l| ⟨k,c,e,z⟩
  .exact .inl l
  .exact .inr ⟨k,c,e,cellK x c e _ z⟩
 .obtain⟨v,z⟩:=I.cell x c e;exact⟨v,cellK x c e v z⟩
 .obtain⟨m,⟨o,_,_,ho,_⟩,_⟩:=I.loc;exact free _ o (λz=>(hch _ z).2.1 rfl) ho I.free
 .obtain⟨v,o,ho,hd⟩:=I.cell x c e;exact free c o (λz=>(hch c z).2.2.1 x c e rfl) ho (I.freeC x c e)
 .obtain⟨e,n,ne,nf,d⟩:=I.pin p hp;have nch:p.1 ∉ ch:=λz=>(hch p.1 z).2.2.2 p hp rfl
  exact⟨keep p.1 p.2 ne nf nch e n,free p.1 p.2 nch e n,ne,nf,d⟩
theorem Inv.un (I:Inv X pins σ H s)(u:Un X.fs [] H H' s.heap h')(hok:HOk X.prog X.w H' h'):Inv X pins σ H' {s with heap:=h',toks:=t'}:=by
 obtain⟨m,⟨o,es,ep,ho,r⟩,_⟩:=id I.loc;obtain⟨sl,hL⟩:=u.any ho I.free ae
 exact I.step (g':=s.gens) (d':=s.drawn) (ch:=[]) (λ_ z=>nomatch z) (λb o _ hb _ e n=>u.keep b o e n hb ae) (λb o _ hb _ e n=>u.slot b o e n hb ae) (λb o _ e n=>u.free b o e n ae) (λb o _ e=>u.there b o e ae) u.tups u.frzs u.tbls (λm' hm=>by
  obtain⟨o',es',ep',ho',r'⟩:=hm;rw[ho]at ho';cases ho';exact⟨_,es',ep',hL,r'⟩) hok I.bare
theorem Inv.call {g':Array GenState}{d':Drawn}(I:Inv X pins σ H s)(u:Un (frs X.stack) ch H H' s.heap h')(hok:HOk X.prog X.w H' h')(hg:AllBare g')
  (hch: ∀b∈ch,(b∈X.ex\/X.s₀.heap.objs.size<=b)/\b≠X.env.locals/\(∀x c,X.env.cells.lookup x=some c->c≠b)/\ ∀p∈X.pn++pins,p.1≠b) :
  Inv X pins σ H' {s with heap:=h',gens:=g',drawn:=d',toks:=t'}:=by
 obtain⟨m,⟨o,es,ep,ho,r⟩,_⟩:=id I.loc;obtain⟨sl,hL⟩:=u.any ho I.free λz=>(hch _ z).2.1 rfl
 exact I.step (ch:=ch) hch (λb o hL hb hc e n=>u.keep b o e n (λz=>(aZ.mp<|I.stkSub b z).elim hL hb) hc) (λb o _ _ hc e n=>u.any e n hc) (λb o hc e n=>u.free b o e n hc) (λb o hc e=>u.there b o e hc) u.tups u.frzs u.tbls (λm' hm=>by
  obtain⟨o',es',ep',ho',r'⟩:=hm;rw[ho]at ho';cases ho';exact⟨_,es',ep',hL,r'⟩) hok hg
theorem Inv.turned (I:Inv X pins σ H s)(k: ∀b o,b≠it->s.heap.get? b=some o->h'.get? b=some o)(hn:H it=none)(hL:it≠X.env.locals)
  (h1:it∈X.ex\/X.s₀.heap.objs.size<=it) (h2: ∀x c,X.env.cells.lookup x=some c->c≠it) (h3: ∀p∈X.pn++pins,p.1≠it):Inv X pins σ H {s with heap:=h',toks:=t'}:=by
 have nit: ∀b u,H b=some u->b≠it:=λb u e z=>by rw[z,hn]at e;cases e
 refine I.step (g':=s.gens) (d':=s.drawn) (ch:=[it]) (λb hb=> ?_) (λb o _ _ hc e _=>k b o (λz=>hc (by simp[z])) e) (λb o _ _ hc e _=>⟨o.slots,k b o (λz=>hc (by simp[z])) e⟩) (λ_ _ _ _ n=>n)
  (λb o hc e=>⟨o,k b o (λz=>hc (by simp[z])) e⟩) (λ_ _ e=>e) (λ_ _ _ e=>e) (λb ps e=>⟨#[],by rw[e];simp⟩) (λm hm=> ?_) (λb u e=> ?_) I.bare
 .have e:b=it:=by exists hb
  subst e;exact⟨h1,hL,h2,h3⟩
 .obtain⟨o,es,ep,ho,r⟩:=hm;exact⟨o,es,ep,k _ o (Ne.symm hL) ho,r⟩
 .refine(I.hok b u e).stay (λc v hc q=>k c v ?_ q) (λ_ q=>q) λ_ _ q=>q
  rcases hc with z|z
  .rw[z];exact nit b u e
  .exact nit c _ z
theorem Inv.tok (I:Inv X pins σ H s)(t:Nat):Inv X pins σ H {s with toks:=t}:=I.un (h':=s.heap) (t':=t) Un.refl I.hok
theorem Inv.kept (I:Inv X pins σ H s)(k: ∀b u,s.heap.get? b=some u->h'.get? b=some u):Inv X pins σ H {s with heap:=h',toks:=t'}:=I.un (Un.kept k) (I.hok.kept k)
theorem Inv.laid {o:HO}(I:Inv X pins σ H s)(k: ∀b u,s.heap.get? b=some u->h'.get? b=some u)(hp:s.heap.objs.size<=a)(new:rL X.prog X.w (upd H a o) h' a o) :
  Inv X pins σ (upd H a o) {s with heap:=h',toks:=t'}:=I.un (Un.laid k hp<|I.hok.fresh hp) (I.hok.laid k hp new)
theorem Inv.write {x e:Addr}{o:HO}(I:Inv X pins σ H s)(mu:Mut (H x))(he:e=x\/H e=some (.own x))(k: ∀b u,b≠e->s.heap.get? b=some u->h'.get? b=some u)(heo: ∃u,h'.get? e=some u)
  (new:rL X.prog X.w (upd H x o) h' x o):Inv X pins σ (upd H x o) {s with heap:=h',toks:=t'}:=I.un (Un.write mu he k heo) (I.hok.write mu he k heo new)
theorem Inv.pins_of {pins':List (Addr×Obj)}(I:Inv X pins σ H s)(h: ∀p∈pins',s.heap.get? p.1=some p.2/\H p.1=none/\p.1≠X.env.locals/\p.1 ∉ X.fs/\ ∀v,p.2.data≠ .cell v):Inv X pins' σ H s:=
 ⟨I.ok,I.os,I.bare,I.base,I.loc,I.cell,I.free,I.freeC,λp hp=>(d4.mp hp).elim (λz=>I.pin p (yZ _ z)) (h p),I.hok,I.len⟩
theorem b87 (hN:N.Nodup)(a:N[i]? =some x)(b:N[j]? =some x):i=j:=by
 obtain⟨h1,e1⟩:=jK.mp a;obtain⟨h2,e2⟩:=jK.mp b;exact(List.getElem_inj hN).mp (e1.trans e2.symm)
theorem cO6 {M:Model}{v:V}{Q:Unit->Shared->Prop}(I:Inv X pins σ H s)(hN:X.N.Nodup)(hi:X.N[i]? =some x)(hx:Loc X.env.scope x)(r:RelV v u)
  (h: ∀s',Inv X pins (σ.set i<|some v) H s'->(∃a,SameBut a s.heap s'.heap/\(a=X.env.locals\/X.env.cells.lookup x=some a))->Q () s') (hf:X.fn x=true\/X.env.scope.names.lookup x=some .local:=by walk_at "z"):wpAny M A (storeName X.env x u) Q E s:=by
 obtain⟨m,hn,hl⟩:=id I.loc;have hcls:(X.env.scope.kind== .class||(X.env.scope.kind== .module&&X.env.locals != X.env.globals))=false:=by rw[I.ok.kind];rfl
 have hiσ:i<σ.length:=by rw[I.len];exact(jK.mp hi).1
 have cne:=I.cne;have tracked: ∀{a:Addr} {h':Heap},(∃o,s.heap.get? a=some o/\H a=none)->SameBut a s.heap h'->HOk X.prog X.w H h':=λ{a h'} ha hs b ob e=>by
  obtain⟨_,_,hfree⟩:=ha;refine(I.hok b ob e).stay (λc w' hc q=>(hs.2 c ?_).trans q) (λ_ q=>q) λ_ _ q=>q
  rintro rfl;rcases hc with rfl|hc
  .rw[hfree]at e;cases e
  .rw[hfree]at hc;cases hc
 rcases hx with hk|hk
 .refine wpAny_storeName_local hk hn (λh' hn' hs=> ?_) hcls
  obtain⟨oL,_,_,hoL,_⟩:=id hn;refine h _ ⟨I.ok,I.os,I.bare,⟨λb o e n hb hx=> ?_,λb o e n hb hx=> ?_,I.base.free,λb o e hx=> ?_,I.base.tups,I.base.frzs,I.base.tbls⟩,⟨_,hn',λj y v' e1 e2 e3=> ?_⟩,λy c e=> ?_,I.free,I.freeC,λp hp=> ?_,tracked ⟨oL,hoL,I.free⟩ hs,by exists I.len⟩ ⟨_,hs,.inl rfl⟩
  .exact(hs.2 b<|bI<|b9 (aV e) I.ok.above).trans (I.base.keep b o e n hb hx)
  .obtain⟨sl,e1⟩:=I.base.slot b o e n hb hx;exact⟨sl,(hs.2 b<|bI<|b9 (aV e) I.ok.above).trans e1⟩
  .obtain⟨o',e1⟩:=I.base.there b o e hx;exact⟨o',(hs.2 b<|bI<|b9 (aV e) I.ok.above).trans e1⟩
  .by_cases hj:j=i
   .subst hj;rw[hi]at e1;cases e1;rw[yW hiσ]at e2;cases e2;exact⟨u,r,.inl ⟨hk,ae⟩⟩
   .rw[pI<|Ne.symm hj]at e2;obtain⟨u',r',q⟩:=hl j y v' e1 e2 e3;refine⟨u',r',?_⟩;rcases q with⟨k,e⟩| ⟨k,c,e,z⟩
    .refine .inl ⟨k,?_⟩
     have:y≠x:=λe=>hj (b87 hN e1<|e▸hi)
     simp[this,e]
    .exact .inr ⟨k,c,e,z.sameBut hs<|cne y c e⟩
  .obtain⟨w',z⟩:=I.cell y c e;exact⟨w',z.sameBut hs<|cne y c e⟩
  .obtain⟨e,n,ne,nf,d⟩:=I.pin p hp;exact⟨(hs.2 p.1 ne).trans e,n,ne,nf,d⟩
 .have hfn:X.fn x=true:=by
   rcases hf with z|z
   .exact z
   .rw[z]at hk;cases hk
  obtain⟨c,hc⟩:=I.ok.has x (.inl hk);obtain⟨w',z⟩:=I.cell x c hc;refine wpAny_storeName_cell I.ok.kind hk hc z (λh' hc' hs=> ?_)
  obtain⟨oc,hoc,hocd⟩:=id z;refine h {s with heap:=h'} ⟨I.ok,I.os,I.bare,⟨λb o e n hb hx=> ?_,λb o e n hb hx=> ?_,I.base.free,λb o e hx=> ?_,I.base.tups,I.base.frzs,I.base.tbls⟩,⟨m,hn.sameBut hs<|Ne.symm<|cne x c hc,λj y v' e1 e2 e3=> ?_⟩,λy c' e=> ?_,I.free,I.freeC,λp hp=> ?_,tracked ⟨oc,hoc,I.freeC x c hc⟩ hs,by exists I.len⟩ ⟨c,hs,.inr hc⟩
  .exact(hs.2 b<|bI<|b9 (aV e)<|I.ok.cab x c hfn hc).trans (I.base.keep b o e n hb hx)
  .obtain⟨sl,e1⟩:=I.base.slot b o e n hb hx;exact⟨sl,(hs.2 b<|bI<|b9 (aV e)<|I.ok.cab x c hfn hc).trans e1⟩
  .obtain⟨o',e1⟩:=I.base.there b o e hx;exact⟨o',(hs.2 b<|bI<|b9 (aV e)<|I.ok.cab x c hfn hc).trans e1⟩
  .by_cases hj:j=i
   .subst hj;rw[hi]at e1;cases e1;rw[yW hiσ]at e2;cases e2;exact⟨u,r,.inr ⟨.inl hk,c,hc,hc'⟩⟩
   .rw[pI<|Ne.symm hj]at e2;obtain⟨u',r',q⟩:=hl j y v' e1 e2 e3;refine⟨u',r',?_⟩;rcases q with q| ⟨k,c',e,z'⟩
    .exact .inl q
    .refine .inr ⟨k,c',e,z'.sameBut hs ?_⟩
     rintro rfl;exact hj (b87 hN e1<|I.ok.inj _ _ _ e hc▸hi)
  .by_cases hcc:c'=c
   .subst hcc;exact⟨_,hc'⟩
   .obtain⟨w2,z2⟩:=I.cell y c' e;exact⟨w2,z2.sameBut hs hcc⟩
  .obtain⟨e,n,ne,nf,d⟩:=I.pin p hp;refine⟨(hs.2 p.1 ?_).trans e,n,ne,nf,d⟩;intro q;rw[q,hoc]at e;have q':oc=p.2:=hU e;exact d w' (by rw[<-q'];exact hocd)
theorem uJ {M:Model}{v:V}{Q:Unit->Shared->Prop}(I:Inv X pins σ H s)(hN:X.N.Nodup)(hi:X.N[i]? =some x)(hx:Loc X.env.scope x)(r:RelV v u)
  (h: ∀s',Inv X pins (σ.set i<|some v) H s'->Q () s') (hf:X.fn x=true\/X.env.scope.names.lookup x=some .local:=by walk_at "z"):wpAny M A (storeName X.env x u) Q E s:=
 cO6 I hN hi hx r (λs' I' _=>h s' I') hf
theorem Inv.call' (I:Inv X pins σ H s)(ho:s'.os=s.os)(u:Un (frs X.stack) ch H H' s.heap s'.heap)(hok:HOk X.prog X.w H' s'.heap)(hg:AllBare s'.gens)
  (hch: ∀b∈ch,(b∈X.ex\/X.s₀.heap.objs.size<=b)/\b≠X.env.locals/\(∀x c,X.env.cells.lookup x=some c->c≠b)/\ ∀p∈X.pn++pins,p.1≠b):Inv X pins σ H' s':=by
 obtain⟨h',g',d',t',o'⟩:=s';have e:o'=s.os:=ho;subst e;exact I.call (g':=g') (t':=t') (d':=d') u hok hg hch
end
abbrev XK:=Value->Option Addr->Hp->Prop
abbrev St:=List (Option V)
abbrev VK:=V->Hp->Prop
abbrev TE:=St->Hp->VK->Prop
abbrev TT:=St->Hp->(Bool->Hp->Prop)->Prop
abbrev TA:=St->Hp->(List V->Hp->Prop)->Prop
structure aR5 where
 nx:St->Hp->Prop
 rt:VK
 bk:St->Hp->Prop:=λ_ _=>False
 ct:St->Hp->Prop:=λ_ _=>False
abbrev TS:=aR5->St->Hp->Prop
def EP (X:Cx)(pins:List (Addr×Obj))(σ:St)(Q:VK)(u:Value)(s':Shared):Prop:= ∃v H',Inv X pins σ H' s'/\RelV v u/\Q v H'
def TP (X:Cx)(pins:List (Addr×Obj))(σ:St)(Q:Bool->Hp->Prop)(b:Bool)(s':Shared):Prop:= ∃H',Inv X pins σ H' s'/\Q b H'
def AP (X:Cx)(pins:List (Addr×Obj))(σ:St)(Q:List V->Hp->Prop)(us:List Value)(s':Shared):Prop:= ∃vs H',Inv X pins σ H' s'/\Vals vs us/\Q vs H'
def SP (X:Cx)(pins:List (Addr×Obj))(D:aR5)(f:Flow)(s':Shared):Prop:=
 match f with
 | .next=> ∃σ' H',Inv X pins σ' H' s'/\D.nx σ' H'
 | .brk=> ∃σ' H',Inv X pins σ' H' s'/\D.bk σ' H'
 | .cont=> ∃σ' H',Inv X pins σ' H' s'/\D.ct σ' H'
 | .ret u=> ∃v σ' H',Inv X pins σ' H' s'/\RelV v u/\D.rt v H'
def PE (X:Cx)(e:Expr)(t:TE):Prop:=
 ∀(pins:List (Addr×Obj)) (s:Shared) (σ:St) (H:Hp) (Q:VK),Inv X pins σ H s->t σ H Q->X∩(eval e X.env) (EP X pins σ Q) X.xe s
def PT (X:Cx)(e:Expr)(t:TT):Prop:=
 ∀(pins:List (Addr×Obj)) (s:Shared) (σ:St) (H:Hp) (Q:Bool->Hp->Prop),Inv X pins σ H s->t σ H Q->X∩(isTrue e X.env<|eval e X.env) (TP X pins σ Q) X.xe s
def PW (X:Cx)(e:Expr)(t:TT):Prop:=
 ∀(whole:Sem Value) (pins:List (Addr×Obj)) (s:Shared) (σ:St) (H:Hp) (Q:Bool->Hp->Prop),Inv X pins σ H s->t σ H Q->X∩(isTrue e X.env whole) (TP X pins σ Q) X.xe s
theorem PW.pt {X:Cx}{t:TT}(h:PW X e t):PT X e t:=h _
def PA (X:Cx)(es:List Expr)(t:TA):Prop:=
 ∀(pos:Pos) (pins:List (Addr×Obj)) (s:Shared) (σ:St) (H:Hp) (Q:List V->Hp->Prop),Inv X pins σ H s->t σ H Q->X∩(spliced<|backTo pos<|starEach es X.env) (AP X pins σ Q) X.xe s
def PS (X:Cx)(st:Stmt)(t:TS):Prop:=
 ∀(pins:List (Addr×Obj)) (s:Shared) (σ:St) (H:Hp) (D:aR5),Inv X pins σ H s->t D σ H->X∩(exec st X.env) (SP X pins D) X.xe s
def PSs (X:Cx)(st:List Stmt)(t:TS):Prop:=
 ∀(pins:List (Addr×Obj)) (s:Shared) (σ:St) (H:Hp) (D:aR5),Inv X pins σ H s->t D σ H->X∩(execs st X.env) (SP X pins D) X.xe s
theorem thn {α:Type}{t:Sem α}{Q Q':α->Shared->Prop}{M:Model}(h:wpAny M A t Q E s)(hQ: ∀a s,Q a s->Q' a s):wpAny M A t Q' E s:=bG h hQ λ_ _ x=>x
section
variable {X:Cx}
def a75 (i:Nat):TE:=λσ H Q=> ∃v,σ[i]? =some (some v)/\Q v H
def tC (v:V):TE:=λ_ H Q=>Q v H
theorem pe_var (hN:X.N[i]? =some x)(hv:Vis X.env.scope x)(hd:⇑(x∪0))(hcd:⇑((x==("__classdict__":Str))=false)):PE X (.Name x pos) (a75 i):=by
 intro pins s σ H Q I h;obtain⟨v,e,h⟩:=h;obtain⟨m,hn,hl⟩:=I.loc;obtain⟨u,r,l⟩:=hl i x v hN e hv;have fin:EP X pins σ Q u s:=⟨v,H,I,r,h⟩;rcases l with⟨hk,hm⟩| ⟨hk,c,hc,hcell⟩
 .exact nN (pJ I.ok.kind hk hn hm fin) hd
 .rcases hk with hk|hk
  .exact nN (wpAny_loadName_cell I.ok.kind hk hc hcell fin) hd
  .exact nN (wpAny_loadName_free I.ok.kind hk hc hcell fin hcd) hd
theorem pe_int {i j pos}:PE X (.Constant (.int i) j pos) (tC<|.int i):=λ_ _ _ H _ I h=>wpAny_Constant_int ⟨.int i,H,I.tok _,⟨_,rfl⟩,h⟩
theorem pe_bl {b j pos}:PE X (.Constant (.bool b) j pos) (tC<|.bl b):=λ_ _ _ H _ I h=>Constant_bool ⟨.bl b,H,I,rfl,h⟩
theorem pe_non {j pos}:PE X (.Constant .none j pos) (tC .non):=λ_ _ _ H _ I h=>Constant_none ⟨.non,H,I,rfl,h⟩
theorem pe_str {x j pos}:PE X (.Constant (.str x) j pos) (tC<|.str x):=λ_ _ _ H _ I h=>Calls.Constant_str ⟨.str x,H,I.tok _,⟨_,rfl⟩,h⟩
def Gl (X:Cx)(x:Str):Prop:=X.env.kindOf x=some .globalImplicit
theorem rG {σ:St}{H:Hp}(I:Inv X pins σ H s)(hg:Gl X x)(hm:X.mg x=some u)(h:Q u s)
  (hd:⇑(x∪0)):X∩(eval (.Name x pos) X.env) Q E s:=
 Calls.Name_function_global I.ok.kind hg (Calls.loadGlobal_global (by rw[I.ok.glob];exact I.mod.glob.keeps I.bk) hm h) hd
theorem uK {σ:St}{H:Hp}(I:Inv X pins σ H s)(hg:Gl X x)(hm:X.mg x=none)(hv:bootBuiltins x=some u)(h:Q u s)
  (hn:⇑(x≠"__name__")) (hd:⇑(x∪0)):X∩(eval (.Name x pos) X.env) Q E s:=by
 obtain⟨mb,h1,h2⟩:=I.mod.blt;exact Calls.Name_function_global I.ok.kind hg (Calls.loadGlobal_builtin (by rw[I.ok.glob];exact I.mod.glob.keeps I.bk) hm (by rw[I.ok.blt];exact h1.keeps I.bk) ((h2 x hn).trans hv) h) hd
theorem bS8 {v:V}(hg:Gl X x)(hm:X.mg x=some u)(r:RelV v u)(hd:⇑(x∪0)):PE X (.Name x pos) (tC v):=
 λ_ _ _ H _ I h=>rG I hg hm ⟨v,H,I,r,h⟩ hd
theorem dB0 {v:V}(hg:Gl X x)(hm:X.mg x=none)(hv:bootBuiltins x=some u)(r:RelV v u)(hn:⇑(x≠"__name__"))(hd:⇑(x∪0)):PE X (.Name x pos) (tC v):=
 λ_ _ _ H _ I h=>uK I hg hm hv ⟨v,H,I,r,h⟩ hn hd
variable {a b:Expr}{ta tb:TE}{pos:Pos}
def PC (X:Cx)(op:CmpOp)(a b:Expr)(t:TE):Prop:=
 ∀(pins:List (Addr×Obj)) (s:Shared) (σ:St) (H:Hp) (Q:VK),Inv X pins σ H s->t σ H Q->
  X∩(eval a X.env) (λv s₁=>X∩(eval b X.env) (λu s₂=>X∩(compareOp op v u) (EP X pins σ Q) X.xe s₂) X.xe s₁) X.xe s
theorem cV3 (b:Expr)(h:op≠ .In)(h2:op≠ .NotIn):behindInMarks op b=false:=by
 have e1:(op==CmpOp.In)=false:=by cases op<;>first|rfl|exact absurd rfl h
 have e2:(op==CmpOp.NotIn)=false:=by cases op<;>first|rfl|exact absurd rfl h2
 cases b<;>simp[behindInMarks,e1,e2]
def tIsN (ta:TE):TE:=λσ H Q=>ta σ H λx H1=>Q (.bl<|decide (x= .non)) H1
def dM6 (ta:TE):TE:=λσ H Q=>ta σ H λx H1=>Q (.bl<|!decide (x= .non)) H1
theorem RelV.none_iff {x:V}(r:RelV x v):(v==Value.none)=decide (x= .non):=by
 cases x with
 | non=>cases r;rfl
 | bl _=>cases r;rfl
 | int _=>obtain⟨t,rfl⟩:=r;rfl
 | str _=>obtain⟨t,rfl⟩:=r;rfl
 | byt _=>obtain⟨t,rfl⟩:=r;rfl
 | flt _=>obtain⟨t,rfl⟩:=r;rfl
 | ref _=>cases r;rfl
 | ty _=>cases r;rfl
theorem pc_isN {j pos'}(ha:PE X a ta):PC X .Is a (.Constant .none j pos') (tIsN ta):=by
 intro pins s σ H Q I h;refine thn (ha pins s σ H _ I h) λv s1 ⟨x,H1,I1,r1,q1⟩=> ?_
 exact Constant_none (is_none_gen ⟨.bl _,H1,I1,by rw[r1.none_iff];rfl,q1⟩)
theorem dB1 {j pos'}(ha:PE X a ta):PC X .IsNot a (.Constant .none j pos') (dM6 ta):=by
 intro pins s σ H Q I h;refine thn (ha pins s σ H _ I h) λv s1 ⟨x,H1,I1,r1,q1⟩=> ?_
 exact Constant_none (isnot_none_gen ⟨.bl _,H1,I1,by rw[r1.none_iff];rfl,q1⟩)
def tB (t:TE):TT:=λσ H Q=>t σ H λx H1=> ∃c,x= .bl c/\Q c H1
theorem cV4 {t:TE}(h:PC X op a b t)(h1:behindInMarks op b=false:=by first|exact cV3 _ ac ac|rfl):PT X (.Compare a [op] [b] pos) (tB t):=by
 intro pins s σ H Q I hw;refine wpAny_isTrue_Compare1 (thn (h pins s σ H _ I hw) λv s1 h1=>thn h1 λu s2 h2=>thn h2 λc s3 ⟨x,H1,I1,r1,q1⟩=> ?_) h1
 obtain⟨d,rfl,q⟩:=q1;cases r1;exact pQ ⟨H1,I1,q⟩
theorem pt_val {t:TE}(h:PE X e t)(he: ∀whole,isTrue e X.env whole=(do let v<-whole;standAt e.pos;holding [v] (truthy v)):=by intro _;rfl):PT X e (tB t):=by
 intro pins s σ H Q I hw;refine isTrue_plain (thn (h pins s σ H _ I hw) λv s1 ⟨x,H1,I1,r1,q1⟩=> ?_) (he _)
 obtain⟨d,rfl,q⟩:=q1;cases r1;exact pQ ⟨H1,I1,q⟩
variable {tA tB':TT}{fS:List Expr}
def tAnd (t u:TT):TT:=λσ H Q=>t σ H λc H1=>if c=true then u σ H1 Q else Q false H1
def tOr (t u:TT):TT:=λσ H Q=>t σ H λc H1=>if c=true then Q true H1 else u σ H1 Q
def tNot (t:TT):TT:=λσ H Q=>t σ H λc H1=>Q (!c) H1
theorem dB2 (ha:PT X a tA):PW X (.BoolOp .And [a] pos) tA:=by
 intro wh pins s σ H Q I h;refine isTrue_and (thn (ha pins s σ H Q I h) λc s1 e=> ?_)
 cases c with
 | true=>exact isTrue_and_nil e
 | false=>exact e
theorem pw_or1 (ha:PT X a tA):PW X (.BoolOp .Or [a] pos) tA:=by
 intro wh pins s σ H Q I h;refine isTrue_or (thn (ha pins s σ H Q I h) λc s1 e=> ?_)
 cases c with
 | false=>exact isTrue_or_nil e
 | true=>exact e
theorem pw_and (ha:PT X a tA)(hb:PW X (.BoolOp .And (b::fS) pos) tB'):PW X (.BoolOp .And (a::b::fS) pos) (tAnd tA tB'):=by
 intro wh pins s σ H Q I h;refine isTrue_and (thn (ha pins s σ H _ I h) λc s1 ⟨H1,I1,q1⟩=> ?_)
 cases c with
 | true=>exact hb wh pins s1 σ H1 Q I1 q1
 | false=>exact⟨H1,I1,q1⟩
theorem pw_or (ha:PT X a tA)(hb:PW X (.BoolOp .Or (b::fS) pos) tB'):PW X (.BoolOp .Or (a::b::fS) pos) (tOr tA tB'):=by
 intro wh pins s σ H Q I h;refine isTrue_or (thn (ha pins s σ H _ I h) λc s1 ⟨H1,I1,q1⟩=> ?_)
 cases c with
 | true=>exact⟨H1,I1,q1⟩
 | false=>exact hb wh pins s1 σ H1 Q I1 q1
theorem pt_not (ha:PT X a tA):PT X (.UnaryOp .Not a pos) (tNot tA):=by
 intro pins s σ H Q I h;exact isTrue_not (ha pins s σ H (λc H1=>Q (!c) H1) I h)
def tAndV (ta tb:TE):TE:=λσ H Q=>ta σ H λx H1=> ∃c,x= .bl c/\if c=true then tb σ H1 Q else Q (.bl false) H1
def tNotV (ta:TE):TE:=λσ H Q=>ta σ H λx H1=> ∃c,x= .bl c/\Q (.bl<|!c) H1
theorem pe_one {op}{t:TE}(h:PE X a t):PE X (.BoolOp op [a] pos) t:=λpins s σ H Q I hw=>BoolOp_one (h pins s σ H Q I hw)
theorem pe_and (ha:PE X a ta)(hb:PE X (.BoolOp .And (b::fS) pos) tb):PE X (.BoolOp .And (a::b::fS) pos) (tAndV ta tb):=by
 intro pins s σ H Q I h;refine BoolOp_and (thn (ha pins s σ H _ I h) λv s1 ⟨x,H1,I1,r1,q1⟩=> ?_)
 obtain⟨c,rfl,q1⟩:=q1;cases r1;refine pQ ?_;cases c with
 | true=>exact hb pins s1 σ H1 Q I1 q1
 | false=>exact⟨.bl false,H1,I1,rfl,q1⟩
theorem pe_not (ha:PE X a ta):PE X (.UnaryOp .Not a pos) (tNotV ta):=by
 intro pins s σ H Q I h;refine UnaryOp_ (thn (ha pins s σ H _ I h) λv s1 ⟨x,H1,I1,r1,q1⟩=> ?_)
 obtain⟨c,rfl,q1⟩:=q1;cases r1;exact not_of (pQ ⟨.bl<|!c,H1,I1,rfl,q1⟩)
def tIf (t:TT)(ta tb:TE):TE:=λσ H Q=>t σ H λc H1=>if c=true then ta σ H1 Q else tb σ H1 Q
theorem cV5 (hc:PT X c tA)(ha:PE X a ta)(hb:PE X b tb):PE X (.IfExp c a b pos) (tIf tA ta tb):=by
 intro pins s σ H Q I h;refine wpAny_IfExp (thn (hc pins s σ H _ I h) λd s1 ⟨H1,I1,q1⟩=> ?_)
 cases d with
 | true=>exact ha pins s1 σ H1 Q I1 q1
 | false=>exact hb pins s1 σ H1 Q I1 q1
end
def SqL (K:PySem.W.Frag)(H:Hp)(a:Addr)(xs:List V):Prop:=
 Rd H a (.lst xs)\/
  ∃(o:Obj) (its:Array Value) (n:Nat),K.lookup a=some o/\o.cls= .type "list"/\o.dict=none/\o.data= .seq its n/\its.size<=sizeLine/\Vals xs its.toList
def SqT (K:PySem.W.Frag)(H:Hp)(a:Addr)(xs:List V):Prop:=
 Rd H a (.tup xs)\/
  ∃(o:Obj) (its:Array Value) (n:Nat),K.lookup a=some o/\o.cls= .type "tuple"/\o.data= .seq its n/\its.size<=sizeLine/\Vals xs its.toList
nonrec def absV:Value->Option V
 | .none=>some .non
 | .bool b=>some (.bl b)
 | .int i _=>some (.int i)
 | .str x _=>some (.str x)
 | .bytes b _=>some (.byt b)
 | .float b _=>some (.flt b)
 | .ref a=>some (.ref a)
 | .type n=>some (.ty n)
 | _=>none
theorem RelV.abs {x:V}(r:RelV x u):absV u=some x:=by
 cases x with
 | non=>cases r;rfl
 | bl _=>cases r;rfl
 | int _=>obtain⟨t,rfl⟩:=r;rfl
 | str _=>obtain⟨t,rfl⟩:=r;rfl
 | byt _=>obtain⟨t,rfl⟩:=r;rfl
 | flt _=>obtain⟨t,rfl⟩:=r;rfl
 | ref _=>cases r;rfl
 | ty _=>cases r;rfl
theorem RelV.inj {x y:V}(r:RelV x u)(q:RelV y u):x=y:=hU (r.abs.symm.trans q.abs)
theorem Vals.inj: ∀{xs ys:List V} {us:List Value},Vals xs us->Vals ys us->xs=ys
 | _,_,_,.nil,.nil=>rfl
 | _,_,_,.cons r t,.cons r' t'=>by rw[r.inj r',Vals.inj t t']
section
variable {X:Cx}{pins:List (Addr×Obj)}{σ:St}{H:Hp}{s:Shared}{a:Addr}{xs ys:List V}
theorem SqL.of (h:H a=some (.lst xs)):SqL K H a xs:= .inl (.inl h)
theorem Inv.list (I:Inv X pins σ H s)(h:SqL X.K H a xs): ∃its:List Value,Vals xs its/\PlainL s.heap a its.toArray/\xs.length<=sizeLine:=by
 rcases h with h| ⟨o,its,n,hk,hc,hd,hs,hz,r⟩
 .obtain⟨z,its,n,r,e⟩:=h.ok I.hok;exact⟨its,r,⟨_,n,e,rfl,rfl,rfl⟩,z⟩
 .refine⟨its.toList,r,⟨o,n,I.kIn a o hk,hc,hd,by exists hs⟩,?_⟩
  have e:=r.length;simp only[aL7]at e
  lia
theorem Inv.tuple (I:Inv X pins σ H s)(h:SqT X.K H a xs): ∃its:List Value,Vals xs its/\IsTup s.heap a its.toArray/\xs.length<=sizeLine:=by
 rcases h with h| ⟨o,its,n,hk,hc,hs,hz,r⟩
 .obtain⟨z,its,r,p⟩:=h.ok I.hok;exact⟨its,r,p,z⟩
 .refine⟨its.toList,r,⟨o,I.kIn a o hk,hc,n,by exists hs⟩,?_⟩
  have e:=r.length;simp only[aL7]at e
  lia
theorem Inv.list_inj (I:Inv X pins σ H s)(h:SqL X.K H a xs)(h':SqL X.K H a ys):xs=ys:=by
 obtain⟨its,r,⟨o,n,e,_,_,d⟩,_⟩:=I.list h;obtain⟨its',r',⟨o',n',e',_,_,d'⟩,_⟩:=I.list h';rw[e]at e';cases e';rw[d]at d'
 injection d' with d1 _
 have:its=its':=by simpa using dN toList d1
 subst this;exact r.inj r'
theorem Inv.tuple_inj (I:Inv X pins σ H s)(h:SqT X.K H a xs)(h':SqT X.K H a ys):xs=ys:=by
 obtain⟨its,r,⟨o,e,_,n,d⟩,_⟩:=I.tuple h;obtain⟨its',r',⟨o',e',_,n',d'⟩,_⟩:=I.tuple h';rw[e]at e';cases e';rw[d]at d'
 injection d' with d1 _
 have:its=its':=by simpa using dN toList d1
 subst this;exact r.inj r'
end
noncomputable abbrev Cx.wish (X:Cx)(E:Value->Shared->Prop):Cx:={X with xe:=E}
noncomputable abbrev Cx.nox (X:Cx):Cx:=X.wish λ_ _=>False
theorem Cx.Ok.wish {X:Cx}(ok:X.Ok)(E:Value->Shared->Prop):(X.wish E).Ok:=
 ⟨ok.mod,ok.kind,ok.glob,ok.blt,ok.above,ok.inj,ok.has,ok.cab,ok.hd,ok.frames,ok.stk,ok.exf,ok.bs,ok.bsz,ok.noex,ok.exfs,ok.funs,ok.frf⟩
theorem Cx.Ok.unwish {X:Cx}(ok:(X.wish E).Ok):X.Ok:=
 ⟨ok.mod,ok.kind,ok.glob,ok.blt,ok.above,ok.inj,ok.has,ok.cab,ok.hd,ok.frames,ok.stk,ok.exf,ok.bs,ok.bsz,ok.noex,ok.exfs,ok.funs,ok.frf⟩
section
variable {X:Cx}{pins:List (Addr×Obj)}{σ:St}{H:Hp}{s:Shared}{E:Value->Shared->Prop}
theorem Inv.wish (I:Inv X pins σ H s)(E:Value->Shared->Prop):Inv (X.wish E) pins σ H s:=⟨I.ok.wish E,I.os,I.bare,I.base,I.loc,I.cell,I.free,I.freeC,I.pin,I.hok,I.len⟩
theorem Inv.unwish (I:Inv (X.wish E) pins σ H s):Inv X pins σ H s:=⟨I.ok.unwish,I.os,I.bare,I.base,I.loc,I.cell,I.free,I.freeC,I.pin,I.hok,I.len⟩
theorem SP.unwish {D:aR5}{f:Flow}(h:SP (X.wish E) pins D f s'):SP X pins D f s':=by
 cases f with
 | next=>obtain⟨σ',H',I,q⟩:=h;exact⟨σ',H',I.unwish,q⟩
 | brk=>obtain⟨σ',H',I,q⟩:=h;exact⟨σ',H',I.unwish,q⟩
 | cont=>obtain⟨σ',H',I,q⟩:=h;exact⟨σ',H',I.unwish,q⟩
 | ret u=>obtain⟨v,σ',H',I,r,q⟩:=h;exact⟨v,σ',H',I.unwish,r,q⟩
theorem PSs.nox {st:List Stmt}{t:TS}(h:PSs X.nox st t):PSs X st t:=λpins s σ H D I hw=>
 bG (h pins s σ H D (I.wish _) hw) (λ_ _ q=>q.unwish) λ_ _ z=>False.elim z
end
section
variable {X:Cx}{st:Stmt}{fS:List Stmt}{t u:TS}{e:Expr}{te:TE}{pos:Pos}
def tNext:TS:=λD σ H=>D.nx σ H
def tSeq (t u:TS):TS:=λD σ H=>t {D with nx:=u D} σ H
theorem dB3:PSs X [] tNext:=λ_ _ σ H _ I h=>hV ⟨σ,H,I,h⟩
theorem xV (h1:PS X st t)(h2:PSs X fS u):PSs X (st::fS) (tSeq t u):=by
 intro pins s σ H D I h;refine nB (thn (h1 pins s σ H {D with nx:=u D} I h) λf s1 q=> ?_)
 cases f with
 | next=>
  obtain⟨σ',H',I',q⟩:=q;exact h2 pins s1 σ' H' D I' q
 | ret v=>exact q
 | brk=>exact q
 | cont=>exact q
theorem bS9 (h1:PS X st t):PSs X [st] t:=by
 intro pins s σ H D I h;refine nB (thn (h1 pins s σ H D I h) λf s1 q=> ?_)
 cases f with
 | next=>exact hV q
 | ret v=>exact q
 | brk=>exact q
 | cont=>exact q
theorem Inv.quiet {σ:St}{H:Hp}(I:Inv X pins σ H s):interactive X.env=false:=by simp[interactive,I.ok.kind]
def tDrop (te:TE):TS:=λD σ H=>te σ H λ_ H1=>D.nx σ H1
theorem bT0 (he:PE X e te)(hs:↥(swapsWith e none pos.line X.env=pure false)):PS X (.Expr e pos) (tDrop te):=by
 intro pins s σ H D I h;exact wpAny_Expr_any (thn (he pins s σ H _ I h) λv s1 ⟨x,H1,I1,r1,q1⟩=>⟨σ,H1,I1,q1⟩) I.quiet hs
def tRet (te:TE):TS:=λD σ H=>te σ H D.rt
theorem cV6 (he:PE X e te):PS X (.Return (some e) pos) (tRet te):=by
 intro pins s σ H D I h;exact wpAny_Return_some (thn (he pins s σ H _ I h) λv s1 ⟨x,H1,I1,r1,q1⟩=>⟨x,σ,H1,I1,r1,q1⟩)
def tIfS (c:TT)(t u:TS):TS:=λD σ H=>c σ H λb H1=>if b=true then t D σ H1 else u D σ H1
theorem dM7 {a b:List Stmt}{tc:TT}(hc:PT X c tc)(ha:PSs X a t)(hb:PSs X b u):PS X (.If c a b pos) (tIfS tc t u):=by
 intro pins s σ H D I h;refine wpAny_If (thn (hc pins s σ H _ I h) λd s1 ⟨H1,I1,q1⟩=> ?_)
 cases d with
 | true=>exact ha pins s1 σ H1 D I1 q1
 | false=>exact hb pins s1 σ H1 D I1 q1
def tNever:TS:=λ_ _ _=>False
theorem cV7:PS X st tNever:=λ_ _ _ _ _ _ h=>h.elim
end
abbrev TG:=V->St->Hp->(St->Hp->Prop)->Prop
abbrev TGs:=List V->St->Hp->(St->Hp->Prop)->Prop
def PG (X:Cx)(target:Expr)(t:TG):Prop:=
 ∀(pins:List (Addr×Obj)) (s:Shared) (σ:St) (H:Hp) (v:V) (u:Value) (Q:St->Hp->Prop),Inv X pins σ H s->RelV v u->t v σ H Q->
  X∩(assign target X.env u) (λ_ s'=> ∃σ' H',Inv X pins σ' H' s'/\Q σ' H') X.xe s
def PGs (X:Cx)(ts:List Expr)(t:TGs):Prop:=
 ∀(pins:List (Addr×Obj)) (s:Shared) (σ:St) (H:Hp) (vs:List V) (us:List Value) (Q:St->Hp->Prop),Inv X pins σ H s->Vals vs us->t vs σ H Q->
  X∩(assignInOrder ((assignEach ts X.env).map (·.2)) us) (λ_ s'=> ∃σ' H',Inv X pins σ' H' s'/\Q σ' H') X.xe s
abbrev cV8:=V->V->V->Hp->(Hp->Prop)->Prop
def PSet (X:Cx)(t:cV8):Prop:=
 ∀(pins:List (Addr×Obj)) (s:Shared) (σ:St) (H:Hp) (o i v:V) (ov iv u:Value) (Q:Hp->Prop),Inv X pins σ H s->RelV o ov->RelV i iv->RelV v u->t o i v H Q->
  X∩(setItem ov iv u) (λ_ s'=> ∃H',Inv X pins σ H' s'/\Q H') X.xe s
abbrev TIp:=V->V->Hp->VK->Prop
def PIp (X:Cx)(op:Operator)(t:TIp):Prop:=
 ∀(pins:List (Addr×Obj)) (s:Shared) (σ:St) (H:Hp) (x y:V) (v u:Value) (Q:VK),Inv X pins σ H s->RelV x v->RelV y u->t x y H Q->
  X∩(inplaceOp op v u) (EP X pins σ Q) X.xe s
section
variable {X:Cx}{pos:Pos}
def a76 (i:Nat):TG:=λv σ H Q=>Q (σ.set i<|some v) H
theorem cE (hN:X.N.Nodup)(hi:X.N[i]? =some x)(hx:Loc X.env.scope x)(hf:X.fn x=true\/X.env.scope.names.lookup x=some .local:=by walk_at "z"):PG X (.Name x pos) (a76 i):=by
 intro pins s σ H v u Q I r h;exact wpAny_assign_Name (uJ I hN hi hx r (λs' I'=>⟨_,H,I',h⟩) hf)
def gNil:TGs:=λvs σ H Q=>vs=[]/\Q σ H
def gCons (t:TG)(u:TGs):TGs:=λvs σ H Q=> ∃v r,vs=v::r/\t v σ H λσ' H'=>u r σ' H' Q
theorem dB4:PGs X [] gNil:=by
 intro pins s σ H vs us Q I r h;obtain⟨e,h⟩:=h;subst e;cases r;exact assignInOrder_nil ⟨σ,H,I,h⟩
theorem cV9 {e:Expr}{es:List Expr}{t:TG}{u:TGs}(h1:PG X e t)(h2:PGs X es u)
  (hs:↥((assignEach (e::es) X.env).map (·.2)=assign e X.env::(assignEach es X.env).map (·.2))):PGs X (e::es) (gCons t u):=by
 intro pins s σ H vs us Q I r h;obtain⟨v,vr,e1,h⟩:=h;subst e1;cases r with
 | cons r rr=>
  rw[hs];refine aL9 (thn (h1 pins s σ H _ _ _ I r h) λ_ s1 ⟨σ1,H1,I1,q1⟩=> ?_)
  exact h2 pins s1 σ1 H1 _ _ Q I1 rr q1
def gTup (K:PySem.W.Frag)(n:Nat)(t:TGs):TG:=λv σ H Q=> ∃a xs,v= .ref a/\SqT K H a xs/\xs.length=n/\t xs σ H Q
theorem pg_tup {t:TGs}(hc:X.calm=true)(h:PGs X es t)
  (hn:↥((assignEach es X.env).length=n)) (hst:↥((assignEach es X.env).findIdx? (·.1)=none)):PG X (.Tuple es k pos) (gTup X.K n t):=by
 intro pins s σ H v u Q I r hw;obtain⟨a,xs,e1,hq,hl,hw⟩:=hw;subst e1;cases r;obtain⟨its,rv,ht,hz⟩:=I.tuple hq;refine assign_Tuple_tuple (I.ok.hd hc) ht (by simp[hn,<-hl,rv.length]) hst λh' hx=> ?_
 have I1:Inv X pins σ H {s with heap:=h'}:=I.kept (t':=s.toks) λb o e=>hx b o (bI<|aV e) e
 exact h pins _ σ H xs _ Q I1 (by exists rv) hw
def gSub (to ti:TE)(t:cV8):TG:=λv σ H Q=>to σ H λo H1=>ti σ H1 λi H2=>t o i v H2 λH3=>Q σ H3
theorem pg_sub {o i:Expr}{to ti:TE}{t:cV8}(ho:PE X o to)(hi:PE X i ti)(hs:PSet X t)
  (ha: ∀v,assign (.Subscript o i pos) X.env v=(do
   let ov<-holding [v] (eval o X.env)
   let iv<-holding [v,ov] (eval i X.env)
   standAt pos
   holding [v,ov,iv] (setItem ov iv v)
   release [v,ov,iv] []):=by intro _;rfl):PG X (.Subscript o i pos) (gSub to ti t):=by
 intro pins s σ H v u Q I r h;rw[ha];refine a9 (gH<|thn (ho pins s σ H _ I h) λov s1 ⟨x,H1,I1,r1,q1⟩=> ?_)
 refine a9 (gH<|thn (hi pins s1 σ H1 _ I1 q1) λiv s2 ⟨y,H2,I2,r2,q2⟩=> ?_)
 refine a9 (nJ<|a9<|gH<|thn (hs pins s2 σ H2 x y v ov iv u _ I2 r1 r2 r q2) λ_ s3 ⟨H3,I3,q3⟩=> ?_)
 exact wpAny_release ⟨σ,H3,I3,q3⟩
def dB5 (te:TE)(g:TG):TS:=λD σ H=>te σ H λx H1=>g x σ H1 D.nx
theorem cW0 {te:TE}{g:TG}(he:PE X e te)(hg:PG X tg g)(hs:↥(swapsWithSole [tg] e pos.line X.env=pure false))(hw:↥(swappedStores [tg] e X.env=pure none))
  (h1:↥((assignEach [tg] X.env).map (·.2)=[assign tg X.env])):PS X (.Assign [tg] e pos) (dB5 te g):=by
 intro pins s σ H D I h;refine wpAny_Assign_stores (thn (he pins s σ H _ I h) λv s1 ⟨x,H1,I1,r1,q1⟩=> ?_) hs hw
 rw[h1];exact thn (hg pins s1 σ H1 x v _ I1 r1 q1) λ_ s2 q=>q
theorem cW1 {te:TE}(hN:X.N.Nodup)(hi:X.N[i]? =some x)(hx:Loc X.env.scope x)(he:PE X e te)(hs:↥(swapsWith e (some<|.Name x pos') pos.line X.env=pure false))(hf:X.fn x=true\/X.env.scope.names.lookup x=some .local:=by walk_at "z") :
  PS X (.Assign [.Name x pos'] e pos) (dB5 te<|a76 i):=by
 intro pins s σ H D I h;refine wpAny_Assign_Name (thn (he pins s σ H _ I h) λv s1 ⟨y,H1,I1,r1,q1⟩=> ?_) hs
 exact uJ I1 hN hi hx r1 (λs2 I2=>⟨_,H1,I2,q1⟩) hf
def tPar (i j:Nat)(ta:TA):TS:=λD σ H=>ta σ H λvs H1=> ∃v w,vs=[v,w]/\D.nx ((σ.set i<|some v).set j<|some w) H1
theorem ps_par {a b:Expr}{ta:TA}{px pt:Pos}{kt k2 pt2}(hc:X.calm=true)(hN:X.N.Nodup)(hi:X.N[i]? =some x)(hj:X.N[j]? =some y)(hij:i≠j)
  (hx:X.env.scope.names.lookup x=some .local) (hy:X.env.scope.names.lookup y=some .local) (ha:PA X [a,b] ta)
  (hw:swappedStores [.Tuple [.Name x px,.Name y py] kt pt] (.Tuple [a,b] k2 pt2) X.env=pure (some [x,y]))
  (hs:↥(swapsWithSole [.Tuple [.Name x px,.Name y py] kt pt] (.Tuple [a,b] k2 pt2) pos.line X.env=pure false)) :
  PS X (.Assign [.Tuple [.Name x px,.Name y py] kt pt] (.Tuple [a,b] k2 pt2) pos) (tPar i j ta):=by
 intro pins s σ H D I h;rw[exec_Assign_arm];refine a9 (nJ ?_);rw[hs];refine a9 (aH ?_);rw[a8 ac]
 refine a9 (Tuple_<|thn (ha _ pins s σ H _ I h) λus s1 ⟨vs,H1,I1,r1,q1⟩=> ?_)
 obtain⟨v,w,e1,q1⟩:=q1;subst e1;obtain⟨u1,u2,rfl,rv,rw'⟩: ∃u1 u2,us=[u1,u2]/\RelV v u1/\RelV w u2:=by
  cases r1 with
  | cons p q=>
   cases q with
   | cons p' q'=>
    cases q';exact⟨_,_,rfl,p,p'⟩
 refine iR ?_ (by show 2<=sizeLine;decide)
 have I2:Inv X pins σ H1 {s1 with heap:=s1.heap.push {cls:= .type "tuple",data:= .seq [u1,u2].toArray}}:=I1.kept (t':=s1.toks) λb o e=>aT _ e
 rw[hw];refine a9 (aH ?_);show X∩(do rule "assign.swapped-stores";let items<-unpackItems (.ref s1.heap.objs.size) 2 none;assignInOrder [λv=>bindName X.env y v,λv=>bindName X.env x v] items.reverse;pure Flow.next) _ _ _
 refine a9 (nO<|a9<|unpackItems_tuple (items:= #[u1,u2]) (I.ok.hd hc) (qC s1.heap _) λh' hx'=> ?_)
 have I3:=I2.kept (h':=h') (t':=s1.toks) λb o e=>hx' b o (bI<|aV e) e
 show wpAny _ _ (assignInOrder [λv=>bindName X.env y v,λv=>bindName X.env x v] [u2,u1] >>= λ_=>pure Flow.next) _ _ _
 refine a9 (aL9<|wpAny_bindName<|uJ I3 hN hj (.inl hy) rw' (λs2 I4=> ?_)<|.inr hy)
 refine aL9 (wpAny_bindName<|uJ I4 hN hi (.inl hx) rv (λs3 I5=>assignInOrder_nil (aH ?_))<|.inr hx)
 rw[List.set_comm _ _<|Ne.symm hij]at I5;exact⟨_,H1,I5,q1⟩
def tAug (i:Nat)(te:TE)(ti:TIp):TS:=λD σ H=> ∃x,σ[i]? =some (some x)/\te σ H λy H1=>ti x y H1 λz H2=>D.nx (σ.set i<|some z) H2
theorem ps_aug {te:TE}{op:Operator}{ti:TIp}(hN:X.N.Nodup)(hi:X.N[i]? =some x)(hx:Loc X.env.scope x)(he:PE X e te)(ho:PIp X op ti)(hf:X.fn x=true\/X.env.scope.names.lookup x=some .local:=by walk_at "z") :
  PS X (.AugAssign (.Name x pos') op e pos) (tAug i te ti):=by
 intro pins s σ H D I h;obtain⟨v,e1,h⟩:=h;obtain⟨m,hn,hl⟩:=I.loc;have vis:Vis X.env.scope x:=by rcases hx with k|k;exact .inl k;exact .inr (.inl k)
 obtain⟨u,r,l⟩:=hl i x v hi e1 vis;refine wpAny_AugAssign_Name ?_;have go:X∩(eval e X.env) (λw s₂=>X∩(inplaceOp op u w) (λr s₃=>X∩(storeName X.env x r) (λ_=>SP X pins D .next) X.xe s₃) X.xe s₂) X.xe s:=by
  refine thn (he pins s σ H _ I h) λw s1 ⟨y,H1,I1,r1,q1⟩=> ?_
  refine thn (ho pins s1 σ H1 v y u w _ I1 r r1 q1) λz s2 ⟨zv,H2,I2,r2,q2⟩=> ?_
  exact uJ I2 hN hi hx r2 (λs3 I3=>⟨_,H2,I3,q2⟩) hf
 rcases l with⟨hk,hm⟩| ⟨hk,c,hc,hcell⟩
 .exact pJ I.ok.kind hk hn hm go
 .rcases hk with hk|hk
  .exact wpAny_loadName_cell I.ok.kind hk hc hcell go
  .rcases hx with k|k
   .have:X.env.scope.names.lookup x=some .free:=hk;rw[k]at this;cases this
   .have:X.env.scope.names.lookup x=some .free:=hk;rw[k]at this;cases this
def tAugS (to ti te:TE)(tget:V->V->Hp->VK->Prop)(tip:TIp)(tset:cV8):TS:=λD σ H=>to σ H λo H1=>ti σ H1 λi H2=>tget o i H2 λx H3=>te σ H3 λy H4=>tip x y H4 λz H5=>tset o i z H5 λH6=>D.nx σ H6
def PGet (X:Cx)(t:V->V->Hp->VK->Prop):Prop:=
 ∀(pins:List (Addr×Obj)) (s:Shared) (σ:St) (H:Hp) (o i:V) (ov iv:Value) (Q:VK),Inv X pins σ H s->RelV o ov->RelV i iv->t o i H Q->
  X∩(getItem ov iv) (EP X pins σ Q) X.xe s
theorem dB6 {o i:Expr}{to ti te:TE}{tget:V->V->Hp->VK->Prop}{tip:TIp}{tset:cV8}{op:Operator}(ho:PE X o to)(hi:PE X i ti)(hg:PGet X tget)(he:PE X e te)(hp:PIp X op tip)(hs:PSet X tset)
  (ha: ∀ov iv new,augStore i ov iv new=(do holding [new,ov,iv] (setItem ov iv new);release [new,ov,iv] [];pure .next):=by intros;rfl):PS X (.AugAssign (.Subscript o i tpos) op e pos) (tAugS to ti te tget tip tset):=by
 intro pins s σ H D I h;refine wpAny_AugAssign_SubscriptAny (thn (ho pins s σ H _ I h) λov s1 ⟨x1,H1,I1,r1,q1⟩=> ?_) ha
 refine thn (hi pins s1 σ H1 _ I1 q1) λiv s2 ⟨x2,H2,I2,r2,q2⟩=> ?_
 refine thn (hg pins s2 σ H2 x1 x2 ov iv _ I2 r1 r2 q2) λold s3 ⟨x3,H3,I3,r3,q3⟩=> ?_
 refine thn (he pins s3 σ H3 _ I3 q3) λv s4 ⟨x4,H4,I4,r4,q4⟩=> ?_
 refine thn (hp pins s4 σ H4 x3 x4 old v _ I4 r3 r4 q4) λnew s5 ⟨x5,H5,I5,r5,q5⟩=> ?_
 exact thn (hs pins s5 σ H5 x1 x2 x5 ov iv new _ I5 r1 r2 r5 q5) λ_ s6 ⟨H6,I6,q6⟩=>⟨σ,H6,I6,q6⟩
def ipI (f:Int->Int->Int):TIp:=λx y H Q=> ∃i j,x= .int i/\y= .int j/\Q (.int<|f i j) H
theorem ip_add:PIp X .Add (ipI λi j=>i+j):=by
 intro pins s σ H x y v u Q I r1 r2 h;obtain⟨i,j,e1,e2,q⟩:=h;subst e1;subst e2;obtain⟨t,rfl⟩:=r1;obtain⟨t',rfl⟩:=r2;exact iadd_int ⟨.int _,H,I.tok _,⟨_,rfl⟩,q⟩
theorem cW2:PIp X .Sub (ipI λi j=>i-j):=by
 intro pins s σ H x y v u Q I r1 r2 h;obtain⟨i,j,e1,e2,q⟩:=h;subst e1;subst e2;obtain⟨t,rfl⟩:=r1;obtain⟨t',rfl⟩:=r2;exact isub_int ⟨.int _,H,I.tok _,⟨_,rfl⟩,q⟩
end
section
variable {X:Cx}{pos:Pos}
def tWhile (c:TT)(tb:TS):TS:=λD σ H=> ∃W:Nat->St->Hp->Prop,(∃m,W m σ H)/\ ∀m σ H,W m σ H->
 c σ H λb H1=>if b=true then ∃N:St->Hp->Prop,(∀σ' H',N σ' H'-> ∃m',m'<m/\W m' σ' H')/\tb {D with nx:=N,ct:=N,bk:=D.nx} σ H1 else D.nx σ H1
theorem cW3 {tc:TT}{tb:TS}(hp:PassesOwn (model X.prog X.w) X.A X.env X.xe)(hc:PT X c tc)(hb:PSs X body tb):PS X (.While c body [] pos) (tWhile tc tb):=by
 intro pins s σ H D I h;obtain⟨W,⟨m0,w0⟩,turn⟩:=h;refine wpAny_While (codeAny_whileLoop (λn s'=> ∃σ' H',Inv X pins σ' H' s'/\W n σ' H') ?_ m0 ⟨σ,H,I,w0⟩)
 rintro n s1 ⟨σ1,H1,I1,w1⟩;refine nE hp (thn (hc pins s1 σ1 H1 _ I1<|turn n σ1 H1 w1) λb s2 ⟨H2,I2,q2⟩=> ?_)
 cases b with
 | true=>
  obtain⟨N,hN,q2⟩:=q2;rw[aA rfl];refine nE hp (thn (hb pins s2 σ1 H2 _ I2 q2) λf s3 q3=> ?_)
  cases f with
  | next=>
   obtain⟨σ3,H3,I3,n3⟩:=q3;obtain⟨m',hm,w3⟩:=hN σ3 H3 n3;exact⟨m',hm,σ3,H3,I3,w3⟩
  | cont=>
   obtain⟨σ3,H3,I3,n3⟩:=q3;obtain⟨m',hm,w3⟩:=hN σ3 H3 n3;exact⟨m',hm,σ3,H3,I3,w3⟩
  | brk=>exact q3
  | ret v=>exact q3
 | false=>
  rw[a8 bH];exact hV ⟨σ1,H2,I2,q2⟩
end
structure It where
 go:Nat->Hp->Prop
 yld:Nat->Hp->V->Hp->Prop
 stop:Nat->Hp->Prop
def aX1 (X:Cx)(pins:List (Addr×Obj))(H:Hp)(b:Addr):Prop:=
 H b=none/\b≠X.env.locals/\b ∉ X.fs/\(b∈X.ex\/X.s₀.heap.objs.size<=b)/\(∀x c,X.env.cells.lookup x=some c->c≠b)/\ ∀p∈X.pn++pins,p.1≠b
theorem Inv.fpOk {X:Cx}{σ:St}{H H':Hp}(I:Inv X pins σ H s)(hb:s.heap.objs.size<=b)(hn:H' b=none):aX1 X pins H' b:=by
 refine⟨hn,pY<|b9 I.lt hb,I.nofs hb,.inr<|aK I.sz hb,λx c e z=> ?_,λp hp z=> ?_⟩
 .obtain⟨v,q⟩:=I.cell x c e;exact absurd (b9 q.lt (by rw[z];exact hb)) (dF _)
 .exact absurd (b9 (aV (I.pin p hp).1) (by rw[z];exact hb)) (dF _)
structure c02 (P:Program)(w:World)(K:PySem.W.Frag)(tg:Expr)(J:It)(fp:List Addr)(it:Addr)(tn:Nat->Heap->Prop):Prop where
 mem:it∈fp
 obj: ∀i h,tn i h-> ∀b∈fp,∃o,h.get? b=some o/\ ∀v,o.data≠ .cell v
 keep: ∀i h h',tn i h->(∀b∈fp,∀o,h.get? b=some o->h'.get? b=some o)->tn i h'
 item: ∀(X:Cx),X.prog=P->X.w=w->X.K=K->X.calm=true-> ∀(i:Nat) (pins:List (Addr×Obj)) (s:Shared) (σ:St) (H:Hp) (E:Value->Shared->Prop),Inv X pins σ H s->(∀b∈fp,aX1 X pins H b)->tn i s.heap->J.go i H->
  wpAny (model P w) X.A (pyNext<|.ref it) (λr s1=> ∃u,r=some u/\
   wpAny (model P w) X.A (letOwnedTupleGo tg (.ref it) u) (λ_ s2=> ∃x H',Inv X pins σ H' s2/\RelV x u/\J.yld i H x H'/\tn (i+1) s2.heap/\ ∀b∈fp,H' b=none) E s1) E s
 done: ∀(X:Cx),X.prog=P->X.w=w->X.K=K->X.calm=true-> ∀(i:Nat) (pins:List (Addr×Obj)) (s:Shared) (σ:St) (H:Hp) (E:Value->Shared->Prop),Inv X pins σ H s->(∀b∈fp,aX1 X pins H b)->tn i s.heap->J.stop i H->
  wpAny (model P w) X.A (pyNext<|.ref it) (λr s1=>r=none/\Inv X pins σ H s1) E s
 self: ∀(A:Around) (i:Nat) (s:Shared) (Q:Value->Shared->Prop) (E:Value->Shared->Prop),tn i s.heap->Q (.ref it) s->wpAny (model P w) A (pyIter<|.ref it) Q E s
abbrev TI:=St->Hp->(It->Hp->Prop)->Prop
def PIE (X:Cx)(pins:List (Addr×Obj))(σ:St)(tg:Expr)(R:It->Hp->Prop)(itv:Value)(s2:Shared):Prop:=
 ∃(it:Addr) (fp:List Addr) (tn:Nat->Heap->Prop) (J:It) (H':Hp),itv= .ref it/\Inv X pins σ H' s2/\c02 X.prog X.w X.K tg J fp it tn/\tn 0 s2.heap/\(∀b∈fp,aX1 X pins H' b)/\R J H'
def PI (X:Cx)(tg iter:Expr)(wi:TI):Prop:=
 ∀(pins:List (Addr×Obj)) (s:Shared) (σ:St) (H:Hp) (R:It->Hp->Prop),Inv X pins σ H s->wi σ H R->
  X∩(eval iter X.env) (λv s1=>X∩(pyIter v) (PIE X pins σ tg R) X.xe s1) X.xe s
theorem c03 {M:Model}{n:String}{Q:Unit->Shared->Prop}(ho:s.heap.get? it=some o)(hc:o.cls= .type n)(hd:o.data= .fields vs)
  (hn:["enumerate","zip","dict_itemiterator","dict_reverseitemiterator","odict_iterator","itertools.zip_longest","itertools.pairwise"].contains n=false) (hQ:Q () s):wpAny M A (letOwnedTupleGo tg (.ref it) u) Q E s:=by
 unfold letOwnedTupleGo;cases tg<;>first
  | exact aH hQ
  | (cases u<;>first
    | exact aH hQ
    | (refine a9 (wpAny_load ho ?_)
       rw[hc,hd];show wpAny M A (if(["enumerate","zip","dict_itemiterator","dict_reverseitemiterator","odict_iterator","itertools.zip_longest","itertools.pairwise"].contains n&&vs[0]? ==some (rawInt _))=true then _ else _) Q E s;rw[a8 (by intro h;rw[hn,Bool.false_and]at h;cases h)]
       exact aH hQ))
nonrec def Itl (K:PySem.W.Frag)(a:Addr):It:=
 ⟨λi H=> ∃xs x,SqL K H a xs/\xs[i]? =some x,λi H x H'=>H'=H/\ ∀xs,SqL K H a xs->xs[i]? =some x,λi H=> ∃xs,SqL K H a xs/\xs.length<=i⟩
nonrec def Itt (K:PySem.W.Frag)(a:Addr):It:=
 ⟨λi H=> ∃xs x,SqT K H a xs/\xs[i]? =some x,λi H x H'=>H'=H/\ ∀xs,SqT K H a xs->xs[i]? =some x,λi H=> ∃xs,SqT K H a xs/\xs.length<=i⟩
nonrec def Itr (lo:Int)(n:Nat):It:=⟨λi _=>i<n,λi H x H'=>H'=H/\x= .int (lo+i),λi _=>n<=i⟩
theorem cO7 (a it:Addr):c02 P w K tg (Itl K a) [it] it (λi h=>h.IsListIter it a i) where
 mem:=ae
 obj:=λi h st b hb=>by
  have e:b=it:=by exists hb
  subst e;obtain⟨o,e,c,d⟩:=st;exact⟨o,e,λv z=>by rw[d]at z;cases z⟩
 keep:=λi h h' st k=>st.at λo e=>k it ae o e
 item:=by
  intro X hP hw hK hc i pins s σ H E I hf st hg;subst hP hw hK;obtain⟨xs,x,hq,hx⟩:=hg;obtain⟨its,rv,p,hz⟩:=I.list hq;obtain⟨u,hu,ru⟩:=rv.get hx;obtain⟨f0,f1,f2,f3,f4,f5⟩:=hf it ae
  refine wpAny_pyNext_list_item st p.isList (x:=u) (by exists hu) λh' st' sb=> ?_
  have I1:Inv X pins σ H {s with heap:=h'}:=I.turned (t':=s.toks) (λb o hb e=>(sb.2 b hb).trans e) f0 f1 f3 f4 f5
  obtain⟨o,e,c,d⟩:=id st';exact⟨u,rfl,c03 (s:={s with heap:=h'}) e c d ac ⟨x,H,I1,ru,⟨rfl,λys hy=>by rw[I.list_inj hy hq];exact hx⟩,st',λb hb=>(hf b hb).1⟩⟩
 done:=by
  intro X hP hw hK hc i pins s σ H E I hf st hg;subst hP hw hK;obtain⟨xs,hq,hx⟩:=hg;obtain⟨its,rv,p,hz⟩:=I.list hq;obtain⟨f0,f1,f2,f3,f4,f5⟩:=hf it ae
  have hl:=rv.length;exact wpAny_pyNext_list_end (I.ok.hd hc) st p.isList (by simp;lia) λh' eb=>⟨rfl,I.turned (t':=s.toks) (λb o hb e=>eb b o hb e) f0 f1 f3 f4 f5⟩
 self:=λ_ _ _ _ _ st h=>wpAny_pyIter_listiter st h
theorem cB7 (a it:Addr):c02 P w K tg (Itt K a) [it] it (λi h=>h.IsTupleIter it a i) where
 mem:=ae
 obj:=λi h st b hb=>by
  have e:b=it:=by exists hb
  subst e;obtain⟨o,e,c,d⟩:=st;exact⟨o,e,λv z=>by rw[d]at z;cases z⟩
 keep:=λi h h' st k=>st.at λo e=>k it ae o e
 item:=by
  intro X hP hw hK hc i pins s σ H E I hf st hg;subst hP hw hK;obtain⟨xs,x,hq,hx⟩:=hg;obtain⟨its,rv,p,hz⟩:=I.tuple hq;obtain⟨u,hu,ru⟩:=rv.get hx;obtain⟨f0,f1,f2,f3,f4,f5⟩:=hf it ae
  refine wpAny_pyNext_tuple_item st (show s.heap.IsTuple a its.toArray from p) (x:=u) (by exists hu) λh' st' sb=> ?_
  have I1:Inv X pins σ H {s with heap:=h'}:=I.turned (t':=s.toks) (λb o hb e=>(sb.2 b hb).trans e) f0 f1 f3 f4 f5
  obtain⟨o,e,c,d⟩:=id st';exact⟨u,rfl,c03 (s:={s with heap:=h'}) e c d ac ⟨x,H,I1,ru,⟨rfl,λys hy=>by rw[I.tuple_inj hy hq];exact hx⟩,st',λb hb=>(hf b hb).1⟩⟩
 done:=by
  intro X hP hw hK hc i pins s σ H E I hf st hg;subst hP hw hK;obtain⟨xs,hq,hx⟩:=hg;obtain⟨its,rv,p,hz⟩:=I.tuple hq;obtain⟨f0,f1,f2,f3,f4,f5⟩:=hf it ae
  have hl:=rv.length;exact wpAny_pyNext_tuple_end (I.ok.hd hc) st (show s.heap.IsTuple a its.toArray from p) (by simp;lia) λh' eb=>⟨rfl,I.turned (t':=s.toks) (λb o hb e=>eb b o hb e) f0 f1 f3 f4 f5⟩
 self:=λ_ _ _ _ _ st h=>wpAny_pyIter_tupleiter st h
theorem cB8 (it:Addr)(lo:Int)(n:Nat):c02 P w K tg (Itr lo n) [it] it (λi h=>IsRangeIter h it (lo+(i:Nat)*1) ((n:Int)-(i:Nat)) 1) where
 mem:=ae
 obj:=λi h st b hb=>by
  have e:b=it:=by exists hb
  subst e;exact⟨_,st,λv z=>by
   have z':Data.fields _=Data.cell v:=z;cases z'⟩
 keep:=λi h h' st k=>k it ae _ st
 item:=by
  intro X hP hw hK hc i pins s σ H E I hf st hg;subst hP hw hK;obtain⟨f0,f1,f2,f3,f4,f5⟩:=hf it ae
  have W:=Walks.range (prog:=X.prog) (w:=X.w) (I.ok.hd hc) it lo 1 n;refine W.item i s _ _ hg st λv h' tk hv st' kk=> ?_
  obtain⟨t,rfl⟩:=hv;have I1:Inv X pins σ H {s with heap:=h',toks:=tk}:=I.turned (λb o hb e=>kk b o (by exists hb) e) f0 f1 f3 f4 f5
  refine⟨_,rfl,c03 (s:={s with heap:=h',toks:=tk}) (n:="range_iterator") st' rfl rfl ac ⟨.int<|lo+i,H,I1,⟨t,?_⟩,⟨rfl,rfl⟩,st',λb hb=>(hf b hb).1⟩⟩
  rw[uE]
 done:=by
  intro X hP hw hK hc i pins s σ H E I hf st hg;subst hP hw hK;obtain⟨f0,f1,f2,f3,f4,f5⟩:=hf it ae
  exact wpAny_pyNext_range_end (I.ok.hd hc) st (by have:n<=i:=hg;lia) λh' eb=>⟨rfl,I.turned (t':=s.toks) (λb o hb e=>eb b o hb e) f0 f1 f3 f4 f5⟩
 self:=λ_ _ _ _ _ st h=>aK2 st h
section
variable {X:Cx}{tg:Expr}
theorem c04 {σ:St}{H:Hp}{R:It->Hp->Prop}{hi:Int}{t u v:Tok}(I:Inv X pins σ H s)(h1: -(2^62)<=lo)(h2:lo<2^62)(h3: -(2^62)<=hi)(h4:hi<2^62)
  (q:R (Itr lo (hi-lo).toNat) H):X∩(pyIter<|.ref s.heap.objs.size) (PIE X pins σ tg R) E {s with heap:=s.heap.push {cls:= .type "range",data:= .fields #[.int lo t,.int hi u,.int 1 v]},toks:=tk}:=by
 refine wpAny_pyIter_range (IsRange.new ..) (small_one h1 h2 h3 h4) ?_
 have I1:Inv X pins σ H {s with heap:=s.heap.push {cls:= .type "range",data:= .fields #[.int lo t,.int hi u,.int 1 v]},toks:=tk}:=I.kept λb o e=>aT _ e
 refine⟨(s.heap.push {cls:= .type "range",data:= .fields #[.int lo t,.int hi u,.int 1 v]}).objs.size,[(s.heap.push {cls:= .type "range",data:= .fields #[.int lo t,.int hi u,.int 1 v]}).objs.size],_,_,H,rfl,
  I1.kept (t':=tk) λb o e=>aT _ e,cB8 _ lo (hi-lo).toNat,?_,λb hb=> ?_,q⟩
 .have e1:lo+((0:Nat):Int)*1=lo:=ae
  have e2:(((hi-lo).toNat:Nat):Int)-((0:Nat):Int)=Builtin.Range.rangeSize lo hi 1:=by rw[rangeSize_one];split<;>lia
  show IsRangeIter _ _ (lo+((0:Nat):Int)*1) ((((hi-lo).toNat:Nat):Int)-((0:Nat):Int)) 1
  rw[e1,e2];exact bZ _ rfl
 .have e:b=(s.heap.push {cls:= .type "range",data:= .fields #[.int lo t,.int hi u,.int 1 v]}).objs.size:=by exists hb
  subst e;exact I1.fpOk (aG _) (I1.hok.fresh<|aG _)
def iRng1 (ta:TA):TI:=λσ H R=>ta σ H λvs H1=> ∃j:Int,vs=[.int j]/\ -(2^62)<=j/\j<2^62/\R (Itr 0 j.toNat) H1
def iRng2 (ta:TA):TI:=λσ H R=>ta σ H λvs H1=> ∃i j:Int,vs=[.int i,.int j]/\(-(2^62)<=i/\i<2^62/\ -(2^62)<=j/\j<2^62)/\R (Itr i (j-i).toNat) H1
theorem cO8 {a:Expr}{ta:TA}(hg:Gl X "range")(hm:X.mg "range"=none)(ha:PA X [a] ta)(hs:↥(starEach [a] X.env=[(false,eval a X.env)])):PI X tg (.Call (.Name "range" p) [a] [] pos) (iRng1 ta):=by
 intro pins s σ H R I h;refine Call_ (uK I hg hm boot_range<|jJ (thn (ha pos pins s σ H _ I h) λus s1 ⟨vs,H1,I1,r1,q1⟩=> ?_) hs rfl)
 obtain⟨j,e,q1,q2,q⟩:=q1;subst e;cases r1 with
 | cons r rr=>
  cases rr;obtain⟨t,rfl⟩:=r;exact call_range_1 (c04 I1 ad ad q1 q2<|by exists q)
theorem cO9 {a b:Expr}{ta:TA}(hg:Gl X "range")(hm:X.mg "range"=none)(ha:PA X [a,b] ta)(hs:↥(starEach [a,b] X.env=[(false,eval a X.env),(false,eval b X.env)]))(hs2:↥(starEach [b] X.env=[(false,eval b X.env)])) :
  PI X tg (.Call (.Name "range" p) [a,b] [] pos) (iRng2 ta):=by
 intro pins s σ H R I h;refine Call_ (uK I hg hm boot_range<|jJ (thn (ha pos pins s σ H _ I h) λus s1 ⟨vs,H1,I1,r1,q1⟩=> ?_) (by rw[hs,hs2]) (by rw[hs2];rfl))
 obtain⟨i,j,e,⟨q1,q2,q3,q4⟩,q⟩:=q1;subst e;cases r1 with
 | cons r rr=>
  cases rr with
  | cons r' rr=>
   cases rr;obtain⟨t,rfl⟩:=r;obtain⟨t',rfl⟩:=r';exact call_range_2 (c04 I1 q1 q2 q3 q4 q)
def tFor (wi:TI)(g:TG)(tb:TS):TS:=λD σ H=>wi σ H λJ H1=> ∃W:Nat->Nat->St->Hp->Prop,(∃m,W 0 m σ H1)/\ ∀i m σ H,W i m σ H->
 (J.stop i H/\D.nx σ H)\/(J.go i H/\ ∃N:St->Hp->Prop,(∀σ' H',N σ' H'-> ∃m',m'<m/\W (i+1) m' σ' H')/\ ∀x H',J.yld i H x H'->g x σ H' λσ2 H2=>tb {D with nx:=N,ct:=N,bk:=D.nx} σ2 H2)
nonrec def b88 (fp:List Addr)(h:Heap):List (Addr×Obj):=fp.filterMap λb=>(h.get? b).map λo=>(b,o)
theorem a03 (hb:b∈fp)(e:h.get? b=some o):(b,o)∈b88 fp h:=aM0.mpr ⟨b,hb,by rw[e];rfl⟩
theorem cP0 {p:Addr×Obj}(hp:p∈b88 fp h):p.1∈fp/\h.get? p.1=some p.2:=by
 obtain⟨b,hb,e⟩:=aM0.mp hp;cases q:h.get? b with
 | none=>rw[q]at e;cases e
 | some o=>
  rw[q]at e;have e':(b,o)=p:=hU e;subst e';exact⟨hb,q⟩
theorem Inv.pinned {σ:St}{H:Hp}(I:Inv X pins σ H s)(hf: ∀b∈fp,aX1 X pins H b)(ho: ∀b∈fp,∃o,s.heap.get? b=some o/\ ∀v,o.data≠ .cell v):Inv X (pins++b88 fp s.heap) σ H s:=
 I.pins_of λp hp=>(d4.mp hp).elim (λz=>I.pin p (eU _ z)) λz=>by
  obtain⟨hb,e⟩:=cP0 z;obtain⟨f0,f1,f2,_⟩:=hf p.1 hb;obtain⟨o,e',d⟩:=ho p.1 hb;rw[e]at e';cases e';exact⟨e,f0,f1,f2,d⟩
theorem Inv.unpinned {pl:List (Addr×Obj)}{σ:St}{H:Hp}(I:Inv X (pins++pl) σ H s):Inv X pins σ H s:=I.pins_of λp hp=>I.pin p (eU _<|yZ _ hp)
theorem ps_for {wi:TI}{g:TG}{tb:TS}(hp:PassesOwn (model X.prog X.w) X.A X.env X.xe)(hc:X.calm=true)(hi:PI X tg iter wi)(hg:PG X tg g)(hb:PSs X body tb)
  (hs: ∀x,foldedSetIterable iter X.env x=pure x:=by intro _;rfl):PS X (.For tg iter body [] pos) (tFor wi g tb):=by
 intro pins s σ H D I h;refine wpAny_For (thn (hi pins s σ H _ I h) λv s1 h1=>thn h1 λitv s2 h2=> ?_) hs
 obtain⟨it,fp,tn,J,H2,e,I2,T,st2,f2,W,⟨m0,w0⟩,turn⟩:=h2;subst e;have stat: ∀{H':Hp},(∀b∈fp,H' b=none)-> ∀b∈fp,aX1 X pins H' b:=λhn b hb=>⟨hn b hb,(f2 b hb).2⟩
 refine codeAny_forLoop_any (λn s'=> ∃i σ' H',Inv X pins σ' H' s'/\tn i s'.heap/\(∀b∈fp,H' b=none)/\W i n σ' H') ?_ m0 ⟨0,σ,H2,I2,st2,λb hb=>(f2 b hb).1,w0⟩
 rintro n s3 ⟨i,σ3,H3,I3,st3,fr3,w3⟩;rcases turn i n σ3 H3 w3 with⟨stop,qn⟩| ⟨go,N,hN,step⟩
 .refine nE hp (thn (T.done X rfl rfl rfl hc i pins s3 σ3 H3 X.xe I3 (stat fr3) st3 stop) λr s4 ⟨hr,I4⟩=> ?_)
  subst hr;exact hV ⟨σ3,H3,I4,qn⟩
 .refine nE hp (thn (T.item X rfl rfl rfl hc i pins s3 σ3 H3 X.xe I3 (stat fr3) st3 go) λr s4 ⟨u,hr,h4⟩=> ?_)
  subst hr;refine nE hp (thn h4 λ_ s5 ⟨x,H5,I5,r5,y5,st5,fr5⟩=> ?_)
  have I5':=I5.pinned (stat fr5) (T.obj _ _ st5);refine nE hp (thn (hg _ s5 σ3 H5 x u _ I5' r5<|step x H5 y5) λ_ s6 ⟨σ6,H6,I6,q6⟩=> ?_)
  refine nE hp (thn (hb _ s6 σ6 H6 _ I6 q6) λf s7 q7=> ?_)
  have again: ∀{σ7:St} {H7:Hp},Inv X (pins++b88 fp s5.heap) σ7 H7 s7->N σ7 H7-> ∃m,m<n/\ ∃i σ' H',Inv X pins σ' H' s7/\tn i s7.heap/\(∀b∈fp,H' b=none)/\W i m σ' H':=λ{σ7 H7} I7 n7=>by
   obtain⟨m',hm,w7⟩:=hN σ7 H7 n7;refine⟨m',hm,i+1,σ7,H7,I7.unpinned,T.keep _ _ _ st5 λb hb o e=>(I7.pin (b,o)<|eU _<|eU _<|a03 hb e).1,λb hb=> ?_,w7⟩
   obtain⟨o,e,d⟩:=T.obj _ _ st5 b hb;exact(I7.pin (b,o)<|eU _<|eU _<|a03 hb e).2.1
  cases f with
  | next=>obtain⟨σ7,H7,I7,n7⟩:=q7;exact again I7 n7
  | cont=>obtain⟨σ7,H7,I7,n7⟩:=q7;exact again I7 n7
  | brk=>obtain⟨σ7,H7,I7,q7⟩:=q7;exact⟨σ7,H7,I7.unpinned,q7⟩
  | ret v=>obtain⟨x7,σ7,H7,I7,r7,q7⟩:=q7;exact⟨x7,σ7,H7,I7.unpinned,r7,q7⟩
end
abbrev R2:=V->V->Hp->VK->Prop
def OpR (X:Cx)(f:Value->Value->Sem Value)(r:R2):Prop:=
 ∀(pins:List (Addr×Obj)) (s:Shared) (σ:St) (H:Hp) (x y:V) (v u:Value) (Q:VK),Inv X pins σ H s->RelV x v->RelV y u->r x y H Q->
  X∩(f v u) (EP X pins σ Q) X.xe s
def UnR (X:Cx)(f:Value->Sem Value)(r:V->Hp->VK->Prop):Prop:=
 ∀(pins:List (Addr×Obj)) (s:Shared) (σ:St) (H:Hp) (x:V) (v:Value) (Q:VK),Inv X pins σ H s->RelV x v->r x H Q->
  X∩(f v) (EP X pins σ Q) X.xe s
def sY (X:Cx)(f:Value)(r:List V->Hp->VK->Prop):Prop:=
 ∀(pins:List (Addr×Obj)) (s:Shared) (σ:St) (H:Hp) (xs:List V) (us:List Value) (Q:VK),Inv X pins σ H s->Vals xs us->r xs H Q->
  X∩(call f us) (EP X pins σ Q) X.xe s
def tOp (r:R2)(ta tb:TE):TE:=λσ H Q=>ta σ H λx H1=>tb σ H1 λy H2=>r x y H2 Q
def tUn (r:V->Hp->VK->Prop)(ta:TE):TE:=λσ H Q=>ta σ H λx H1=>r x H1 Q
def rI (C:Int->Int->Prop)(g:Int->Int->V):R2:=λx y H Q=> ∃i j,x= .int i/\y= .int j/\C i j/\Q (g i j) H
def rI0 (g:Int->Int->V):R2:=λx y H Q=> ∃i j,x= .int i/\y= .int j/\Q (g i j) H
def rU (g:Int->V):V->Hp->VK->Prop:=λx H Q=> ∃i,x= .int i/\Q (g i) H
section
variable {X:Cx}{a b c:Expr}{ta tb tc:TE}{pos:Pos}
theorem binT (ha:PE X a ta)(hb:PE X b tb){σ:St}{H:Hp}{R:V->V->Hp->Prop}(I:Inv X pins σ H s)
  (h:ta σ H λx H1=>tb σ H1 λy H2=>R x y H2) {Q:Value->Shared->Prop} {f:Value->Value->Sem Value}
  (hf: ∀v u s2 x y H2,Inv X pins σ H2 s2->RelV x v->RelV y u->R x y H2->X∩(f v u) Q X.xe s2) :
  X∩(eval a X.env) (λv s₁=>X∩(eval b X.env) (λu s₂=>X∩(f v u) Q X.xe s₂) X.xe s₁) X.xe s:=by
 refine thn (ha pins s σ H _ I h) λv s1 ⟨x,H1,I1,r1,q1⟩=> ?_
 refine thn (hb pins s1 σ H1 _ I1 q1) λu s2 ⟨y,H2,I2,r2,q2⟩=> ?_
 exact hf v u s2 x y H2 I2 r1 r2 q2
theorem pe_op {op:Operator}{r:R2}(ho:OpR X (binaryOp op) r)(ha:PE X a ta)(hb:PE X b tb):PE X (.BinOp a op b pos) (tOp r ta tb):=by
 intro pins s σ H Q I h;exact wpAny_BinOp (binT ha hb I h λv u s2 x y H2 I2 rx ry q=>ho pins s2 σ H2 x y v u Q I2 rx ry q)
theorem pe_un {op:UnaryOp}{r:V->Hp->VK->Prop}(ho:UnR X (unaryOp op) r)(ha:PE X a ta):PE X (.UnaryOp op a pos) (tUn r ta):=by
 intro pins s σ H Q I h;exact UnaryOp_ (thn (ha pins s σ H _ I h) λv s1 ⟨x,H1,I1,r1,q1⟩=>ho pins s1 σ H1 x v Q I1 r1 q1)
theorem opI {f:Value->Value->Sem Value}{C:Int->Int->Prop}{g:Int->Int->Int}
  (rule: ∀(i j:Int) (t u:Tok) (s:Shared) (Q:Value->Shared->Prop) (E:Value->Shared->Prop),C i j->Q (.int (g i j) s.toks) {s with toks:=s.toks+1}->X∩(f (.int i t)<|.int j u) Q E s) :
  OpR X f (rI C λi j=> .int (g i j)):=by
 intro pins s σ H x y v u Q I rx ry h;obtain⟨i,j,rfl,rfl,hc,q⟩:=h;obtain⟨t,rfl⟩:=rx;obtain⟨t',rfl⟩:=ry;exact rule i j t t' s _ _ hc ⟨.int<|g i j,H,I.tok _,⟨_,rfl⟩,q⟩
theorem opI0 {f:Value->Value->Sem Value}{g:Int->Int->Int}
  (rule: ∀(i j:Int) (t u:Tok) (s:Shared) (Q:Value->Shared->Prop) (E:Value->Shared->Prop),Q (.int (g i j) s.toks) {s with toks:=s.toks+1}->X∩(f (.int i t)<|.int j u) Q E s) :
  OpR X f (rI0 λi j=> .int (g i j)):=by
 intro pins s σ H x y v u Q I rx ry h;obtain⟨i,j,rfl,rfl,q⟩:=h;obtain⟨t,rfl⟩:=rx;obtain⟨t',rfl⟩:=ry;exact rule i j t t' s _ _ ⟨.int<|g i j,H,I.tok _,⟨_,rfl⟩,q⟩
theorem dB7 {f:Value->Value->Sem Value}{g:Int->Int->Bool}
  (rule: ∀(i j:Int) (t u:Tok) (s:Shared) (Q:Value->Shared->Prop) (E:Value->Shared->Prop),Q (.bool<|g i j) s->X∩(f (.int i t)<|.int j u) Q E s) :
  OpR X f (rI0 λi j=> .bl (g i j)):=by
 intro pins s σ H x y v u Q I rx ry h;obtain⟨i,j,rfl,rfl,q⟩:=h;obtain⟨t,rfl⟩:=rx;obtain⟨t',rfl⟩:=ry;exact rule i j t t' s _ _ ⟨.bl<|g i j,H,I,rfl,q⟩
def dB8 (i j:Int):Prop:=0<=j/\j<=1000000/\i.natAbs<2^64
def cB9 (i j:Int):Prop:=(-(2^64)<i/\i<2^64)\/(-(2^64)<j/\j<2^64)
theorem cB9.ok {i j:Int}(h:cB9 i j):IntMulOk i j:=by
 rcases h with⟨h1,h2⟩| ⟨h1,h2⟩
 .exact .of_left (intBits_le_64 h1 h2)
 .exact .of_right (intBits_le_64 h1 h2)
theorem op_add:OpR X (binaryOp .Add) (rI0 λi j=> .int (i+j)):=opI0 λ_ _ _ _ _ _ _ q=>add_int q
theorem op_sub:OpR X (binaryOp .Sub) (rI0 λi j=> .int (i-j)):=opI0 λ_ _ _ _ _ _ _ q=>sub_int q
theorem dB9:OpR X (binaryOp .Mod) (rI (λ_ j=>j≠0) λi j=> .int (i.fmod j)):=opI λ_ _ _ _ _ _ _ hc q=>mod_int' hc q
theorem op_pow:OpR X (binaryOp .Pow) (rI dB8 λi j=> .int (i^j.toNat)):=opI λ_ _ _ _ _ _ _ hc q=>pow_int_small hc.1 hc.2.1 hc.2.2 q
theorem unI {f:Value->Sem Value}{g:Int->Int}
  (rule: ∀(i:Int) (t:Tok) (s:Shared) (Q:Value->Shared->Prop) (E:Value->Shared->Prop),Q (.int (g i) s.toks) {s with toks:=s.toks+1}->X∩(f<|.int i t) Q E s) :
  UnR X f (rU λi=> .int (g i)):=by
 intro pins s σ H x v Q I rx h;obtain⟨i,rfl,q⟩:=h;obtain⟨t,rfl⟩:=rx;exact rule i t s _ _ ⟨.int<|g i,H,I.tok _,⟨_,rfl⟩,q⟩
theorem un_neg:UnR X (unaryOp .USub) (rU λi=> .int (-i)):=unI λ_ _ _ _ _ q=>neg_int q
end
nonrec def scal:V->V->Bool
 | .non,.non=>true| .non,.int _=>true| .int _,.non=>true| .non,.bl _=>true| .bl _,.non=>true| .non,.str _=>true| .str _,.non=>true
 | .int _,.int _=>true| .bl _,.bl _=>true| .str _,.str _=>true| .byt _,.byt _=>true
 | .int _,.str _=>true| .str _,.int _=>true| .bl _,.str _=>true| .str _,.bl _=>true
 | _,_=>false
nonrec def rEq:R2:=λx y H Q=>scal x y=true/\Q (.bl<|decide (x=y)) H
nonrec def rNe:R2:=λx y H Q=>scal x y=true/\Q (.bl<|!decide (x=y)) H
theorem b61 {i j:Int}:decide (V.int i=V.int j)=(i==j):=by
 rw[zL];simp
theorem bT1 {i j:Bool}:decide (V.bl i=V.bl j)=(i==j):=by
 rw[zL];simp
theorem b62 {i j:Str}:decide (V.str i=V.str j)=(i==j):=by
 rw[zL];simp
theorem cJ1 {i j:Array UInt8}:decide (V.byt i=V.byt j)=(i.toList==j.toList):=by
 rw[zL];cases i;cases j;simp
section
variable {X:Cx}{a b c:Expr}{ta tb tc:TE}{pos:Pos}
theorem eP {σ:St}{H:Hp}{Q:VK}{k k':Bool}(I:Inv X pins σ H s)(q:Q (.bl k) H)(e:k=k'):EP X pins σ Q (.bool k') s:=by
 subst e;exact⟨.bl k,H,I,rfl,q⟩
theorem cW4:OpR X (compareOp .Eq) rEq:=by
 intro pins s σ H x y v u Q I rx ry h;obtain⟨hs,q⟩:=h;cases x with
 | non=>
  cases rx;cases y with
  | non=>cases ry;exact PySem.EqNone.eq_none_none (eP I q ae)
  | bl j=>cases ry;exact PySem.EqNone.eq_none_bool (eP I q ae)
  | int j=>obtain⟨t',rfl⟩:=ry;exact PySem.EqNone.eq_none_int (eP I q ae)
  | str j=>obtain⟨t',rfl⟩:=ry;exact PySem.EqNone.eq_none_str (eP I q ae)
  | _=>exact absurd (show false=true from hs) bH
 | bl i=>
  cases rx;cases y with
  | non=>cases ry;exact PySem.EqNone.eq_bool_none (eP I q ae)
  | bl j=>cases ry;exact eq_bool (eP I q bT1)
  | str j=>obtain⟨t',rfl⟩:=ry;exact PySem.EqMixed.eq_bool_str (eP I q ae)
  | _=>exact absurd (show false=true from hs) bH
 | int i=>
  obtain⟨t,rfl⟩:=rx;cases y with
  | non=>cases ry;exact PySem.EqNone.eq_int_none (eP I q ae)
  | int j=>obtain⟨t',rfl⟩:=ry;exact eq_int (eP I q b61)
  | str j=>obtain⟨t',rfl⟩:=ry;exact PySem.EqMixed.eq_int_str (eP I q ae)
  | _=>exact absurd (show false=true from hs) bH
 | str i=>
  obtain⟨t,rfl⟩:=rx;cases y with
  | non=>cases ry;exact PySem.EqNone.eq_str_none (eP I q ae)
  | bl j=>cases ry;exact PySem.EqMixed.eq_str_bool (eP I q ae)
  | int j=>obtain⟨t',rfl⟩:=ry;exact PySem.EqMixed.eq_str_int (eP I q ae)
  | str j=>obtain⟨t',rfl⟩:=ry;exact eq_str (eP I q b62)
  | _=>exact absurd (show false=true from hs) bH
 | byt i=>
  obtain⟨t,rfl⟩:=rx;cases y with
  | byt j=>obtain⟨t',rfl⟩:=ry;exact PySem.W.eq_bytes (eP I q cJ1)
  | _=>exact absurd (show false=true from hs) bH
 | _=>cases y<;>exact absurd (show false=true from hs) bH
theorem cW5:OpR X (compareOp .NotEq) rNe:=by
 intro pins s σ H x y v u Q I rx ry h;obtain⟨hs,q⟩:=h;cases x with
 | non=>
  cases rx;cases y with
  | non=>cases ry;exact PySem.EqNone.ne_none_none (eP I q ae)
  | bl j=>cases ry;exact PySem.EqNone.ne_none_bool (eP I q ae)
  | int j=>obtain⟨t',rfl⟩:=ry;exact PySem.EqNone.ne_none_int (eP I q ae)
  | str j=>obtain⟨t',rfl⟩:=ry;exact PySem.EqNone.ne_none_str (eP I q ae)
  | _=>exact absurd (show false=true from hs) bH
 | bl i=>
  cases rx;cases y with
  | non=>cases ry;exact PySem.EqNone.ne_bool_none (eP I q ae)
  | bl j=>cases ry;exact ne_bool (eP I q<|dN not bT1)
  | str j=>obtain⟨t',rfl⟩:=ry;exact PySem.EqMixed.ne_bool_str (eP I q ae)
  | _=>exact absurd (show false=true from hs) bH
 | int i=>
  obtain⟨t,rfl⟩:=rx;cases y with
  | non=>cases ry;exact PySem.EqNone.ne_int_none (eP I q ae)
  | int j=>obtain⟨t',rfl⟩:=ry;exact ne_int (eP I q<|dN not b61)
  | str j=>obtain⟨t',rfl⟩:=ry;exact PySem.EqMixed.ne_int_str (eP I q ae)
  | _=>exact absurd (show false=true from hs) bH
 | str i=>
  obtain⟨t,rfl⟩:=rx;cases y with
  | non=>cases ry;exact PySem.EqNone.ne_str_none (eP I q ae)
  | bl j=>cases ry;exact PySem.EqMixed.ne_str_bool (eP I q ae)
  | int j=>obtain⟨t',rfl⟩:=ry;exact PySem.EqMixed.ne_str_int (eP I q ae)
  | str j=>obtain⟨t',rfl⟩:=ry;exact ne_str (eP I q<|dN not b62)
  | _=>exact absurd (show false=true from hs) bH
 | byt i=>
  obtain⟨t,rfl⟩:=rx;cases y with
  | byt j=>obtain⟨t',rfl⟩:=ry;exact PySem.W.ne_bytes (eP I q<|dN not cJ1)
  | _=>exact absurd (show false=true from hs) bH
 | _=>cases y<;>exact absurd (show false=true from hs) bH
theorem op_lt:OpR X (compareOp .Lt) (rI0 λi j=> .bl (decide (i<j))):=dB7 λ_ _ _ _ _ _ _ q=>lt_int q
theorem op_le:OpR X (compareOp .LtE) (rI0 λi j=> .bl (decide (i<=j))):=dB7 λ_ _ _ _ _ _ _ q=>le_int q
theorem op_gt:OpR X (compareOp .Gt) (rI0 λi j=> .bl (decide (j<i))):=dB7 λ_ _ _ _ _ _ _ q=>gt_int q
theorem op_ge:OpR X (compareOp .GtE) (rI0 λi j=> .bl (decide (j<=i))):=dB7 λ_ _ _ _ _ _ _ q=>ge_int q
theorem aX2 (b:Expr)(h:⇑(op≠ .In))(h2:⇑(op≠ .NotIn)):behindInMarks op b=false:=by
 have e1:(op==CmpOp.In)=false:=by cases op<;>first|rfl|exact absurd rfl h
 have e2:(op==CmpOp.NotIn)=false:=by cases op<;>first|rfl|exact absurd rfl h2
 cases b<;>simp[behindInMarks,e1,e2]
theorem dC0 {r:R2}(ho:OpR X (compareOp op) r)(ha:PE X a ta)(hb:PE X b tb)(hm:behindInMarks op b=false):PE X (.Compare a [op] [b] pos) (tOp r ta tb):=by
 intro pins s σ H Q I h;exact wpAny_Compare1 (binT ha hb I h λv u s2 x y H2 I2 rx ry q=>ho pins s2 σ H2 x y v u Q I2 rx ry q) hm
def tTest (t:TE):TT:=λσ H Q=>t σ H λx H'=> ∃k,x= .bl k/\Q k H'
theorem dC1 {r:R2}(ho:OpR X (compareOp op) r)(ha:PE X a ta)(hb:PE X b tb)(hm:behindInMarks op b=false):PT X (.Compare a [op] [b] pos) (tTest<|tOp r ta tb):=by
 intro pins s σ H Q I h;refine wpAny_isTrue_Compare1 (thn (ha pins s σ H _ I h) λv s1 ⟨x,H1,I1,r1,q1⟩=>thn (hb pins s1 σ H1 _ I1 q1) λu s2 ⟨y,H2,I2,r2,q2⟩=>
  thn (ho pins s2 σ H2 x y v u _ I2 r1 r2 q2) λc s3 ⟨z,H3,I3,r3,k,e,q3⟩=> ?_) hm
 subst e;cases r3;exact pQ ⟨H3,I3,q3⟩
theorem aX3:(sizeLine:Nat)<2^63:=by rw[sizeLine_eq];decide
theorem vals1 {x:V}(r:Vals [x] us): ∃u,us=[u]/\RelV x u:=by
 cases r with
 | cons r1 r2=>cases r2;exact⟨_,rfl,r1⟩
theorem vals2 {x y:V}(r:Vals [x,y] us): ∃u w',us=[u,w']/\RelV x u/\RelV y w':=by
 cases r with
 | cons r1 r2=>
  cases r2 with
  | cons r3 r4=>cases r4;exact⟨_,_,rfl,r1,r3⟩
theorem cW6:sY X (.builtin "abs") (λxs H Q=> ∃i,xs=[.int i]/\Q (.int<|if i<0 then -i else i) H):=by
 intro pins s σ H xs us Q I r h;obtain⟨i,rfl,q⟩:=h;obtain⟨u,rfl,t,rfl⟩:=vals1 r;exact call_abs_int λu tk=>⟨.int<|if i<0 then -i else i,H,I.tok _,⟨_,rfl⟩,q⟩
theorem cP1 (hc:X.calm=true):sY X (.builtin "max") (λxs H Q=> ∃i j,xs=[.int i,.int j]/\Q (.int<|if j>i then j else i) H):=by
 intro pins s σ H xs us Q I r h;obtain⟨i,j,rfl,q⟩:=h;obtain⟨u,w',rfl,⟨t,rfl⟩,⟨t',rfl⟩⟩:=vals2 r;refine max_two_ints (I.ok.hd hc) λh' tk k=>⟨_,H,I.kept k,?_,q⟩
 by_cases hj:j>i
 .rw[aA hj,aA hj];exact⟨_,rfl⟩
 .rw[a8 hj,a8 hj];exact⟨_,rfl⟩
theorem cP2 (hc:X.calm=true):sY X (.builtin "min") (λxs H Q=> ∃i j,xs=[.int i,.int j]/\Q (.int<|if j<i then j else i) H):=by
 intro pins s σ H xs us Q I r h;obtain⟨i,j,rfl,q⟩:=h;obtain⟨u,w',rfl,⟨t,rfl⟩,⟨t',rfl⟩⟩:=vals2 r;refine min_two_ints (I.ok.hd hc) λh' tk k=>⟨_,H,I.kept k,?_,q⟩
 by_cases hj:j<i
 .rw[aA hj,aA hj];exact⟨_,rfl⟩
 .rw[a8 hj,a8 hj];exact⟨_,rfl⟩
theorem bN3:sY X (.type "int") (λxs H Q=>(∃i,xs=[.int i]/\Q (.int i) H)\/ ∃k,xs=[.bl k]/\Q (.int<|if k then 1 else 0) H):=by
 intro pins s σ H xs us Q I r h;rcases h with⟨i,rfl,q⟩| ⟨k,rfl,q⟩
 .obtain⟨u,rfl,t,rfl⟩:=vals1 r;exact call_int_int ⟨.int i,H,I,⟨_,rfl⟩,q⟩
 .obtain⟨u,rfl,r1⟩:=vals1 r;cases r1;exact call_int_bool ⟨.int<|if k then 1 else 0,H,I.tok _,⟨_,rfl⟩,q⟩
end
structure cP3 (h:Heap)(x dx C:Addr)(mA:Str->Option Value):Prop where
 obj:h.get? x=some (instObj C dx)
 ns:h.Ns1 dx mA
 ne:dx≠x
theorem cP4 {mA:Str->Option Value}(n:h.Ns1 dx mA): ∃od,h.get? dx=some od/\ ∀name,lookIn name od=some (mA name):=by
 obtain⟨o,es,ep,ho,hd,hk,_,hm⟩:=n;refine⟨o,ho,λname=> ?_⟩
 have e:=hm name;unfold nsFind findBy at e;rw[<-Array.find?_toList]at e;unfold lookIn;rw[hd];right;split
 .rename_i y q
  rw[q]at e;exact dN some e
 .rename_i q
  rw[q]at e;have a:es.toList.any (·.refKey)=false:=by
   rw[List.any_eq_false];intro y hy;obtain⟨z,t,hkey⟩:=hk y (Array.mem_toList_iff.mp hy);simp[DictEntry.refKey,hkey]
  have a': ¬es.toList.any (·.refKey)=true:=by rw[a];exact bH
  rw[a8 a'];exact dN some e
theorem cP3.look {x:Addr}{mA:Str->Option Value}(I:cP3 h x dx C mA): ∃od,InstAt h x (instObj C dx) C (some od)/\ ∀name,lookIn name od=some (mA name):=
 let ⟨od,ho,hl⟩:=cP4 I.ns
 ⟨od,⟨I.obj,rfl,rfl,ho⟩,hl⟩
section
variable {prog:Program}{w:World}{A:Around}{E:Value->Shared->Prop}{s:Shared}{K:PySem.W.Frag}{x dx C f:Addr}{mA:Str->Option Value}{name:Str}{v:Value}
theorem dC2 {expr:Bool}(X:K.In s.heap)(I:cP3 s.heap x dx C mA)(hg:plainGet K C name=true)(hh:hasDictIn K C=true)
  (ha:PySem.W.findIn K (.ref C) name=some none) (hv:mA name=some v) (hv':PySem.W.handedIn v=true) (h:Q v {s with toks:=s.toks+1}) :
  wpAny (model prog w) A (getAttr (.ref x) name expr) Q E s:=by
 obtain⟨od,J,hl⟩:=I.look;exact PySem.W.get_value X J (PySem.W.plainGet_of hg).1 (PySem.W.findObj_own hh ha rfl (by rw[hl,hv])) hv' h
theorem dC3 {ns:List Str}{Q:Unit->Shared->Prop}(X:K.In s.heap)(I:cP3 s.heap x dx C mA)
  (hs:PySem.W.findIn K (.ref C) "__setattr__"=some (some<|.builtin "object.__setattr__")) (hp:plainOver K C=true) (ht:takerIn K C name=some none) (hh:hasDictIn K C=true)
  (hw:PySem.Within mA ns) (hsz:ns.length<=sizeLine)
  (h: ∀h',cP3 h' x dx C (λy=>if y=name then some v else mA y)->SameBut dx s.heap h'->Q () {s with heap:=h',toks:=s.toks+2}) :
  wpAny (model prog w) A (setAttr (.ref x) name v) Q E s:=by
 obtain⟨od,J,hl⟩:=I.look;refine PySem.W.set_plain X J hs (PySem.W.osa_open (s:={s with toks:=s.toks+1}) (r:=none) X J hp ht λb=> ?_)
 obtain⟨cd,hc,hd'⟩:=PySem.W.any_some hh;have hx:s.heap.get? x=some ⟨.ref C,some dx,.plain,#[]⟩:=I.obj;refine a9 (aH<|a9<|a9<|wpAny_loadPart hx<|a9<|PySem.W.Looks.here (s:={s with toks:=s.toks+1}) (aL8 X hc) ?_);rw[hd'];refine aH (a:=some dx) (a9<|aH<|a9 ?_);refine wpAny_nsSet1 (s:={s with toks:=s.toks+1}) I.ns λh' hn2 hs2=> ?_
 obtain⟨oD,esD,epD,hoD,hdD,hcD⟩:=hn2.count (PySem.Within.cons name v hw);refine a9 (wpAny_lookBehind hoD (by rw[hdD];exact pastItsLine_dict (aK hcD (by rw[dC];lia))) ?_)
 exact aH (h _ ⟨(hs2.2 _<|Ne.symm I.ne).trans I.obj,hn2,I.ne⟩ hs2)
theorem c05 {R:Result->Shared->Prop}{vs:List Value}(X:K.In s.heap)(hm:makesIn K C=true)
  (hi:PySem.W.findIn K (.ref C) "__init__"=some (some<|.ref f)) (hf:PySem.W.typeIn K (.ref f)=some (.type "function"))
  (h:codeAny (model prog w) (A.under<|.builtin "type.__call__" ⟨.ref C::vs,kw⟩) (.call (.ref f) ⟨.ref (s.heap.objs.size+1)::vs,kw⟩) (PySem.W.InitBack (s.heap.objs.size+1) R)
   {s with heap:=(s.heap.push emptyDict).push (instObj C s.heap.objs.size)}) :
  codeAny (model prog w) A (.call (.ref C) ⟨vs,kw⟩) R s:=by
 obtain⟨hh,g,d,t,os⟩:=s;exact PySem.W.make_core (PySem.W.makes_of X hm) (PySem.W.looks_findIn X hi) (λself=>PySem.W.bind_fn X self hf) (.inl rfl) h
end
nonrec def vZ (f:Str)(v:V):List (Str×V)->List (Str×V)
 | []=>[(f,v)]
 | (g,x)::r=>if g=f then(g,v)::r else(g,x)::vZ f v r
theorem b16 (f g:Str)(v:V): ∀fs:List (Str×V),(vZ f v fs).lookup g=if g=f then some v else fs.lookup g
 | []=>by
  show List.lookup g [(f,v)]=_
  by_cases h:g=f
  .have hb:(g==f)=true:=eX.mpr h;simp only[List.lookup,hb,aA h]
  .have hb:(g==f)=false:=pK.mpr h;simp only[List.lookup,hb,a8 h]
 | (k,x)::r=>by
  have ih:=b16 f g v r;rw[show vZ f v ((k,x)::r)=(if k=f then(k,v)::r else(k,x)::vZ f v r)from rfl]
  by_cases hk:k=f
  .rw[aA hk]
   by_cases h:g=k
   .have hb:(g==k)=true:=eX.mpr h;simp only[List.lookup,hb,aA<|h.trans hk]
   .have hb:(g==k)=false:=pK.mpr h;simp only[List.lookup,hb,a8 (λe:g=f=>h (e.trans hk.symm))]
  .rw[a8 hk]
   by_cases h:g=k
   .have hb:(g==k)=true:=eX.mpr h;simp only[List.lookup,hb,a8 (λe:g=f=>hk (h.symm.trans e))]
   .have hb:(g==k)=false:=pK.mpr h;simp only[List.lookup,hb];exact ih
theorem aX4 (f:Str)(v:V): ∀fs:List (Str×V),f∈(vZ f v fs).map (·.1)/\ ∀g,g∈fs.map (·.1)->g∈(vZ f v fs).map (·.1)
 | []=>⟨by simp[vZ],λg h=>by simp at h⟩
 | (k,x)::r=>by
  obtain⟨i1,i2⟩:=aX4 f v r;rw[show vZ f v ((k,x)::r)=(if k=f then(k,v)::r else(k,x)::vZ f v r)from rfl]
  by_cases hk:k=f
  .rw[aA hk];subst hk;exact⟨ae,λg h=>by exists h⟩
  .rw[a8 hk];refine⟨?_,λg h=> ?_⟩
   .rw[d5];exact eJ _ i1
   .rw[d5]at h⊢;rcases aZ.mp h with e|e
    .exact aZ.mpr (.inl e)
    .exact eJ _ (i2 g e)
theorem b17 (f:Str)(v:V): ∀fs:List (Str×V),(vZ f v fs).length<=fs.length+1
 | []=>by simp[vZ]
 | (k,x)::r=>by
  have ih:=b17 f v r;rw[show vZ f v ((k,x)::r)=(if k=f then(k,v)::r else(k,x)::vZ f v r)from rfl]
  by_cases hk:k=f
  .rw[aA hk,dC,dC];lia
  .rw[a8 hk,dC,dC];lia
theorem cB6.some_of {v:V}{o:Option Value}(r:cB6 (some v) o): ∃u,o=some u/\RelV v u:=by
 cases o with
 | none=>exact(show False from r).elim
 | some u=>exact⟨u,rfl,r⟩
theorem cP5 {v:V}(r:RelV v u):PySem.W.handedIn u=true:=by
 cases v with
 | non=>cases (show u=Value.none from r);rfl
 | bl b=>cases (show u=Value.bool b from r);rfl
 | int i=>obtain⟨t,e⟩:=(show ∃t,u=Value.int i t from r);cases e;rfl
 | str x=>obtain⟨t,e⟩:=(show ∃t,u=Value.str x t from r);cases e;rfl
 | byt b=>obtain⟨t,e⟩:=(show ∃t,u=Value.bytes b t from r);cases e;rfl
 | flt b=>obtain⟨t,e⟩:=(show ∃t,u=Value.float b t from r);cases e;rfl
 | ref a=>cases (show u=Value.ref a from r);rfl
 | ty n=>cases (show u=Value.type n from r);rfl
section
variable {P:Program}{w:World}{H H':Hp}{h h':Heap}{a C dx:Addr}{fs fs':List (Str×V)}
theorem cJ2 (hok:HOk P w H h)(e:H a=some (.ins C dx fs)): ∃mA,cP3 h a dx C mA/\(∀f,cB6 (fs.lookup f)<|mA f)/\PySem.Within mA (fs.map (·.1))/\fs.length<=1000/\H dx=some (.own a):=by
 obtain⟨d,z,ne,ob,mA,n,r,q⟩:=(show rL P w H h a (.ins C dx fs)from hok a _ e)
 exact⟨mA,⟨ob,n,ne⟩,r,q,z,d⟩
end
structure Cls (K:PySem.W.Frag)(C:Addr):Prop where
 pg:plainGet K C Str.empty=true
 hd:hasDictIn K C=true
 po:plainOver K C=true
 sa:PySem.W.findIn K (.ref C) "__setattr__"=some (some<|.builtin "object.__setattr__")
theorem Cls.get (c:Cls K C)(f:Str):plainGet K C f=true:=c.pg
def a77 (K:PySem.W.Frag)(C:Addr)(f:Str):Prop:=PySem.W.findIn K (.ref C) f=some none
theorem a77.taker {f:Str}(n:a77 K C f):takerIn K C f=some none:=by
 unfold takerIn;rw[show PySem.W.findIn K (.ref C) f=some none from n]
 rfl
section
variable {X:Cx}{pins:List (Addr×Obj)}{σ:St}{H:Hp}{s:Shared}{a C dx:Addr}{fs:List (Str×V)}{f:Str}{v:V}{A:Around}{E:Value->Shared->Prop}
theorem cC0 {b:Bool}(I:Inv X pins σ H s)(e:H a=some (.ins C dx fs))(c:Cls X.K C)(n:a77 X.K C f)(l:fs.lookup f=some v)
  (h: ∀u s',Inv X pins σ H s'->RelV v u->Q u s'):wpAny (model X.prog X.w) A (getAttr (.ref a) f b) Q E s:=by
 obtain⟨mA,O,r,_,_,_⟩:=cJ2 I.hok e;obtain⟨u,hu,ru⟩:=cB6.some_of (v:=v) (o:=mA f) (by rw[<-l];exact r f)
 exact dC2 I.kIn O (c.get f) c.hd n hu (cP5 ru) (h u _ (I.tok _) ru)
theorem cC1 {y:V}{Q:Unit->Shared->Prop}(I:Inv X pins σ H s)(e:H a=some (.ins C dx fs))(c:Cls X.K C)(n:a77 X.K C f)(hl:fs.length<1000)(ry:RelV y u)
  (h: ∀s',Inv X pins σ (upd H a<|.ins C dx<|vZ f y fs) s'->Q () s'):wpAny (model X.prog X.w) A (setAttr (.ref a) f u) Q E s:=by
 obtain⟨mA,O,r,wi,_,ho⟩:=cJ2 I.hok e;have hz:(fs.map (·.1)).length<=sizeLine:=by rw[aJ,sizeLine_eq];lia
 refine dC3 I.kIn O c.sa c.po n.taker c.hd wi hz λh' O' sb=>h _ ?_
 have hd: ∃o,h'.get? dx=some o:=let ⟨o,_,_,e',_⟩:=O'.ns;⟨o,e'⟩;refine I.write (x:=a) (e:=dx) (by rw[e];exact True.intro) (.inr ho) (λb q hb z=>(sb.2 b hb).trans z) hd ?_
 refine⟨by rw[cD O.ne];exact ho,?_,O.ne,O'.obj,_,O'.ns,λg=> ?_,λg hg=> ?_⟩
 .have:=b17 f y fs;lia
 .show cB6 ((vZ f y fs).lookup g) (if g=f then some u else mA g)
  rw[b16]
  by_cases q:g=f
  .rw[aA q,aA q];exact ry
  .rw[a8 q,a8 q];exact r g
 .by_cases q:g=f
  .rw[q];exact(aX4 f y fs).1
  .refine(aX4 f y fs).2 g (wi g λz=>hg ?_)
   show(if g=f then some u else mA g)=none
   rw[a8 q];exact z
theorem Inv.made (I:Inv X pins σ H s):Inv X pins σ (upd (upd H s.heap.objs.size<|.own<|s.heap.objs.size+1) (s.heap.objs.size+1)<|.ins C s.heap.objs.size [])
  {s with heap:=(s.heap.push emptyDict).push (instObj C s.heap.objs.size)}:=by
 have e1:(s.heap.push emptyDict).get? s.heap.objs.size=some emptyDict:=bZ s.heap rfl;have e2:((s.heap.push emptyDict).push<|instObj C s.heap.objs.size).get? (s.heap.objs.size+1)=some (instObj C s.heap.objs.size):=by
  have:=bZ (s.heap.push emptyDict) (o:=instObj C s.heap.objs.size) rfl
  rwa [iU]at this
 have e3:(s.heap.push emptyDict).Ns s.heap.objs.size (λ_=>none):=⟨emptyDict,#[],_,e1,rfl,(λe he=>absurd he ae),λ_=>rfl⟩
 have I1:=I.laid (a:=s.heap.objs.size) (o:= .own (s.heap.objs.size+1)) (h':=s.heap.push emptyDict) (t':=s.toks) (λb u q=>aT _ q) (aG _) ⟨_,e1⟩
 refine I1.laid (a:=s.heap.objs.size+1) (o:= .ins C s.heap.objs.size []) (t':=s.toks) (λb u q=>aT _ q) (le_of_eq<|iU _ _) ?_
 have ne:s.heap.objs.size≠s.heap.objs.size+1:=bI (pT _);refine⟨by rw[cD ne,iJ],eW _,ne,e2,λ_=>none,(Heap.Ns1.of_empty e3).at λo q=>aT _ q,λ_=>True.intro,λy hy=>absurd rfl hy⟩
theorem dC4 {prog:Program}{env:Env}{f:Str}{s:Shared}(hb:attributeBase e f env (eval e env)=eval e env)
  (h:wpAny (model prog w) A (eval e env) (λo s₁=>wpAny (model prog w) A (getAttr o f true) Q E s₁) E s):wpAny (model prog w) A (eval (.Attribute e f pos) env) Q E s:=
 Attribute_any_ h (by rw[arm_eval_Attribute,hb])
end
def tFld (K:PySem.W.Frag)(ta:TE)(f:Str):TE:=λσ H Q=>ta σ H λx H1=> ∃a C dx fs v,x= .ref a/\H1 a=some (.ins C dx fs)/\Cls K C/\a77 K C f/\fs.lookup f=some v/\Q v H1
def cW7 (K:PySem.W.Frag)(ta tv:TE)(f:Str):TS:=λD σ H=>tv σ H λy H1=>ta σ H1 λx H2=> ∃a C dx fs,x= .ref a/\H2 a=some (.ins C dx fs)/\Cls K C/\a77 K C f/\fs.length<1000/\
 D.nx σ (upd H2 a<|.ins C dx<|vZ f y fs)
section
variable {X:Cx}{o e value:Expr}{f:Str}{pos pos' tpos:Pos}{ta tv:TE}
theorem pe_fld (he:PE X e ta)(hb:attributeBase e f X.env (eval e X.env)=eval e X.env):PE X (.Attribute e f pos) (tFld X.K ta f):=by
 intro pins s σ H Q I h;refine dC4 hb (thn (he pins s σ H _ I h) λu s1 zz=> ?_)
 obtain⟨x,H1,I1,rx,a,C,dx,fs,v,ex,ea,c,n,l,q⟩:=zz;subst ex;obtain rfl:u=Value.ref a:=rx;exact cC0 I1 ea c n l λu' s2 I2 ru=>⟨v,H1,I2,ru,q⟩
theorem cC2 (ha:PE X o ta)(hv:PE X value tv)(hs:swapsWith value (some<|.Attribute o f pos') pos.line X.env=pure false):PS X (.Assign [.Attribute o f pos'] value pos) (cW7 X.K ta tv f):=by
 intro pins s σ H D I h;refine aJ3 (thn (hv pins s σ H _ I h) λu s1 ⟨y,H1,I1,ry,q⟩=>thn (ha pins s1 σ H1 _ I1 q) λov s2 zz=> ?_) hs
 obtain⟨x,H2,I2,rx,a,C,dx,fs,ex,ea,c,n,l,q2⟩:=zz;subst ex;obtain rfl:ov=Value.ref a:=rx;exact cC1 I2 ea c n l ry λs3 I3=>⟨σ,_,I3,q2⟩
end
structure fG (k:Nat)(A:Around):Prop where
 hd:A.handled=none
 dp:A.depth+3*k+5<recursionLimit
 un:A.units+16*k+200<cLine
theorem fG.mono (r:fG k A)(h:j<=k):fG j A:=⟨r.hd,by have:=r.dp;lia,by have:=r.un;lia⟩
theorem fG.deeper (r:fG (k+1) A)(env:Env):fG k (A.deeper env):=
 ⟨r.hd,by have:=r.dp;show A.depth+1+3*k+5<_;lia,by have:=r.un;show A.units+3+16*k+200<_;lia⟩
theorem cC3 :(A.under<|.builtin "type.__call__" ⟨.ref C::us,kw⟩).depth=A.depth+1:=by
 first|rfl|simp[Around.under,Code.weight,Code.isCreation,Code.isGuard,Code.isCaller,Code.frames,Code.isFrame,guardIds]
theorem cC4 :(A.under<|.builtin "type.__call__" ⟨.ref C::us,kw⟩).units=A.units+1:=by
 first|rfl|simp[Around.under,Code.cUnits,Code.frames,Code.isFrame]
theorem fG.make (r:fG (k+1) A)(C:Addr)(us:List Value)(kw:List (Str×Value)):fG k (A.under<|.builtin "type.__call__" ⟨.ref C::us,kw⟩):=
 ⟨r.hd,by have:=r.dp;rw[cC3];omega,by have:=r.un;rw[cC4];omega⟩
theorem fG.depth (r:fG k A):A.depth<recursionLimit:=by have:=r.dp;lia
theorem fG.units (r:fG k A):A.units+64<cLine:=by have:=r.un;lia
def tNil:TA:=λ_ H Q=>Q [] H
def tCons (ta:TE)(tr:TA):TA:=λσ H Q=>ta σ H λx H1=>tr σ H1 λxs H2=>Q (x::xs) H2
section
variable {X:Cx}{e:Expr}{es:List Expr}{te:TE}{t:TA}{pos:Pos}
theorem cC5:PA X [] tNil:=λ_ _ _ _ H Q I h=>Calls.spliced_nil ⟨[],H,I,.nil,h⟩
theorem bT2 (ha:PE X e te)(hr:PA X es t)(hs:↥(starEach (e::es) X.env=(false,eval e X.env)::starEach es X.env)):PA X (e::es) (tCons te t):=by
 intro pos pins s σ H Q I h;rw[hs];show wpAny _ _ (spliced ((false,eval e X.env)::backTo pos (starEach es X.env))) _ _ s;refine Calls.spliced_cons (thn (ha pins s σ H _ I h) λu s1 ⟨x,H1,I1,r1,q1⟩=> ?_)
 exact thn (hr pos pins s1 σ H1 _ I1 q1) λus s2 ⟨xs,H2,I2,r2,q2⟩=>⟨x::xs,H2,I2,.cons r1 r2,q2⟩
def tTup (t:TA):TE:=λσ H Q=>t σ H λxs H1=>xs.length<=sizeLine/\ ∀p,H1 p=none->Q (.ref p) (upd H1 p<|.tup xs)
def tLst (t:TA):TE:=λσ H Q=>t σ H λxs H1=>xs.length<=sizeLine/\ ∀p,H1 p=none->Q (.ref p) (upd H1 p<|.lst xs)
theorem pe_tup {x1}(h:PA X es t):PE X (.Tuple es x1 pos) (tTup t):=by
 intro pins s σ H Q I hq;refine wpAny_Tuple_spliced (thn (h pos pins s σ H _ I hq) λus s1 ⟨xs,H1,I1,r,z,q⟩=>⟨by rw[<-r.length];exact z,?_⟩)
 have hf:H1 s1.heap.objs.size=none:=I1.hok.fresh (aG _);refine⟨.ref s1.heap.objs.size,upd H1 s1.heap.objs.size<|.tup xs,I1.laid (t':=s1.toks) (λb u e=>aT _ e) (aG _) ?_,rfl,q _ hf⟩
 exact⟨z,us,r,⟨_,bZ _ rfl,rfl,_,rfl⟩⟩
theorem pe_lst (h:PA X es t):PE X (.List es pos) (tLst t):=by
 intro pins s σ H Q I hq;refine wpAny_List_spliced (thn (h pos pins s σ H _ I hq) λus s1 ⟨xs,H1,I1,r,z,q⟩=>⟨by rw[<-r.length];exact z,?_⟩)
 have hf:H1 s1.heap.objs.size=none:=I1.hok.fresh (aG _);refine⟨.ref s1.heap.objs.size,upd H1 s1.heap.objs.size<|.lst xs,I1.laid (t':=s1.toks) (λb u e=>aT _ e) (aG _) ?_,rfl,q _ hf⟩
 exact⟨z,us,0,r,bZ _ rfl⟩
end
abbrev Sp:=List V->Hp->VK->XK->Prop
abbrev CXT:=List Env->Hp->Shared->XK->Value->Shared->Prop
structure cC6 (P:Program)(w:World)(K:PySem.W.Frag)(mg:Str->Option Value)(base:Heap)(A:Around)(outer:List Env)(s:Shared)(H:Hp):Prop where
 frames:A.frames=some outer
 mod:Mod K mg base
 bs: ∀b o,base.get? b=some o->s.heap.get? b=some o/\H b=none
 bsz:base.objs.size<=s.heap.objs.size
 funs:s.heap.FunFrames base outer
 frf: ∀b∈frs outer,H b=none
 hok:HOk P w H s.heap
 bare:AllBare s.gens
def CE (outer:List Env)(P:Program)(w:World)(H:Hp)(s:Shared)(Q:VK)(u:Value)(s':Shared):Prop:=
 ∃v H',s'.os=s.os/\AllBare s'.gens/\Un (frs outer) [] H H' s.heap s'.heap/\HOk P w H' s'.heap/\RelV v u/\Q v H'
def CR (CX:CXT)(outer:List Env)(P:Program)(w:World)(H:Hp)(s:Shared)(Q:VK)(E:XK)(r:Result)(s':Shared):Prop:=
 match r with
 | .ok (.ret u)=>CE outer P w H s Q u s'
 | .ok _=>False
 | .error e=>CX outer H s E e s'
structure sF (P:Program)(w:World)(K:PySem.W.Frag)(mg:Str->Option Value)(base:Heap)(CX:CXT)(k:Nat)(f:Addr)(fd:FuncData)(ps:List Str)(sp:Sp):Prop where
 len: ∀vs H Q E,sp vs H Q E->vs.length=ps.length
 run: ∀(A:Around) (outer:List Env) (s:Shared) (H:Hp) (args:Args) (us:List Value) (vs:List V) (Q:VK) (E:XK),fG k A->cC6 P w K mg base A outer s H->BindsTo s fd args (ps.zip us)->Vals vs us->sp vs H Q E->
  codeAny (model P w) A (.call (.ref f) args) (CR CX outer P w H s Q E) s
theorem sF.mono {CX:CXT}{ps:List Str}{sp:Sp}(F:sF<$>CX j f fd ps sp)(h:j<=k) :
  sF P w K mg base CX k f fd ps sp:=⟨F.len,λA outer s H args us vs Q E hr=>F.run A outer s H args us vs Q E (hr.mono h)⟩
theorem cC6.make {H:Hp}(e:cC6<$>A outer s H)(C:Addr)(us:List Value)(kw:List (Str×Value)) :
  cC6 P w K mg base (A.under<|.builtin "type.__call__" ⟨.ref C::us,kw⟩) outer s H:=⟨by first|exact e.frames| (simpa[Around.under,Code.envs,Code.isFrame,pushEnvs]using e.frames),e.mod,e.bs,e.bsz,e.funs,e.frf,e.hok,e.bare⟩
section
variable {X:Cx}{pins:List (Addr×Obj)}{σ:St}{H:Hp}{s s':Shared}
theorem Inv.env0 (I:Inv X pins σ H s):cC6 X.prog X.w X.K X.mg X.base X.A X.stack s H:=
 ⟨I.ok.frames,I.ok.mod,I.bs,aK I.ok.bsz I.sz,I.stack,I.stkFree,I.hok,I.bare⟩
theorem Inv.after {Q:VK}(I:Inv X pins σ H s)(h:CE X.stack X.prog X.w H s Q u s'):EP X pins σ Q u s':=by
 obtain⟨v,H',os,bare,un,hok,r,q⟩:=h;obtain⟨hh,g,d,t,os'⟩:=s';obtain rfl:os'=s.os:=os;exact⟨v,H',I.call (h':=hh) (g':=g) (d':=d) (t':=t) (ch:=[]) un hok bare λb z=>absurd z ae,r,q⟩
end
def cJ3 (sp:Sp)(dvs:List V)(E:XK)(t:TA):TE:=λσ H Q=>t σ H λvs H1=>sp (vs++dvs) H1 Q E
def cJ4 (C:Addr)(sp:Sp)(dvs:List V)(E:XK)(t:TA):TE:=λσ H Q=>t σ H λvs H1=> ∀x dx,H1 x=none->H1 dx=none->dx≠x->
 sp (.ref x::(vs++dvs)) (upd (upd H1 dx<|.own x) x<|.ins C dx []) (λv H2=>v= .non/\Q (.ref x) H2) E
def Binds (K:PySem.W.Frag)(fd:FuncData)(ps:List Str)(ds:List Value):Prop:=
 ∀(s:Shared) (us:List Value),K.In s.heap->(us++ds).length=ps.length->BindsTo s fd ⟨us,[]⟩ (ps.zip<|us++ds)
theorem Binds.all {ps:List Str}(h: ∀us:List Value,us.length=ps.length->bindArgs fd ⟨us,[]⟩=pure (ps.zip us)):Binds K fd ps []:=λs us _ hl=>by
 rw[iT]at hl⊢;exact .of_eq (h us hl)
def uL (CX:CXT)(X:Cx)(E:XK):Prop:= ∀(pins:List (Addr×Obj)) (σ:St) (H:Hp) (s:Shared) (e:Value) (s':Shared),Inv X pins σ H s->CX X.stack H s E e s'->X.xe e s'
section
variable {X:Cx}{CX:CXT}{k:Nat}{f C:Addr}{fd:FuncData}{ps:List Str}{sp:Sp}{dvs:List V}{ds:List Value}{E:XK}{x m:Str}{p pos apos:Pos}{e o:Expr}{es:List Expr}{ta:TE}{t:TA}
theorem cW8 {pins:List (Addr×Obj)}{σ:St}{H:Hp}{s:Shared}{Q:VK}{us:List Value}{vs:List V}(F:sF X.prog X.w X.K X.mg X.base CX k f fd ps sp)(hr:fG k X.A)(hb:Binds X.K fd ps ds)(hd:Vals dvs ds)(hx:uL CX X E)
  (I:Inv X pins σ H s) (r:Vals vs us) (h:sp (vs++dvs) H Q E):X∩(call (.ref f) us) (EP X pins σ Q) X.xe s:=by
 have r2:Vals (vs++dvs) (us++ds):=r.append hd;have hl:(us++ds).length=ps.length:=by rw[<-r2.length];exact F.len _ _ _ _ h
 refine nP (pZ (F.run X.A X.stack s H ⟨us,[]⟩ (us++ds) (vs++dvs) Q E hr I.env0 (hb s us I.kIn hl) r2 h) λr s' hq=> ?_)
 cases r with
 | error e=>exact hx pins σ H s e s' I hq
 | ok fl=>
  cases fl with
  | ret u=>exact I.after hq
  | next=>exact False.elim hq
  | brk=>exact False.elim hq
  | cont=>exact False.elim hq
theorem b63 (F:sF X.prog X.w X.K X.mg X.base CX k f fd ps sp)(hr:fG k X.A)(hg:Gl X x)(hm:X.mg x=some (.ref f))(hk:keepIn X.K (.ref f)=true)(hb:Binds X.K fd ps ds)(hd:Vals dvs ds)(hx:uL CX X E)
  (ha:PA X (e::es) t) (hdb:⇑(x∪0)) (he:↥(starEach (e::es) X.env=(false,eval e X.env)::starEach es X.env)) (hpl:↥((backTo pos<|starEach es X.env).any (·.1)=false)) :
  PE X (.Call (.Name x p) (e::es) [] pos) (cJ3 sp dvs E t):=by
 intro pins s σ H Q I h;refine mZ (rG I hg hm ?_ hdb);refine zE (h₀:=X.base) I.ok.mod.kin hk (thn (ha pos pins s σ H _ I h) λus s1 ⟨vs,H1,I1,r,q⟩=>⟨I1.kIn,?_⟩) he hpl
 exact cW8 F hr hb hd hx I1 r q
theorem cW9 (F:sF X.prog X.w X.K X.mg X.base CX k f fd ps sp)(hr:fG k X.A)(hg:Gl X x)(hm:X.mg x=some (.ref f))(hk:keepIn X.K (.ref f)=true)(hb:Binds X.K fd ps ds)(hd:Vals dvs ds)(hx:uL CX X E)
  (hdb:⇑(x∪0)):PE X (.Call (.Name x p) [] [] pos) (cJ3 sp dvs E tNil):=by
 intro pins s σ H Q I h;refine mZ (rG I hg hm ?_ hdb);exact PySem.W.callWith_K0 I.kIn hk (cW8 (us:=[]) F hr hb hd hx I .nil h)
structure Mk (K:PySem.W.Frag)(C f:Addr):Prop where
 makes:makesIn K C=true
 init:PySem.W.findIn K (.ref C) "__init__"=some (some<|.ref f)
 fn:PySem.W.isFn K (.ref f)=true
 kp:keepIn K (.ref C)=true
theorem cX0 {pins:List (Addr×Obj)}{σ:St}{H:Hp}{s:Shared}{Q:VK}{us:List Value}{vs:List V}(M:Mk X.K C f)(F:sF X.prog X.w X.K X.mg X.base CX k f fd ps sp)(hr:fG (k+1) X.A)(hb:Binds X.K fd ps ds)(hd:Vals dvs ds)
  (hx:uL CX X E) (I:Inv X pins σ H s) (r:Vals vs us)
  (h: ∀x dx,H x=none->H dx=none->dx≠x->sp (.ref x::(vs++dvs)) (upd (upd H dx<|.own x) x<|.ins C dx []) (λv H2=>v= .non/\Q (.ref x) H2) E) :
  X∩(call (.ref C) us) (EP X pins σ Q) X.xe s:=by
 have hq:=h (s.heap.objs.size+1) s.heap.objs.size (I.hok.fresh<|uF _) (I.hok.fresh<|aG _) (bI<|pT _);have I2:=Inv.made (C:=C) I;have r2:Vals (V.ref (s.heap.objs.size+1)::(vs++dvs)) (Value.ref (s.heap.objs.size+1)::(us++ds)):= .cons rfl (r.append hd);have hl:(Value.ref (s.heap.objs.size+1)::us++ds).length=ps.length:=by
  have e:=r2.length;rw[F.len _ _ _ _ hq]at e;exact e.symm
 refine nP (c05 (f:=f) I.kIn M.makes M.init (eX.mp M.fn) (pZ (F.run _ X.stack _ _ ⟨Value.ref (s.heap.objs.size+1)::us,[]⟩ (Value.ref (s.heap.objs.size+1)::(us++ds)) _ _ E (hr.make C us [])
  (I2.env0.make C us []) (hb _ (Value.ref (s.heap.objs.size+1)::us) I2.kIn hl) r2 hq) λr s' hq'=> ?_))
 cases r with
 | error e=>exact hx pins σ _ _ e s' I2 hq'
 | ok fl=>
  cases fl with
  | ret u=>
   obtain⟨v,H',I3,rv,ev,q3⟩:=I2.after hq';subst ev;exact⟨rv,⟨V.ref<|s.heap.objs.size+1,H',I3,rfl,q3⟩⟩
  | next=>exact False.elim hq'
  | brk=>exact False.elim hq'
  | cont=>exact False.elim hq'
theorem dC5 (M:Mk X.K C f)(F:sF X.prog X.w X.K X.mg X.base CX k f fd ps sp)(hr:fG (k+1) X.A)(hg:Gl X x)(hm:X.mg x=some (.ref C))(hb:Binds X.K fd ps ds)(hd:Vals dvs ds)(hx:uL CX X E)
  (ha:PA X (e::es) t) (hdb:⇑(x∪0)) (he:↥(starEach (e::es) X.env=(false,eval e X.env)::starEach es X.env)) (hpl:↥((backTo pos<|starEach es X.env).any (·.1)=false)) :
  PE X (.Call (.Name x p) (e::es) [] pos) (cJ4 C sp dvs E t):=by
 intro pins s σ H Q I h;refine mZ (rG I hg hm ?_ hdb);refine zE (h₀:=X.base) I.ok.mod.kin M.kp (thn (ha pos pins s σ H _ I h) λus s1 ⟨vs,H1,I1,r,q⟩=>⟨I1.kIn,?_⟩) he hpl
 exact cX0 M F hr hb hd hx I1 r q
end
section
variable {X:Cx}{CX:CXT}{k:Nat}{f C:Addr}{fd:FuncData}{ps ks:List Str}{sp:Sp}{E:XK}{x m:Str}{p pos apos kpos:Pos}{e o:Expr}{es:List Expr}{kws:List Keyword}{te ta:TE}{t tk:TA}{nm:Option Str}
variable {g:List Value->List Value->List Value}{gV:List V->List V->List V}
end
structure aY (N P:List Str)(sc:Scope):Prop where
 kind:sc.kind= .function
 co:sc.isCoroutine=false
 gen:sc.isGenerator=false
 nd:N.Nodup
 pre:N.take P.length=P
 par: ∀x∈P,sc.names.lookup x=some .local\/sc.names.lookup x=some .cell
 nofree: ∀y∈sc.names,y.2≠ .free
theorem bN4 {kindOf:Str->Option NameKind}{x:Str}: ∀{binds:List (Str×Value)} {m:Str->Option Value},(∀v,(x,v) ∉ binds)->bindL kindOf binds m x=m x
 | [],_,_=>rfl
 | (n,v)::r,m,h=>by
  unfold bindL;rw[bN4 λw hw=>h w (eJ _ hw)]
  split
  .have:x≠n:=by rintro rfl;exact h v hJ
   simp[this]
  .rfl
theorem bN5 {kindOf:Str->Option NameKind}{x:Str}: ∀{binds:List (Str×Value)} {m:Str->Option Value},(∀v,(x,v) ∉ binds)->bindC kindOf binds m x=m x
 | [],_,_=>rfl
 | (n,v)::r,m,h=>by
  unfold bindC;rw[bN5 λw hw=>h w (eJ _ hw)]
  split
  .rfl
  .have:x≠n:=by rintro rfl;exact h v hJ
   simp[this]
theorem bN6 {kindOf:Str->Option NameKind}{x:Str}{v:Value}: ∀{P:List Str} {vs:List Value} {i:Nat} {m:Str->Option Value},P.Nodup->P[i]? =some x->vs[i]? =some v->kindOf x=some .local->
  bindL kindOf (P.zip vs) m x=some v
 | [],_,_,_,_,h,_,_=>by simp at h
 | _::_,[],_,_,_,_,h,_=>by simp at h
 | p::P,w::vs,0,m,nd,h1,h2,hk=>by
  simp at h1 h2;subst h1;subst h2
  show bindL kindOf ((p,w)::P.zip vs) m p=_
  unfold bindL;rw[bN4 λv hv=>(zM.mp nd).1 (zN hv).1,aA hk]
  simp
 | p::P,w::vs,i+1,m,nd,h1,h2,hk=>by
  show bindL kindOf ((p,w)::P.zip vs) m x=_
  unfold bindL;exact bN6 (i:=i) (zM.mp nd).2 (by exists h1) (by exists h2) hk
theorem bN7 {kindOf:Str->Option NameKind}{x:Str}{v:Value}: ∀{P:List Str} {vs:List Value} {i:Nat} {m:Str->Option Value},P.Nodup->P[i]? =some x->vs[i]? =some v->kindOf x≠some .local->
  bindC kindOf (P.zip vs) m x=some v
 | [],_,_,_,_,h,_,_=>by simp at h
 | _::_,[],_,_,_,_,h,_=>by simp at h
 | p::P,w::vs,0,m,nd,h1,h2,hk=>by
  simp at h1 h2;subst h1;subst h2
  show bindC kindOf ((p,w)::P.zip vs) m p=_
  unfold bindC;rw[bN5 λv hv=>(zM.mp nd).1 (zN hv).1,a8 hk]
  simp
 | p::P,w::vs,i+1,m,nd,h1,h2,hk=>by
  show bindC kindOf ((p,w)::P.zip vs) m x=_
  unfold bindC;exact bN7 (i:=i) (zM.mp nd).2 (by exists h1) (by exists h2) hk
nonrec def start (N:List Str)(vs:List V):St:=vs.map some++replicate (N.length-vs.length) none
nonrec def qE (CX:CXT)(P:Program)(w:World)(K:PySem.W.Frag)(mg:Str->Option Value)(base:Heap)(N:List Str)(qual:Str)(scope:Scope)(f:Addr)(cd:Value)(A:Around)(outer:List Env)(s:Shared)(H:Hp)(E:XK):Cx where
 prog:=P
 w:=w
 K:=K
 mg:=mg
 base:=base
 A:=A.deeper (envOfC qual scope s.heap.objs.size f cd)
 N:=N
 s₀:=s
 H₀:=H
 env:=envOfC qual scope s.heap.objs.size f cd
 outer:=outer
 stack:=envOfC qual scope s.heap.objs.size f cd::outer
 ex:=[]
 calm:=true
 fn:=λ_=>true
 pn:=[]
 xe:=λe s'=>wpAny (model P w) (A.deeper<|envOfC qual scope s.heap.objs.size f cd) (leaving (envOfC qual scope s.heap.objs.size f cd) e) (λ_ s''=>CX outer H s E e s'') (λe' s''=>CX outer H s E e' s'') s'
theorem c06 {sc:Scope}(h:sc.names.lookup x=some .cell): ∃c,(cellsFrom n sc.names []).lookup x=some c:=by
 have q:=aK3 sc.names n [] (.inl h);exact yV.mp q
theorem bN8 {CX:CXT}{ps:List Str}{cd:Value}{s1:Shared}{H:Hp}{E:XK}{vs:List V}
  (S:aY N ps scope) (hd:A.handled=none) (e0:cC6<$>A outer s H) (hl:vs.length=ps.length) (r:Vals vs us)
  (x:InCallC s s.heap.objs.size (bindL (envOfC qual scope s.heap.objs.size f cd).kindOf (ps.zip us) λ_=>none) (cellsFrom (s.heap.objs.size+1) scope.names []) (bindC (envOfC qual scope s.heap.objs.size f cd).kindOf (ps.zip us) λ_=>none) s1) :
  Inv (qE CX P w K mg base N qual scope f cd A outer s H E) [] (start N vs) H s1:=by
 have hpl:ps.length<=N.length:=by have:=dN length S.pre;rw[zJ]at this;lia
 obtain⟨h1,tk,rfl,hk⟩:=x.done;have noA: ∀b:Addr,b ∉ (qE CX P w K mg base N qual scope f cd A outer s H E).ex:=λb z=>absurd (show b∈([]:List Addr)from z) ae
 refine⟨⟨e0.mod,S.kind,rfl,rfl,aG _,λy z c h1 h2=> ?_,λy hy=> ?_,λy c _ h=> ?_,λ_=>hd,Around.frames_deeper e0.frames,.inr ⟨rfl,rfl⟩,λb z=>absurd z (noA b),e0.bs,e0.bsz,λb _ _=>noA b,λb z=>absurd z (noA b),e0.funs,e0.frf⟩,
  rfl,e0.bare,Un.kept hk,⟨_,x.toInCall.ns,λi y v h1 h2 h3=> ?_⟩,λy c h=>⟨_,x.cell y c h⟩,e0.hok.fresh<|aG _,λy c h=> ?_,λp hp=>absurd (show p∈([]:List (Addr×Obj))from hp) ae,e0.hok.kept hk,?_⟩
 .exact name_of_addr x.apart (pL h1) (pL h2)
 .have hy:scope.names.lookup y=some .cell\/scope.names.lookup y=some .free:=hy;rcases hy with hy|hy
  .exact c06 hy
  .exact absurd rfl (S.nofree _<|pL hy)
 .exact nM (x.above y c<|pL h)
 .have hi:i<vs.length:=by
   unfold start at h2
   by_cases hi:i<vs.length
   .exact hi
   .rw[gZ<|by simpa using hi]at h2
    rw[tZ]at h2;split at h2<;>cases h2
  have ha:vs[i]? =some v:=by
   unfold start at h2;rw[hG<|by simpa using hi,bP]at h2
   cases e:vs[i]? with
   | none=>rw[e]at h2;cases h2
   | some a=>rw[e]at h2;cases h2;rfl
  obtain⟨u,hu,rv⟩:=r.get ha;have hp:ps[i]? =some y:=by
   rw[<-S.pre,List.getElem?_take_of_lt ad];exact h1
  have ndP:ps.Nodup:=by rw[<-S.pre];exact S.nd.sublist (List.take_sublist _ _)
  refine⟨u,rv,?_⟩
  rcases S.par y (aL0 hp)with k|k
  .exact .inl ⟨k,bN6 ndP hp hu k⟩
  .obtain⟨c,e⟩:=c06 (n:=s.heap.objs.size+1) k;refine .inr ⟨.inl k,c,e,?_⟩;have q:=x.cell y c e;rw[bN7 ndP hp hu (by show scope.names.lookup y≠_;rw[k];decide)]at q
   exact q
 .exact e0.hok.fresh (nM<|x.above y c<|pL h)
 .unfold start;show _=N.length;rw[bO,aJ,kI]
  lia
theorem cX1 {CX:CXT}{P:Program}{w:World}{K:PySem.W.Frag}{mg:Str->Option Value}{base:Heap}{k:Nat}{f:Addr}{name qual:Str}{params:Arguments}{body:List Stmt}{scope:Scope}{dV kV doc pm cdv ct oc:Value}{an od:Option Addr}
  {osl:Array (Option Value)} {N ps:List Str} {sp:Sp} (lk:K.lookup f=some ⟨oc,od,.func<|fnOf name qual params body scope dV kV doc pm an cdv ct,osl⟩) (hcd:codeIn K cdv qual=true) (S:aY N ps scope)
  (len: ∀vs H Q E,sp vs H Q E->vs.length=ps.length)
  (hbody: ∀(A:Around) (outer:List Env) (s:Shared) (H:Hp) (vs:List V) (Q:VK) (E:XK),fG k (A.deeper<|envOfC qual scope s.heap.objs.size f cdv)->sp vs H Q E->
   ∃t,PSs (qE CX P w K mg base N qual scope f cdv A outer s H E) body t/\t {nx:=λ_ H'=>Q .non H',rt:=Q} (start N vs) H) :
  sF P w K mg base CX (k+1) f (fnOf name qual params body scope dV kV doc pm an cdv ct) ps sp:=by
 refine⟨len,λA outer s H args us vs Q E hr e0 hb r hsp=> ?_⟩
 have hl:=len _ _ _ _ hsp;have KX:K.In s.heap:=e0.mod.kin.keeps λb o e=>(e0.bs b o e).1
 have lim:s.heap.NoLimit:=e0.mod.nolimit.keeps λb o e=>(e0.bs b o e).1
 have hkind: ∀y∈ps.zip us,scope.names.lookup y.1=some .local\/(scope.names.lookup y.1=some .cell/\((cellsFrom (s.heap.objs.size+1) scope.names []).lookup y.1).isSome=true):=λ⟨n,v⟩ hy=>by
  rcases S.par n (zN hy).1 with q|q
  .exact .inl q
  .exact .inr ⟨q,aK3 _ _ _<|.inl q⟩
 refine codeAny_call_function hr.depth (KX _ _ lk) rfl S.co S.gen rfl (PySem.W.codeRec_of KX hcd) (hb _ _ _ _ ?_)
 refine wpAny_newFunctionEnv_cells S.kind hkind λenv he s1 x=> ?_
 subst he;refine⟨lim.keeps x.toInCall.keep,codeAny_func ?_⟩;obtain⟨t,ht,hq⟩:=hbody A outer s H vs Q E (hr.deeper _) hsp;have I:Inv (qE CX P w K mg base N qual scope f cdv A outer s H E) [] (start N vs) H s1:=bN8 S hr.hd e0 hl r x;refine bG (ht [] s1 (start N vs) H _ I hq) (λfl s' hs=> ?_) λe s' hs=>hs
 have fin: ∀{σ':St} {H':Hp} {v:V} {u:Value},Inv (qE CX P w K mg base N qual scope f cdv A outer s H E) [] σ' H' s'->RelV v u->Q v H'->CE outer P w H s Q u s':=
  λ{σ' H' v u} J rv q=>⟨v,H',J.os,J.bare,J.base,J.hok,rv,q⟩
 cases fl with
 | ret u=>
  obtain⟨v,σ',H',J,rv,q⟩:=hs;exact fin J rv q
 | next=>
  obtain⟨σ',H',J,q⟩:=hs;exact fin (v:=V.non) (u:=Value.none) J rfl q
 | brk=>
  obtain⟨_,_,_,q⟩:=hs;exact False.elim q
 | cont=>
  obtain⟨_,_,_,q⟩:=hs;exact False.elim q
section
variable {X:Cx}{x:Str}{p pos:Pos}{e:Expr}{es:List Expr}{t:TA}{id T:String}{r:List V->Hp->VK->Prop}
def tCB (r:List V->Hp->VK->Prop)(t:TA):TE:=λσ H Q=>t σ H λvs H1=>r vs H1 Q
theorem c07 (hc:sY X (.builtin id) r)(hg:Gl X x)(hm:X.mg x=none)(hv:bootBuiltins x=some (.builtin id))(ha:PA X (e::es) t)(hn:⇑(x≠"__name__"))(hdb:⇑(x∪0))
  (he:↥(starEach (e::es) X.env=(false,eval e X.env)::starEach es X.env)) (hpl:↥((backTo pos<|starEach es X.env).any (·.1)=false)):PE X (.Call (.Name x p) (e::es) [] pos) (tCB r t):=by
 intro pins s σ H Q I h;refine mZ (uK I hg hm hv ?_ hn hdb);exact PyProof.Rows.callWith_builtin1 (thn (ha pos pins s σ H _ I h) λus s1 ⟨vs,H1,I1,r1,q1⟩=>hc pins s1 σ H1 vs us Q I1 r1 q1) he hpl
theorem cP6 (hc:sY X (.type T) r)(hg:Gl X x)(hm:X.mg x=none)(hv:bootBuiltins x=some (.type T))(ha:PA X (e::es) t)(hn:⇑(x≠"__name__"))(hdb:⇑(x∪0))
  (he:↥(starEach (e::es) X.env=(false,eval e X.env)::starEach es X.env)) (hpl:↥((backTo pos<|starEach es X.env).any (·.1)=false)):PE X (.Call (.Name x p) (e::es) [] pos) (tCB r t):=by
 intro pins s σ H Q I h;refine mZ (uK I hg hm hv ?_ hn hdb);exact jJ (thn (ha pos pins s σ H _ I h) λus s1 ⟨vs,H1,I1,r1,q1⟩=>hc pins s1 σ H1 vs us Q I1 r1 q1) he hpl
end
end L2
namespace HT
open PySem PyProof.Rows
section
open PySem.SeqAt
open PySem.AutoSeq1 (wpAny_loadPart')
open PySem.MeetsSeq PySem.MeetsSeq2 PySem.MeetsSeq3
end
section
variable {prog:Program}{w:World}{A:Around}{E:Value->Shared->Prop}{s:Shared}
theorem cat_tup {vs ws:List Value}(ht:IsTup s.heap t vs.toArray)(hb:IsTup s.heap b ws.toArray)(hv:vs≠[])
  (h1:ws=[]->Q (.ref t) s) (h2:ws≠[]->Q (.ref s.heap.objs.size) {s with heap:=s.heap.push {cls:= .type "tuple",data:= .seq (vs++ws).toArray}})
  (hsz:vs.length+ws.length<=sizeLine):wpAny (model prog w) A (binaryOp .Add (.ref t)<|.ref b) Q E s:=by
 obtain⟨⟨cls,dd,data,sl⟩,ho,hc,n,hd⟩:=id ht;obtain⟨⟨cls2,dd2,data2,sl2⟩,ho2,hc2,n2,hd2⟩:=id hb;simp only at hc hd hc2 hd2;subst hc hd hc2 hd2;have e:vs.toArray++ws.toArray=(vs++ws).toArray:=ae
 by_cases hw:ws=[]
 .exact concat_meets ⟨_,ho,rfl⟩ ⟨_,ho2,rfl⟩ aN0 seq_tuple_add aK4 aJ9 (aJ5 _ _)
   (tuple_addW1 t b vs.toArray ws.toArray n n2 dd dd2 sl sl2 (by exists hv)<|by simp[hw]) ⟨ho,ho2,h1 hw⟩
 .refine concat_meets ⟨_,ho,rfl⟩ ⟨_,ho2,rfl⟩ aN0 seq_tuple_add aK4 aJ9 (aJ5 _ _)
   (tuple_addW2 t b vs.toArray ws.toArray n n2 dd dd2 sl sl2 (by exists hv) (by exists hw) (by rw[bD,bD];exact hsz)) ⟨ho,ho2,?_⟩
  rw[e];exact h2 hw
nonrec def sIx (n d:Nat):Option Int->Nat
 | none=>d
 | some v=>if v<0 then(v+(n:Int)).toNat else min v.toNat n
theorem sIx_none (n d:Nat):sIx n d none=d:=rfl
theorem sIx_nat (n d k:Nat):sIx n d (some (k:Int))=min k n:=by
 show(if(k:Int)<0 then((k:Int)+(n:Int)).toNat else min (k:Int).toNat n)=min k n
 rw[a8 ad,bW]
theorem sIx_le (n d:Nat)(hd:d<=n)(o:Option Int):sIx n d o<=n:=by
 cases o with
 | none=>exact hd
 | some v=>
  show(if v<0 then(v+(n:Int)).toNat else min v.toNat n)<=n
  by_cases hv:v<0
  .rw[aA hv];lia
  .rw[a8 hv];exact Nat.min_le_right _ _
theorem cJ5 (v:Int)(n d:Nat):(if v<0 then max (v+(n:Int)) 0 else min v (n:Int))=((sIx n d (some v):Nat):Int):=by
 show(if v<0 then max (v+(n:Int)) 0 else min v (n:Int))=(((if v<0 then(v+(n:Int)).toNat else min v.toNat n):Nat):Int)
 by_cases hv:v<0
 .simp only[aA hv];lia
 .simp only[a8 hv];lia
theorem cC7 (lo hi:Option Int)(n:Nat):Builtin.Slice.sliceAdjust lo hi 1 (n:Int)=(((sIx n 0 lo:Nat):Int),((sIx n n hi:Nat):Int)):=by
 have h1: ¬((1:Int)<0):=ad
 unfold Builtin.Slice.sliceAdjust;simp only[h1,qD];refine Prod.ext ?_ ?_
 .cases lo with
  | none=>rfl
  | some v=>exact cJ5 v n 0
 .cases hi with
  | none=>rfl
  | some v=>exact cJ5 v n n
theorem cC8 (i j:Nat):Builtin.Slice.slicePlaces (i:Int) (j:Int) 1=j-i:=by
 unfold Builtin.Slice.slicePlaces;have h1:(1:Int)>0:=ad
 simp only[h1,hX,Int.ediv_one];split<;>lia
theorem b89 {o:Option Int}{Q:Option Int->Shared->Prop}(p:IsPart v o)(h:Q o s):wpAny (model prog w) A (Builtin.Slice.slicePartIndex v) Q E s:=by
 cases p with
 | none=>exact slicePart_none h
 | int i t=>exact slicePart_int h
theorem xW {lo:Option Int}{Q:Int×Int×Nat->Shared->Prop}(hs:s.heap.IsSliceOf sl vl vu .none)(pl:IsPart vl lo)(pu:IsPart vu hi)
  (h:Q (((sIx n 0 lo:Nat):Int),1,sIx n n hi-sIx n 0 lo) s):wpAny (model prog w) A (Builtin.Slice.sliceApplied (.ref sl)<|pure (n:Int)) Q E s:=by
 obtain⟨os,hos,hcs,hds⟩:=id hs;unfold Builtin.Slice.sliceApplied Builtin.Slice.sliceFields;refine a9 (a9<|cP hos hds (x:=vl) rfl (a9<|cP hos hds (x:=vu) rfl (a9<|cP hos hds (x:= .none) rfl (aH ?_))));refine a9 (slicePart_none ?_);show wpAny _ _ (if((1:Int)==0)=true then _ else _) _ _ s;rw[a8 ac]
 refine a9 (b89 pl<|a9<|b89 pu<|a9<|aH ?_)
 show wpAny _ _ (match Builtin.Slice.sliceAdjust lo hi 1 (n:Int)with| (lo,hi)=>pure (lo,(1:Int),Builtin.Slice.slicePlaces lo hi 1)) _ _ s
 rw[cC7 lo hi n];show wpAny _ _ (pure (((sIx n 0 lo:Nat):Int),(1:Int),Builtin.Slice.slicePlaces ((sIx n 0 lo:Nat):Int) ((sIx n n hi:Nat):Int) 1)) _ _ s;rw[cC8];exact aH h
theorem cX2 (xs:Array Value)(i k:Nat):((List.range k).filterMap fun(m:Nat)=>xs[((i:Int)+(m:Int)*1).toNat]?).toArray=((xs.toList.drop i).take k).toArray:=by
 have e:(fun(m:Nat)=>xs[((i:Int)+(m:Int)*1).toNat]?)=λm=>xs[i+m]? :=by
  funext m
  have:((i:Int)+(m:Int)*1).toNat=i+m:=ad
  rw[this]
 rw[e];have:=pick_run xs i k;rw[List.filterMap_map]at this;have e2:((λx=>xs[x]?)∘λx=>i+x)=λm=>xs[i+m]? :=rfl
 rw[e2]at this;rw[this]
theorem getItem_tuple_cut {lo:Option Int}(ht:IsTup s.heap t items)(hs:s.heap.IsSliceOf sl vl vu .none)(pl:IsPart vl lo)(pu:IsPart vu hi)
  (hw: ¬(sIx items.size 0 lo=0/\sIx items.size items.size hi=items.size))
  (h:Q (.ref s.heap.objs.size) {s with heap:=s.heap.push {cls:= .type "tuple",data:= .seq ((items.toList.drop<|sIx items.size 0 lo).take<|sIx items.size items.size hi-sIx items.size 0 lo).toArray}})
  (hsz:items.size<=sizeLine):wpAny (model prog w) A (getItem (.ref t)<|.ref sl) Q E s:=by
 have htake:sizeOk (.seq ((items.toList.drop<|sIx items.size 0 lo).take<|sIx items.size items.size hi-sIx items.size 0 lo).toArray):=by
  show((items.toList.drop<|sIx items.size 0 lo).take<|sIx items.size items.size hi-sIx items.size 0 lo).toArray.size<=sizeLine
  rw[bD,zJ,zK,aL7];omega
 have hj:sIx items.size items.size hi<=items.size:=sIx_le _ _ (aG _) hi;obtain⟨os,hos,hcs,hds⟩:=id hs;have hTs:s.TypeIs (.ref sl) "slice":=⟨os,hos,hcs⟩;unfold getItem;try with_reducible refine gH ?_
 first|refine a9 (aH ?_)|skip
 refine a9 (wpAny_sequenceKey ht.typeIs ac ?_)
 refine a9 (kH (name:=Str.ofString "__getitem__") ht.typeIs yS
  (iS yS ht.typeIs entry_tuple_getitem ?_<|args_tuple_getitem _ _))
 show wpAny _ _ (Builtin.Tuple.tupleItemsOf (.ref t) >>= _) _ _ s
 refine a9 (tupleItemsOf_ ht ?_)
 refine a9 (zW hTs ?_)
 rw[aA ac]
 refine a9 (xW hs pl pu ?_)
 have hno: ¬((((sIx items.size 0 lo:Nat):Int)==0&&(1:Int)==1&&(sIx items.size items.size hi-sIx items.size 0 lo)==items.size)=true):=by
  intro q;rw[cZ,cZ]at q;have q1:((sIx items.size 0 lo:Nat):Int)=0:=eq_of_beq q.1.1;have q2:sIx items.size items.size hi-sIx items.size 0 lo=items.size:=eq_of_beq q.2;exact hw ⟨aa,aa⟩
 show wpAny _ _ (if(((sIx items.size 0 lo:Nat):Int)==0&&(1:Int)==1&&(sIx items.size items.size hi-sIx items.size 0 lo)==items.size)=true then _ else _) _ _ s
 rw[a8 hno,cX2]
 first
  | exact a9 (m:=Builtin.Tuple.tupleExact _) (iR (aH ⟨_,rfl,aH h⟩) htake)
  | exact a9 (m:=Builtin.Tuple.tupleExact _) (iR (a9<|aH<|aH ⟨_,rfl,aH h⟩) htake)
  | exact a9 (a9 (m:=Builtin.Tuple.tupleExact _)<|iR (aH<|aH ⟨_,rfl,aH h⟩) htake)
  | exact a9 (a9 (m:=Builtin.Tuple.tupleExact _)<|iR (aH ⟨_,rfl,aH h⟩) htake)
end
end HT
namespace L2
abbrev TO:=St->Hp->(Option Int->Hp->Prop)->Prop
def PO (X:Cx)(e:Option Expr)(t:TO):Prop:=
 ∀(pins:List (Addr×Obj)) (s:Shared) (σ:St) (H:Hp) (Q:Option Int->Hp->Prop),Inv X pins σ H s->t σ H Q->
  X∩(evalPart e X.env) (λu s'=> ∃o H',Inv X pins σ H' s'/\IsPart u o/\Q o H') X.xe s
def dC6:TO:=λ_ H Q=>Q none H
def tPart (t:TE):TO:=λσ H Q=>t σ H λx H1=> ∃i,x= .int i/\Q (some i) H1
theorem intsAre_of {ns:List Int}: ∀{us:List Value},Vals (ns.map V.int) us->IntsAre us ns:=by
 induction ns with
 | nil=>intro us r;rw[jQ]at r;cases r;exact .nil
 | cons n ns ih=>
  intro us r;rw[d5]at r;cases r with
  | cons r1 r2=>
   obtain⟨t,e⟩:=r1;subst e;exact .cons n t (ih r2)
section
variable {X:Cx}{e:Expr}{te:TE}{lo hi:Option Expr}{tl th:TO}{pos p2:Pos}
theorem dC7:PO X none dC6:=by
 intro pins s σ H Q I h;rw[evalPart_none];exact aH ⟨none,H,I,.none,h⟩
theorem dC8 (h:PE X e te):PO X (some e) (tPart te):=by
 intro pins s σ H Q I hw;rw[evalPart_some];refine thn (h pins s σ H _ I hw) λu s1 ⟨x,H1,I1,r1,q1⟩=> ?_
 obtain⟨i,rfl,q⟩:=q1;obtain⟨t,rfl⟩:=r1;exact⟨some i,H1,I1,.int i t,q⟩
def SlR (X:Cx)(r:V->Option Int->Option Int->Hp->VK->Prop):Prop:=
 ∀(pins:List (Addr×Obj)) (s:Shared) (σ:St) (H:Hp) (x:V) (v vl vu:Value) (lo hi:Option Int) (sl:Addr) (Q:VK),Inv X pins σ H s->RelV x v->s.heap.IsSliceOf sl vl vu .none->IsPart vl lo->IsPart vu hi->r x lo hi H Q->
  ∃T id,typeLookup (.type T) "__getitem__"=pure (some<|.builtin id)/\s.TypeIs v T/\X∩(getItem v<|.ref sl) (EP X pins σ Q) X.xe s
theorem SlR.or {r r':V->Option Int->Option Int->Hp->VK->Prop}(h:SlR X r)(h':SlR X r'):SlR X (λx lo hi H Q=>r x lo hi H Q\/r' x lo hi H Q):=by
 intro pins s σ H x v vl vu lo hi sl Q I rx hs pl pu q;rcases q with q|q
 .exact h pins s σ H x v vl vu lo hi sl Q I rx hs pl pu q
 .exact h' pins s σ H x v vl vu lo hi sl Q I rx hs pl pu q
def tSl (r:V->Option Int->Option Int->Hp->VK->Prop)(te:TE)(tl th:TO):TE:=λσ H Q=>te σ H λx H1=>tl σ H1 λl H2=>th σ H2 λu H3=>r x l u H3 Q
theorem c08 {r:V->Option Int->Option Int->Hp->VK->Prop}(hr:SlR X r)(he:PE X e te)(hl:PO X lo tl)(hu:PO X hi th):PE X (.Subscript e (.Slice lo hi none p2) pos) (tSl r te tl th):=by
 intro pins s σ H Q I h;refine Subscript_ (thn (he pins s σ H _ I h) λv s1 ⟨x,H1,I1,r1,q1⟩=> ?_)
 refine wpAny_Slice (thn (hl pins s1 σ H1 _ I1 q1) λvl s2 ⟨l,H2,I2,pl,q2⟩=>thn (hu pins s2 σ H2 _ I2 q2) λvu s3 ⟨u,H3,I3,pu,q3⟩=> ?_)
 rw[evalPart_none];refine aH ?_;have I4:Inv X pins σ H3 {s3 with heap:=s3.heap.push {cls:= .type "slice",data:= .fields #[vl,vu,.none]}}:=I3.kept (t':=s3.toks) λb ob q=>aT _ q
 obtain⟨T,id,hT,ht,hg⟩:=hr pins {s3 with heap:=s3.heap.push {cls:= .type "slice",data:= .fields #[vl,vu,.none]}} σ H3 x v vl vu l u s3.heap.objs.size Q I4 r1 (Heap.IsSliceOf.new ..) pl pu q3;show X∩(subscriptTail e (.Slice lo hi none p2) v<|.ref s3.heap.objs.size) (EP X pins σ Q) X.xe {s3 with heap:=s3.heap.push {cls:= .type "slice",data:= .fields #[vl,vu,.none]}}
 exact tail_any (ops:=[.ref s3.heap.objs.size,v]) ht hT hg (by with_unfolding_all rfl)
nonrec def c09 (xs:List V)(lo hi:Option Int):List V:=(xs.drop<|HT.sIx xs.length 0 lo).take (HT.sIx xs.length xs.length hi-HT.sIx xs.length 0 lo)
theorem b18 (xs:List V)(lo hi:Option Int):(c09 xs lo hi).length<=xs.length:=by
 unfold c09;rw[zJ,zK]
 lia
nonrec def rSlT (K:PySem.W.Frag):V->Option Int->Option Int->Hp->VK->Prop:=λx lo hi H Q=> ∃a xs,x= .ref a/\SqT K H a xs/\
 ¬(HT.sIx xs.length 0 lo=0/\HT.sIx xs.length xs.length hi=xs.length)/\ ∀p,H p=none->Q (.ref p) (upd H p<|.tup<|c09 xs lo hi)
theorem cX3:SlR X (rSlT X.K):=by
 intro pins s σ H x v vl vu lo hi sl Q I rx hs pl pu h;obtain⟨a,xs,rfl,hx,hw,q⟩:=h;cases rx;obtain⟨its,r,ht,hz⟩:=I.tuple hx;have hlen:its.toArray.size=xs.length:=by rw[bD];exact r.length.symm
 refine⟨"tuple",_,PyProof.Rows.slot_tuple_getitem.lookup,ht.typeIs,?_⟩
 refine HT.getItem_tuple_cut ht hs pl pu (by rw[hlen];exact hw) ?_ (by rw[hlen];exact hz)
 rw[hlen];refine⟨.ref s.heap.objs.size,_,I.laid (t':=s.toks) (o:= .tup (c09 xs lo hi)) (λb ob q=>aT _ q) (aG _) ?_,rfl,q _<|I.hok.fresh<|aG _⟩
 exact⟨aK (b18 xs lo hi) hz,_,(r.drop<|HT.sIx xs.length 0 lo).take<|HT.sIx xs.length xs.length hi-HT.sIx xs.length 0 lo,qC _ _⟩
nonrec def rCatT (K:PySem.W.Frag):R2:=λx y H Q=> ∃a b xs ys,x= .ref a/\y= .ref b/\SqT K H a xs/\SqT K H b ys/\xs≠[]/\xs.length+ys.length<=sizeLine/\
 (ys=[]->Q (.ref a) H)/\(ys≠[]-> ∀p,H p=none->Q (.ref p) (upd H p<|.tup<|xs++ys))
theorem Vals.nil_iff {xs:List V}(r:Vals xs us):us=[]↔xs=[]:=by
 cases r with
 | nil=>simp
 | cons _ _=>simp
theorem dC9:OpR X (binaryOp .Add) (rCatT X.K):=by
 intro pins s σ H x y v u Q I rx ry h;obtain⟨a,b,xs,ys,rfl,rfl,ha,hb,hx,hz,q1,q2⟩:=h;cases rx;cases ry;obtain⟨its,r1,p1,_⟩:=I.tuple ha;obtain⟨its2,r2,p2,_⟩:=I.tuple hb;refine HT.cat_tup p1 p2 (λz=>hx (r1.nil_iff.mp z)) (λz=>⟨.ref a,H,I,rfl,q1<|r2.nil_iff.mp z⟩) (λz=> ?_) (by rw[<-r1.length,<-r2.length];exact hz)
 refine⟨.ref s.heap.objs.size,_,I.laid (t':=s.toks) (o:= .tup (xs++ys)) (λb ob q=>aT _ q) (aG _) ?_,rfl,q2 (λw=>z (r2.nil_iff.mpr w)) _<|I.hok.fresh<|aG _⟩
 exact⟨by rw[bO];exact hz,_,r1.append r2,qC _ _⟩
end
nonrec def ixN (n:Nat)(i:Int):Option Nat:=if 0<=i then(if i<n then some i.toNat else none)else if -(n:Int)<=i then some (i+n).toNat else none
nonrec def atI {α:Type}(xs:List α)(i:Int):Option α:=(ixN xs.length i).bind λj=>xs[j]?
theorem cJ6 {i:Int}(h:ixN n i=some j):seqIndex? i n=some j/\j<n/\ -(n:Int)<=i/\i<n:=by
 unfold ixN at h
 by_cases h0:0<=i
 .rw[aA h0]at h
  by_cases h1:i<n
  .rw[aA h1]at h;have e:i.toNat=j:=hU h;exact⟨by rw[a02 h0 h1,e],ad,ad,h1⟩
  .rw[a8 h1]at h;cases h
 .rw[a8 h0]at h
  by_cases h1: -(n:Int)<=i
  .rw[aA h1]at h;have e:(i+n).toNat=j:=hU h;exact⟨by rw[zX ad h1,e],ad,h1,ad⟩
  .rw[a8 h1]at h;cases h
theorem b64 {α:Type}{xs:List α}{i:Int}{v:α}(h:atI xs i=some v): ∃j,seqIndex? i xs.length=some j/\xs[j]? =some v/\j<xs.length/\ -(xs.length:Int)<=i/\i<xs.length:=by
 unfold atI at h;cases e:ixN xs.length i with
 | none=>rw[e]at h;cases h
 | some j=>
  rw[e]at h;obtain⟨h1,h2,h3,h4⟩:=cJ6 e;exact⟨j,h1,h,h2,h3,h4⟩
theorem cB {α:Type}{xs:List α}{v:α}(h:xs[j]? =some v):atI xs (j:Int)=some v:=by
 have hj:j<xs.length:=(jK.mp h).1;have e:ixN xs.length (j:Int)=some j:=by
  unfold ixN;rw[aA ad,aA ad];simp
 unfold atI;rw[e];exact h
theorem cX4 {α:Type}(xs:List α)(v:α):atI (xs++[v]) (-1)=some v:=by
 have hl:(xs++[v]).length=xs.length+1:=ae
 have e:ixN (xs++[v]).length (-1)=some xs.length:=by
  unfold ixN;rw[hl,a8 ac,aA ad]
  congr 1
  lia
 unfold atI;rw[e];show(xs++[v])[xs.length]? =some v;simp
def b65 (b:Expr):Prop:= ∀o i,subscripted b false o i=operate [o,i] (getItem o i)
def IxR (X:Cx)(r:R2):Prop:=
 ∀(value slice:Expr) (pins:List (Addr×Obj)) (s:Shared) (σ:St) (H:Hp) (x y:V) (v u:Value) (Q:VK),Inv X pins σ H s->RelV x v->RelV y u->r x y H Q->
  subscripted slice false v u=operate [v,u] (getItem v u)->X∩(subscriptTail value slice v u) (EP X pins σ Q) X.xe s
def MtR (X:Cx)(id:String)(r:V->List V->Hp->VK->Prop):Prop:=
 ∀(pins:List (Addr×Obj)) (s:Shared) (σ:St) (H:Hp) (x:V) (xs:List V) (v:Value) (us:List Value) (Q:VK),Inv X pins σ H s->RelV x v->Vals xs us->r x xs H Q->
  X∩(call (.builtin id) (v::us)) (EP X pins σ Q) X.xe s
section
variable {X:Cx}{a b:Expr}{ta tb:TE}{pos:Pos}
theorem IxR.or {r r':R2}(h:IxR X r)(h':IxR X r'):IxR X (λx y H Q=>r x y H Q\/r' x y H Q):=by
 intro value slice pins s σ H x y v u Q I rx ry q hs;rcases q with q|q
 .exact h value slice pins s σ H x y v u Q I rx ry q hs
 .exact h' value slice pins s σ H x y v u Q I rx ry q hs
theorem pe_ix {r:R2}(hr:IxR X r)(ha:PE X a ta)(hb:PE X b tb)(hs:b65 b):PE X (.Subscript a b pos) (tOp r ta tb):=by
 intro pins s σ H Q I h;exact Subscript_ (binT ha hb I h λv u s2 x y H2 I2 rx ry q=>hr a b pins s2 σ H2 x y v u Q I2 rx ry q (hs _ _))
nonrec def rIxL (K:PySem.W.Frag):R2:=λx y H Q=> ∃p xs i v,x= .ref p/\y= .int i/\SqL K H p xs/\atI xs i=some v/\Q v H
nonrec def rIxT (K:PySem.W.Frag):R2:=λx y H Q=> ∃p xs i v,x= .ref p/\y= .int i/\SqT K H p xs/\atI xs i=some v/\Q v H
nonrec def rIxS:R2:=λx y H Q=> ∃z i c,x= .str z/\y= .int i/\z.length<=sizeLine/\atI z.cps.toList i=some c/\Q (.str ⟨#[c]⟩) H
theorem dD0:IxR X (rIxL X.K):=by
 intro value slice pins s σ H x y v u Q I rx ry h hs;obtain⟨p,xs,i,z,rfl,rfl,hq,he,q⟩:=h;cases rx;obtain⟨t,rfl⟩:=ry;obtain⟨its,r,pl,hz⟩:=I.list hq;obtain⟨j,h1,h2,h3,h4,h5⟩:=b64 he;obtain⟨w,ew,rw'⟩:=r.get h2;have hl:=r.length;have hn:=aX3;have fin:EP X pins σ Q w s:=⟨z,H,I,rw',q⟩
 by_cases h0:0<=i
 .have hj:i.toNat=j:=by
   rw[a02 h0 h5]at h1;exact hU h1
  exact item_listR pl.isList h0 ad (by rw[hj];exists ew) fin hs
 .have hj:(i+(its.toArray.size:Int)).toNat=j:=by
   rw[zX ad h4]at h1
   rw[bD,<-hl];exact hU h1
  exact subscriptTail_builtinR (x:=w) pl.isList.typeIs slot_list_getitem.lookup
   (wpAny_getItem_list_neg (Q:=λr s'=>r=w/\EP X pins σ Q r s') pl.isList ad (by rw[bD]<;>lia) ad (by rw[hj];exists ew) ⟨rfl,fin⟩) hs
theorem ix_tup:IxR X (rIxT X.K):=by
 intro value slice pins s σ H x y v u Q I rx ry h hs;obtain⟨p,xs,i,z,rfl,rfl,hq,he,q⟩:=h;cases rx;obtain⟨t,rfl⟩:=ry;obtain⟨its,r,pl,hz⟩:=I.tuple hq;obtain⟨j,h1,h2,h3,h4,h5⟩:=b64 he;obtain⟨w,ew,rw'⟩:=r.get h2;have hl:=r.length;have hn:=aX3;have fin:EP X pins σ Q w s:=⟨z,H,I,rw',q⟩;exact subscriptTail_builtinR (x:=w) pl.typeIs slot_tuple_getitem.lookup
  (getItem_tuple (j:=j) (Q:=λr s'=>r=w/\EP X pins σ Q r s') pl ad ad (by rw[bD,<-hl];exact h1) (by exists ew) ⟨rfl,fin⟩) hs
theorem ix_str:IxR X rIxS:=by
 intro value slice pins s σ H x y v u Q I rx ry h hs;obtain⟨z,i,c,rfl,rfl,hz,he,q⟩:=h;obtain⟨t,rfl⟩:=rx;obtain⟨t',rfl⟩:=ry;obtain⟨j,h1,h2,h3,h4,h5⟩:=b64 he;have hl:z.cps.toList.length=z.length:=by simp[Str.length]
 rw[hl]at h1 h4 h5;have hn:=aX3;exact tail_any (typeIs_str s z t) slot_str_getitem.lookup (getItem_str (c:=c) (by
  have e1:decide (i< -(2^63:Int))=false:=fM ad
  have e2:decide (i≥2^63)=false:=fM ad
  rw[e1,e2,Bool.or_false]) (by rw[h1];exists h2) ⟨.str ⟨#[c]⟩,H,I.tok _,⟨_,rfl⟩,q⟩) hs
nonrec def rIx (K:PySem.W.Frag):R2:=λx y H Q=>rIxL K x y H Q\/rIxT K x y H Q\/rIxS x y H Q
theorem ix_seq:IxR X (rIx X.K):=dD0.or (ix_tup.or ix_str)
theorem cC9 (its:List Value)(n j:Nat)(u:Value):Obj.mapSeq (·.setIfInBounds j u) {cls:= .type "list",data:= .seq its.toArray n}={cls:= .type "list",data:= .seq (its.set j u).toArray n}:=by
 simp[Obj.mapSeq]
theorem Inv.lst {σ:St}{H:Hp}{p:Addr}{xs:List V}(I:Inv X pins σ H s)(h:H p=some (.lst xs)) :
  ∃(its:List Value) (n:Nat),Vals xs its/\s.heap.get? p=some {cls:= .type "list",data:= .seq its.toArray n}/\xs.length<=sizeLine:=by
 obtain⟨z,its,n,r,e⟩:=I.hok p _ h;exact⟨its,n,r,e,z⟩
theorem Inv.lstUpd {σ:St}{H:Hp}{p:Addr}{xs ys:List V}{its':List Value}{n':Nat}{f:Obj->Obj}(I:Inv X pins σ H s)(h:H p=some (.lst xs))
  (ho:s.heap.get? p=some {cls:= .type "list",data:= .seq its.toArray n}) (hf:f {cls:= .type "list",data:= .seq its.toArray n}={cls:= .type "list",data:= .seq its'.toArray n'}) (r:Vals ys its') (hz:ys.length<=sizeLine) (t:Nat) :
  Inv X pins σ (upd H p<|.lst ys) {s with heap:=s.heap.update p f,toks:=t}:=by
 have e:(s.heap.update p f).get? p=some {cls:= .type "list",data:= .seq its'.toArray n'}:=by
  rw[pG f ho (by rw[hf]<;>rfl),hf]
 refine I.write (x:=p) (e:=p) (by rw[h];trivial) (.inl rfl) (λb u hb q=>(aK5 _ _<|Ne.symm hb).trans q) ⟨_,e⟩ ?_
 exact⟨hz,its',n',r,e⟩
nonrec def rSetL:V->V->V->Hp->(Hp->Prop)->Prop:=λo i v H Q=> ∃p xs k j,o= .ref p/\i= .int k/\H p=some (.lst xs)/\ixN xs.length k=some j/\Q (upd H p<|.lst<|xs.set j v)
theorem c12:PSet X rSetL:=by
 intro pins s σ H o i v ov iv u Q I ro ri rv h;obtain⟨p,xs,k,j,rfl,rfl,hp,hj,q⟩:=h;cases ro;obtain⟨t,rfl⟩:=ri;obtain⟨its,n,r,ho,hz⟩:=I.lst hp;obtain⟨h1,h2,h3,h4⟩:=cJ6 hj;have hl:=r.length;have hn:=aX3;have I':Inv X pins σ (upd H p<|.lst<|xs.set j v) {s with heap:=s.heap.update p (Obj.mapSeq (·.setIfInBounds j u))}:=
  I.lstUpd hp ho (cC9 its n j u) (r.set rv j) (by rw[dL];exact hz) s.toks
 by_cases h0:0<=k
 .have hk:k.toNat=j:=by
   rw[a02 h0 h4]at h1;exact hU h1
  exact PySem.W.ki_setAt ho h0 ad (by rw[bD,<-hl];exact h4) (by rw[hk];exact⟨_,I',q⟩)
 .have hk:(k+(its.toArray.size:Int)).toNat=j:=by
   rw[zX ad h3]at h1
   rw[bD,<-hl];exact hU h1
  exact PySem.W.ki_setBack ho ad (by rw[bD,<-hl];exact h3) ad (by rw[hk];exact⟨_,I',q⟩)
theorem bT3 (lo hi:Option Int)(n:Nat):(sliceBounds lo hi none n).1=((HT.sIx n 0 lo:Nat):Int)/\(sliceBounds lo hi none n).2.1=((HT.sIx n n hi:Nat):Int)/\(sliceBounds lo hi none n).2.2=1:=by
 refine⟨?_,?_,rfl⟩
 .cases lo with
  | none=>simp[sliceBounds,HT.sIx]
  | some i=>
   simp only[sliceBounds,HT.sIx,getD_none,show(1:Int)>0 by decide,hX]
   by_cases h:i<0
   .simp only[h,hX]<;>lia
   .simp only[h,qD]<;>lia
 .cases hi with
  | none=>simp[sliceBounds,HT.sIx]
  | some i=>
   simp only[sliceBounds,HT.sIx,getD_none,show(1:Int)>0 by decide,hX]
   by_cases h:i<0
   .simp only[h,hX]<;>lia
   .simp only[h,qD]<;>lia
theorem bJ6 (its:List Value)(lo hi:Option Int):slicePick its.toArray lo hi none=((its.drop<|HT.sIx its.length 0 lo).take<|HT.sIx its.length its.length hi-HT.sIx its.length 0 lo).toArray:=by
 obtain⟨h1,h2,h3⟩:=bT3 lo hi its.toArray.size;unfold slicePick;rw[h1,h2,h3];simp only[sliceRange_one,pick_run,bD]<;>rfl
nonrec def rSlL (K:PySem.W.Frag):V->Option Int->Option Int->Hp->VK->Prop:=λx lo hi H Q=> ∃a xs,x= .ref a/\SqL K H a xs/\ ∀p,H p=none->Q (.ref p) (upd H p<|.lst<|c09 xs lo hi)
theorem cJ7:SlR X (rSlL X.K):=by
 intro pins s σ H x v vl vu lo hi sl Q I rx hs pl pu h;obtain⟨a,xs,rfl,hx,q⟩:=h;cases rx;obtain⟨its,r,ht,hz⟩:=I.list hx;have hlen:=r.length;refine⟨"list",_,slot_list_getitem.lookup,ht.isList.typeIs,?_⟩;refine wpAny_getItem_list_slice ht.isList hs pl pu .none ae ?_ (by rw[bD]<;>lia)
 rw[bJ6,<-hlen];refine⟨.ref s.heap.objs.size,_,I.laid (t':=s.toks) (o:= .lst (c09 xs lo hi)) (λb ob q=>aT _ q) (aG _) ?_,rfl,q _<|I.hok.fresh<|aG _⟩
 exact⟨aK (b18 xs lo hi) hz,_,0,(r.drop<|HT.sIx xs.length 0 lo).take<|HT.sIx xs.length xs.length hi-HT.sIx xs.length 0 lo,bZ _ rfl⟩
nonrec def aR6:V->Bool
 | .non=>true
 | .bl _=>true
 | .int _=>true
 | .str _=>true
 | _=>false
nonrec def eqV:V->V->Bool
 | .non,.non=>true
 | .bl a,.bl b=>a==b
 | .bl a,.int b=>(if a then 1 else 0)==b
 | .int a,.bl b=>a==(if b then 1 else 0)
 | .int a,.int b=>a==b
 | .str a,.str b=>a==b
 | _,_=>false
theorem eqAt_V {y x:V}(ry:RelV y u)(rx:RelV x v)(fy:aR6 y=true)(fx:aR6 x=true):SeqAt.EqAt A s u v (eqV y x):=by
 cases y with
 | non=>
  cases ry;cases x with
  | non=>cases rx;exact SeqAt.EqAt.same _
  | bl b=>cases rx;exact SeqAt.EqAt.none_bool b
  | int b=>obtain⟨t,rfl⟩:=rx;exact SeqAt.EqAt.none_int b t
  | str b=>obtain⟨t,rfl⟩:=rx;exact SeqAt.EqAt.none_str b t
  | _=>exact absurd (show false=true from fx) bH
 | bl a=>
  cases ry;cases x with
  | non=>cases rx;exact SeqAt.EqAt.bool_none a
  | bl b=>cases rx;exact SeqAt.EqAt.bool_bool a b
  | int b=>obtain⟨t,rfl⟩:=rx;exact SeqAt.EqAt.bool_int a b t
  | str b=>obtain⟨t,rfl⟩:=rx;exact SeqAt.EqAt.bool_str a b t
  | _=>exact absurd (show false=true from fx) bH
 | int a=>
  obtain⟨t',rfl⟩:=ry;cases x with
  | non=>cases rx;exact SeqAt.EqAt.int_none a t'
  | bl b=>cases rx;exact SeqAt.EqAt.int_bool a t' b
  | int b=>obtain⟨t,rfl⟩:=rx;exact SeqAt.EqAt.int_int a t' b t
  | str b=>obtain⟨t,rfl⟩:=rx;exact SeqAt.EqAt.int_str a t' b t
  | _=>exact absurd (show false=true from fx) bH
 | str a=>
  obtain⟨t',rfl⟩:=ry;cases x with
  | non=>cases rx;exact SeqAt.EqAt.str_none a t'
  | bl b=>cases rx;exact SeqAt.EqAt.str_bool a t' b
  | int b=>obtain⟨t,rfl⟩:=rx;exact SeqAt.EqAt.str_int a t' b t
  | str b=>obtain⟨t,rfl⟩:=rx;exact SeqAt.EqAt.str_str a t' b t
  | _=>exact absurd (show false=true from fx) bH
 | _=>exact absurd (show false=true from fy) bH
nonrec def eqU (x:V)(u:Value):Bool:=match u with
 | .none=>eqV .non x
 | .bool b=>eqV (.bl b) x
 | .int i _=>eqV (.int i) x
 | .str z _=>eqV (.str z) x
 | _=>false
theorem cX5 {x y:V}(r:RelV y u)(f:aR6 y=true):eqU x u=eqV y x:=by
 cases y with
 | non=>cases r;rfl
 | bl b=>cases r;rfl
 | int i=>obtain⟨t,rfl⟩:=r;rfl
 | str z=>obtain⟨t,rfl⟩:=r;rfl
 | _=>exact absurd (show false=true from f) bH
theorem bT4 {x:V}: ∀{xs:List V} {us:List Value},Vals xs us->xs.all aR6=true->us.any (eqU x)=xs.any λy=>eqV y x
 | _,_,.nil,_=>rfl
 | y::xs,u::us,.cons r t,f=>by
  rw[all_cons,cZ]at f;rw[any_cons,any_cons,cX5 r f.1,bT4 t f.2]
theorem b90 {A:Around}{s:Shared}{x:V}{v:Value}(rx:RelV x v)(fx:aR6 x=true): ∀{xs:List V} {us:List Value},Vals xs us->xs.all aR6=true-> ∀u∈us,SeqAt.EqAt A s u v (eqU x u)
 | _,_,.nil,_=>λu hu=>by cases hu
 | y::xs,u::us,.cons r t,f=>λu' hu=>by
  rw[all_cons,cZ]at f;rcases aZ.mp hu with rfl|hu
  .rw[cX5 r f.1];exact eqAt_V r rx f.1 fx
  .exact b90 rx fx t f.2 u' hu
nonrec def inV (x:V)(xs:List V):Bool:=xs.any λy=>eqV y x
nonrec def rIn (K:PySem.W.Frag)(neg:Bool):R2:=λx y H Q=> ∃p xs,y= .ref p/\(SqL K H p xs\/SqT K H p xs)/\aR6 x=true/\xs.all aR6=true/\Q (.bl<|if neg then !inV x xs else inV x xs) H
theorem bT5:OpR X (compareOp .NotIn) (rIn X.K true):=by
 intro pins s σ H x y v u Q I rx ry h;obtain⟨p,xs,rfl,hq,fx,fs,q⟩:=h;cases ry;rcases hq with hq|hq
 .obtain⟨its,r,pl,hz⟩:=I.list hq;refine SeqAt.notIn_listAt (eqU x) pl.isList (λw hw=>b90 rx fx r fs w (by exists hw)) ⟨.bl _,H,I,rfl,?_⟩
  rw[show its.toArray.any (eqU x)=its.any (eqU x)by simp,bT4 r fs]
  exact q
 .obtain⟨its,r,pl,hz⟩:=I.tuple hq;refine SeqAt.notIn_tupleAt (eqU x) pl (λw hw=>b90 rx fx r fs w (by exists hw)) ⟨.bl _,H,I,rfl,?_⟩
  rw[show its.toArray.any (eqU x)=its.any (eqU x)by simp,bT4 r fs]
  exact q
theorem bT6:sY X (.builtin "len") (λxs H Q=> ∃p ys,xs=[.ref p]/\(SqL X.K H p ys\/SqT X.K H p ys)/\Q (.int ys.length) H):=by
 intro pins s σ H xs us Q I r h;obtain⟨p,ys,rfl,hq,q⟩:=h;obtain⟨u,rfl,rx⟩:=vals1 r;cases rx;have hn:=aX3;rcases hq with hq|hq
 .obtain⟨its,r',pl,hz⟩:=I.list hq;have hlen:=r'.length;exact Calls.call_len_list pl.isList (by simp only[bD]<;>lia) ⟨.int ys.length,H,I.tok _,⟨s.toks+1,by rw[bD,hlen]⟩,q⟩
 .obtain⟨its,r',pl,hz⟩:=I.tuple hq;have hlen:=r'.length;exact len_tuple pl (by simp only[bD]<;>lia) ⟨.int ys.length,H,I.tok _,⟨s.toks+1,by rw[bD,hlen]⟩,q⟩
theorem bT7:sY X (.type "list") (λxs H Q=> ∃p ys,xs=[.ref p]/\(SqL X.K H p ys\/SqT X.K H p ys)/\ ∀l,H l=none->Q (.ref l) (upd H l<|.lst ys)):=by
 intro pins s σ H xs us Q I r h;obtain⟨p,ys,rfl,hq,q⟩:=h;obtain⟨u,rfl,rx⟩:=vals1 r;cases rx;have fin: ∀(its:List Value),Vals ys its->ys.length<=sizeLine-> ∀(h':Heap) (c':Nat),(∀b o',s.heap.get? b=some o'->h'.get? b=some o')->
   h'.get? s.heap.objs.size=some {cls:= .type "list",dict:=none,data:= .seq its.toArray c',slots:= #[]}->EP X pins σ Q (.ref s.heap.objs.size) {s with heap:=h'}:=λits r' hz h' c' kp e=>
  ⟨.ref s.heap.objs.size,_,I.laid (t':=s.toks) kp (aG _)<|show rL X.prog X.w _ h' _ (.lst ys)from⟨hz,its,c',r',e⟩,rfl,q _<|I.hok.fresh<|aG _⟩
 rcases hq with hq|hq
 .obtain⟨its,r',pl,hz⟩:=I.list hq;have hlen:=r'.length;obtain⟨o,ho,hc,n,hd⟩:=pl.isList;exact call_list_seq p (.inl rfl) ho hc hd (λh' c' kp e=>fin its r' hz h' c' kp e) (by simp only[bD]<;>lia)
 .obtain⟨its,r',pl,hz⟩:=I.tuple hq;have hlen:=r'.length;obtain⟨o,ho,hc,n,hd⟩:=pl;exact call_list_seq p (.inr rfl) ho hc hd (λh' c' kp e=>fin its r' hz h' c' kp e) (by simp only[bD]<;>lia)
theorem wO:sY X (.type "tuple") (λxs H Q=> ∃p ys,xs=[.ref p]/\((SqL X.K H p ys/\ ∀l,H l=none->Q (.ref l) (upd H l<|.tup ys))\/(SqT X.K H p ys/\Q (.ref p) H))):=by
 intro pins s σ H xs us Q I r h;obtain⟨p,ys,rfl,h⟩:=h;obtain⟨u,rfl,rx⟩:=vals1 r;cases rx;rcases h with⟨hq,q⟩| ⟨hq,q⟩
 .obtain⟨its,r',pl,hz⟩:=I.list hq;have hlen:=r'.length;refine call_tuple_list pl.isList (λh' kp=> ?_) (by simp only[bD]<;>lia)
  have I1:Inv X pins σ H {s with heap:=h'}:=I.kept (t':=s.toks) kp;have I2:Inv X pins σ (upd H h'.objs.size<|.tup ys) {s with heap:=h'.push {cls:= .type "tuple",data:= .seq its.toArray}}:=
   I1.laid (t':=s.toks) (λb o e=>aT _ e) (aG _) (show rL X.prog X.w _ _ _ (.tup ys)from⟨hz,its,r',qC _ _⟩)
  exact⟨.ref h'.objs.size,_,I2,rfl,q _<|I1.hok.fresh<|aG _⟩
 .obtain⟨its,r',pl,hz⟩:=I.tuple hq;exact call_tuple_same pl ⟨.ref p,H,I,rfl,q⟩
def tyV (K:PySem.W.Frag)(T:String)(x:V)(H:Hp):Prop:=match x with
 | .str _=>T="str"
 | .int _=>T="int"
 | .ref p=>(T="list"/\ ∃xs,SqL K H p xs)\/(T="tuple"/\ ∃o,K.lookup p=some o/\o.cls= .type "tuple"/\o.dict=none)\/
   (T="dict"/\((∃kvs,H p=some (.dK kvs))\/ ∃kvs,H p=some (.dT kvs)))\/(T="set"/\ ∃S n,H p=some (.set S n))
 | _=>False
theorem tyV_is {pins:List (Addr×Obj)}{σ:St}{H:Hp}{s:Shared}{T:String}{x:V}{v:Value}(I:Inv X pins σ H s)(r:RelV x v)(ty:tyV X.K T x H) :
  s.TypeIs v T/\ ∀a,v= .ref a-> ∃ob,s.heap.get? a=some ob/\ob.dict=none:=by
 cases x with
 | str z=>
  obtain⟨t,rfl⟩:=r;cases (show T="str" from ty)
  exact⟨typeIs_str s z t,λ_ e=>nomatch e⟩
 | int i=>
  obtain⟨t,rfl⟩:=r;cases (show T="int" from ty)
  exact⟨uI s i t,λ_ e=>nomatch e⟩
 | ref p=>
  cases r;rcases ty with⟨rfl,xs,hq⟩| ⟨rfl,o,hk,hc,hd⟩| ⟨rfl,hk⟩| ⟨rfl,S,n,hk⟩
  .obtain⟨its,_,pl,_⟩:=I.list hq;refine⟨pl.isList.typeIs,λa e=> ?_⟩
   cases e;obtain⟨o,n,e,c,hd,_⟩:=pl;exact⟨o,e,hd⟩
  .refine⟨⟨o,I.kIn p o hk,hc⟩,λa e=> ?_⟩
   cases e;exact⟨o,I.kIn _ o hk,hd⟩
  .have z: ∃o,s.heap.get? p=some o/\o.ExactDict:=by
    rcases hk with⟨kvs,hk⟩| ⟨kvs,hk⟩
    .obtain⟨_,_,_,_,o,_,_,e,ex,_⟩:=I.hok p _ hk;exact⟨o,e,ex⟩
    .obtain⟨_,_,_,_,o,_,_,e,ex,_⟩:=I.hok p _ hk;exact⟨o,e,ex⟩
   obtain⟨o,e,ex⟩:=z;refine⟨⟨o,e,ex.1⟩,λa e2=> ?_⟩
   cases e2;exact⟨o,e,ex.2.1⟩
  .obtain⟨o,_,_,_,e,ex,_⟩:=I.hok p _ hk;refine⟨⟨o,e,ex.1⟩,λa e2=> ?_⟩
   cases e2;exact⟨o,e,ex.2.1⟩
 | _=>exact False.elim ty
def tBM (K:PySem.W.Frag)(T:String)(r:V->List V->Hp->VK->Prop)(to:TE)(t:TA):TE:=λσ H Q=>to σ H λx H1=>tyV K T x H1/\t σ H1 λxs H2=>r x xs H2 Q
variable {o e:Expr}{es:List Expr}{to:TE}{t:TA}{name:Str}{apos cpos:Pos}{T id:String}{r:V->List V->Hp->VK->Prop}
theorem pe_bm (pa:PlainAttrs T)(slot:Slot T name id)(hty:typeOf (.builtin id)=pure (.type "method_descriptor"))(hm:MtR X id r)(ho:PE X o to)(ha:PA X (e::es) t)
  (hbase:↥(attributeBase o name X.env (eval o X.env)=eval o X.env))
  (hfew:↥(((backTo cpos<|starEach (e::es) X.env).all (λx=> !x.1)&&(backToKw cpos<|keywordEach [] X.env).all (λx=>x.1.isSome)
   &&decide ((e::es).length+([]:List Keyword).length+(if([]:List Keyword).isEmpty then 0 else 1)<30))=true))
  (hline:↥((apos.endLine==cpos.line)=true)) (hs:↥(starEach (e::es) X.env=(false,eval e X.env)::starEach es X.env)) (hplain:↥((backTo cpos<|starEach es X.env).any (·.1)=false)) :
  PE X (.Call (.Attribute o name apos) (e::es) [] cpos) (tBM X.K T r to t):=by
 intro pins s σ H Q I h;refine wpAny_Call_method_late hbase hfew hline rfl (thn (ho pins s σ H _ I h) λv s1 ⟨x,H1,I1,r1,ty,q1⟩=> ?_)
 obtain⟨h1,h2⟩:=tyV_is I1 r1 ty;refine⟨T,id,pa,slot,hty,h1,h2,?_⟩;have hA:=ha cpos pins s1 σ H1 _ I1 q1;rw[hs]at hA⊢;refine Calls.callWith_builtin (by show(false||(backTo cpos<|starEach es X.env).any (·.1))=false;rw[hplain]<;>rfl) (aL1 ?_)
 exact thn hA λus s2 ⟨vs,H2,I2,r2,q2⟩=>hm pins s2 σ H2 x vs v us Q I2 r1 r2 q2
end
def MtM (X:Cx)(id:String)(r:V->List V->Hp->VK->Prop):Prop:=
 ∀(pins:List (Addr×Obj)) (s:Shared) (σ:St) (H:Hp) (x:V) (xs:List V) (v:Value) (us:List Value) (Q:VK),Inv X pins σ H s->RelV x v->Vals xs us->r x xs H Q->
  X∩(call (.builtin id) (v::us)) (EP X pins σ Q) X.xe s
theorem Vals.one {x:V}(h:Vals [x] us): ∃u,us=[u]/\RelV x u:=by
 cases h with
 | cons r q=>cases q;exact⟨_,rfl,r⟩
theorem Vals.two {x y:V}(h:Vals [x,y] us): ∃u v,us=[u,v]/\RelV x u/\RelV y v:=by
 cases h with
 | cons r q=>obtain⟨u,rfl,s⟩:=Vals.one q;exact⟨_,_,rfl,r,s⟩
theorem Vals.rep {xs:List V}{us:List Value}(h:Vals xs us): ∀k:Nat,Vals (replicate k xs).flatten (replicate k us).flatten
 | 0=> .nil
 | k+1=>by
  rw[jL,jL,n6,n6];exact Vals.append h (Vals.rep h k)
theorem foldl_rep (its:List Value): ∀(k:Nat) (acc:List Value),
  foldl (λx1 x2=>x1++x2) acc.toArray (replicate k its.toArray)=(acc++(replicate k its).flatten).toArray
 | 0,acc=>ae
 | k+1,acc=>by
  have e:acc.toArray++its.toArray=(acc++its).toArray:=ae
  have e2:(acc++its)++(replicate k its).flatten=acc++(replicate (k+1) its).flatten:=by
   rw[jL,n6,List.append_assoc]
  rw[<-e2,<-foldl_rep its k (acc++its),<-e,jL,List.foldl_cons]
section
variable {X:Cx}{pins:List (Addr×Obj)}{σ:St}{H:Hp}{s:Shared}{l b:Addr}{xs ys zs:List V}
theorem Inv.lset {its':List Value}{f:Array Value->Array Value}(I:Inv X pins σ H s)(hH:H l=some (.lst xs))
  (e:s.heap.get? l=some {cls:= .type "list",data:= .seq its.toArray n}) (hf:f its.toArray=its'.toArray) (hv:Vals ys its') (hz:ys.length<=sizeLine) :
  Inv X pins σ (upd H l<|.lst ys) {s with heap:=s.heap.update l (Obj.mapSeq f),toks:=t'}:=by
 have q:=PySem.IsL.update e f;rw[hf]at q;refine I.write (x:=l) (e:=l) (by rw[hH];exact trivial) (.inl rfl) (λb' u hb hu=>(aK5 s.heap (Obj.mapSeq f)<|Ne.symm hb).trans hu) ⟨_,q⟩ ?_
 exact⟨hz,its',_,hv,q⟩
theorem Inv.lnew (I:Inv X pins σ H s)(hv:Vals ys its)(hz:ys.length<=sizeLine) :
  Inv X pins σ (upd H s.heap.objs.size<|.lst ys) {s with heap:=s.heap.push {cls:= .type "list",data:= .seq its.toArray},toks:=t'}:=
 I.laid (λ_ _ q=>aT _ q) (aG _) ⟨hz,its,0,hv,bZ _ rfl⟩
theorem Inv.fresh (I:Inv X pins σ H s):H s.heap.objs.size=none:=I.hok.fresh (aG _)
theorem Inv.lstM (I:Inv X pins σ H s)(hH:H l=some (.lst xs)):xs.length<=sizeLine/\ ∃(its:List Value) (n:Nat),Vals xs its/\xs.length=its.length/\s.heap.get? l=some {cls:= .type "list",data:= .seq its.toArray n}:=by
 obtain⟨z,its,n,r,e⟩:=I.hok l _ hH;exact⟨z,its,n,r,r.length,e⟩
theorem cX6 (h:n<=sizeLine):Builtin.List.listTooLong n=false:=by
 unfold Builtin.List.listTooLong;exact fM ad
end
section
variable {X:Cx}
nonrec def dD1:V->List V->Hp->VK->Prop:=λx vs H Q=> ∃l xs y,x= .ref l/\vs=[y]/\H l=some (.lst xs)/\xs.length<sizeLine/\Q .non (upd H l<|.lst<|xs++[y])
theorem bN9:MtM X "list.append" dD1:=by
 intro pins s σ H x vs v us Q I rx rv h;obtain⟨l,xs,y,rfl,rfl,hH,hz,q⟩:=h;cases rx;obtain⟨u,rfl,ru⟩:=rv.one;obtain⟨z,its,n,r,hl,e⟩:=I.lstM hH;refine kQ F.slot_list_append ⟨_,e,rfl⟩ F.entry_list_append (F.args_list_append_2 _ _) (PySem.list_append l its.toArray n u (by rw[bD];lia)) ⟨e,?_⟩
 refine⟨.non,_,I.lset (its':=its++[u]) hH e ae (r.append<|.cons ru .nil) ?_,rfl,q⟩
 rw[bO,aK7]
 lia
nonrec def rCat:R2:=λx y H Q=> ∃l b xs zs,x= .ref l/\y= .ref b/\H l=some (.lst xs)/\H b=some (.lst zs)/\xs.length+zs.length<=sizeLine/\ ∀p,H p=none->Q (.ref p) (upd H p<|.lst<|xs++zs)
theorem op_cat:OpR X (binaryOp .Add) rCat:=by
 intro pins s σ H x y v u Q I rx ry h;obtain⟨l,b,xs,zs,rfl,rfl,hH,hB,hz,q⟩:=h;cases rx;cases ry;obtain⟨z,its,n,r,hl,e⟩:=I.lstM hH;obtain⟨z2,its2,n2,r2,hl2,e2⟩:=I.lstM hB;refine PySem.P.add_list e e2 ?_ (by rw[bD,bD];omega)
 have ea:its.toArray++its2.toArray=(its++its2).toArray:=ae
 rw[ea];exact⟨.ref _,_,I.lnew (t':=s.toks) (r.append r2) (by rw[bO];omega),rfl,q _ I.fresh⟩
nonrec def rRep:R2:=λx y H Q=> ∃l k xs,x= .ref l/\y= .int k/\H l=some (.lst xs)/\ -(2^63)<=k/\k<2^63/\xs.length*k.toNat<=sizeLine/\
 ∀p,H p=none->Q (.ref p) (upd H p<|.lst (replicate k.toNat xs).flatten)
theorem bT8 {α:Type}(xs:List α)(k:Nat):(replicate k xs).flatten.length=k*xs.length:=by
 induction k with
 | zero=>simp
 | succ k ih=>rw[jL,n6,bO,ih,Nat.succ_mul,Nat.add_comm]
theorem op_rep:OpR X (binaryOp .Mult) rRep:=by
 intro pins s σ H x y v u Q I rx ry h;obtain⟨l,k,xs,rfl,rfl,hH,h1,h2,hz,q⟩:=h;cases rx;obtain⟨t,rfl⟩:=ry;obtain⟨z,its,n,r,hl,e⟩:=I.lstM hH;have hlen:its.toArray.size*k.toNat<=sizeLine:=by rw[bD,<-hl];exact hz
 have hcap: ¬its.toArray.size*k.toNat>(2^63-1)/8:=by
  have:(sizeLine:Nat)<=(2^63-1)/8:=ac
  lia
 have hfit: ¬(!Builtin.List.listFitsIndex k)=true:=by
  rw[fitsIndex_both h1 h2];exact bH
 have hlong: ¬Builtin.List.listTooLong (its.toArray.size*k.toNat)=true:=by
  rw[cX6 hlen];exact bH
 have hnew:foldl (λx1 x2=>x1++x2) #[] (replicate (if its.toArray.isEmpty=true then 0 else k.toNat) its.toArray)=(replicate k.toNat its).flatten.toArray:=by
  have f0: ∀m:Nat,foldl (λx1 x2=>x1++x2) #[] (replicate m its.toArray)=(replicate m its).flatten.toArray:=λm=>by
   have:=foldl_rep its m [];rw[nF]at this;exact this
  rw[f0];cases its with
  | nil=>simp
  | cons a r'=>rw[a8 ae]
 refine wpAny_binaryOp_repeat_ref (T:="list") (U:="int") ac ⟨_,e,rfl⟩ (λs'=>uI s' k t) noFill_list_mul F.fills_int_mul F.slot_int_rmul repeat_list F.slot_int_index.lookup
  (kQ F.slot_int_rmul (uI s k t) F.entry_int_rmul (F.args_int_rmul_2 _ _) (int___rmul___int_list k t l its.toArray n)
   ⟨e,rfl,⟨_,e,rfl⟩,kQ F.slot_list_mul ⟨_,e,rfl⟩ F.entry_list_mul (F.args_list_mul_2 _ _) (AutoListH.list___mul___list_int_3 l its.toArray n k t hfit hcap hlong) ⟨e,?_⟩⟩)
 rw[hnew];exact⟨.ref _,_,I.lnew (t':=s.toks) (r.rep k.toNat) (by rw[bT8,mul_comm];exact hz),rfl,q _ I.fresh⟩
end
section
variable {prog:Program}{w:World}{A:Around}{E:Value->Shared->Prop}{s:Shared}
set_option maxRecDepth 100000 in
end
end L2
namespace Att
open PySem PySem.W PySem.Calls PyProof.Rows
theorem b39 {P:Params}: ∀(ns:List Int) (vs:List Value),WellAll P h vs (ns.map WData.int)->IntsAre vs ns:=by
 intro ns
 induction ns with
 | nil=>
  intro vs w;rw[jQ]at w;cases w;exact .nil
 | cons n ns ih=>
  intro vs w;rw[d5]at w;cases w with
  | cons a b=>
   cases a;exact .cons _ _ (ih _ b)
theorem cP7 {l:OpenLaw}{n:Nat}(hn:l.most=some n){P:Params}{h:Heap}{args:List WData}{vals:List Value}
  (hpre:l.row.toRowW.claim.pre args=true) (hwl:WellAll P h vals args) :
  ∃a vs ns,vals=[Value.ref a]/\args=[WData.list<|ns.map WData.int]/\h.get? a=some {cls:= .type "list",data:= .seq vs.toArray}/\IntsAre vs ns/\ns.length<=n:=by
 have hsh:WShape.hasAll [] args [.list .int]=true:=(pre_splitW hpre).1;have hc:l.pre.holds [] {args:=args}=true:=(pre_splitW hpre).2;obtain⟨d,r,rfl,h1,h2⟩:=hasAllW_cons hsh;obtain rfl:=hasAllW_nil h2;obtain⟨xs,rfl,h3⟩:=hasW_list h1;obtain⟨ns,rfl⟩:=items_int h3;have hlen:ns.length<=n:=by
  unfold OpenLaw.pre at hc;have h4:(WTm.not<|.lt (.lit<|.int (n:Int))<|.len<|.arg 0).holds [] {args:=[.list<|ns.map .int]}=true:=by
   have h4:=(holds_andW hc).1;rw[hn]at h4;exact h4
  have h5:=condW_of h4 (w_not<|w_lt w_lit<|w_len_list<|w_arg rfl);rw[aJ]at h5;refine Nat.le_of_not_lt λq=> ?_
  have q':(n:Int)< ((ns.length:Nat):Int):=aa
  first
   | (rw[nG q']at h5;exact absurd h5 ac)
   | (simp at h5;omega)
 cases hwl with
 | cons w1 w2=>
  cases w2;cases w1 with
  | list ho hall=>exact⟨_,_,ns,rfl,rfl,ho,b39 ns _ hall,hlen⟩
theorem cP8 (l:OpenLaw)(args:List WData):l.row.toRowW.claim.post args (.bool true) args=true:=
 postW_of (r:=l.row.toRowW) (X:=(true==true))
  (show WShape.has [] (.bool true) .bool=true by first|rfl|decide|simp[WShape.has,WShape.arms,WShape.armsAll])
  (show(WTm.eq .res<|.lit<|.bool true).value [] {args:=args,res:=some (.bool true),after:=args}=some (.bool<|true==true)from w_eq_bool (w_res rfl) w_lit) rfl
theorem attach_call {l:OpenLaw}{XP:(Str->Option Value)->Heap->Prop}{d:DefRec}
  (hn:l.most=some n) (hdf:d.params.defaults=[])
  (call: ∀(w:World) (s₀ s₁:Shared) (mg mb:Str->Option Value) (fa:Addr) (o:Obj) (pm cd doc:Value) (a:Addr) (vs:List Value) (ns:List Int),
   Ground q loose [] XP w s₀ mg mb s₁.heap->YP w s₁.heap->
   s₁.heap.get? fa=some o->o.data= .func (docDef d.name d.params d.body d.scope pm cd doc)->s₁.heap.CodeRec cd d.name->mg d.name=some (.ref fa)->
   s₁.heap.get? a=some {cls:= .type "list",data:= .seq vs.toArray}->IntsAre vs ns->ns.length<=n->s₁.gens= #[]->
   codeAny (model l.prog w) callerA (.call (.ref fa) ⟨[.ref a],[]⟩) (λr s'=>r= .ok (.ret<|.bool true)/\OldK s₁.heap s'.heap/\s'.os=s₁.os/\AllBare s'.gens) s₁) :
  WalkO q loose XP YP l.row.toRowW d [] (λf vs=>PySem.call f vs):=by
 intro w s₀ s₁ mg mb G Y fa o pm cd doc dV kV ho hd hcd hD hmg hg args vals as hpre hlay hrd hwl hlo;obtain rfl:dV= .none:=Dflts.none hD hdf;obtain rfl:kV= .none:=Dflts.noKw hD;obtain⟨a,vs,ns,rfl,rfl,hobj,hints,hlen⟩:=cP7 hn hpre hwl;refine enter_call (pZ (call w s₀ s₁ mg mb fa o pm cd doc a vs ns G Y ho (fd_plain hd) hcd hmg hobj hints hlen hg) λr s' hq=> ?_)
 obtain⟨rfl,h2,h3,h4⟩:=hq;exact⟨.inl ⟨.bool true,.bool true,[],rfl,λ_=>rfl,.bool true,cP8 l _,λ_=>⟨List.Pairwise.nil,λ_ hm=>(nomatch hm)⟩⟩,h2,h3,h4⟩
end Att
namespace L2
theorem bO0: ∀{vs:List Value} {ns:List Int},IntsAre vs ns->Vals (ns.map V.int) vs
 | _,_,.nil=> .nil
 | _,_,.cons n t h=> .cons ⟨t,rfl⟩ (bO0 h)
def Only (H:Hp):Prop:= ∀b,H b=none\/ ∃o xs,H b=some (.frz o<|.lst xs)
theorem cX7 {P:Program}{w:World}{K:PySem.W.Frag}{mg mb:Str->Option Value}{CX:CXT}{k:Nat}{fa a:Addr}{fd:FuncData}{x:Str}{sp:Sp}{s₁:Shared}{vs:List Value}{ns:List Int}
  (KX:K.In s₁.heap) (hns:s₁.heap.Ns mainGlobals mg) (hb:s₁.heap.Ns builtinsNs mb) (hbb: ∀x:Str,x≠"__name__"->mb x=bootBuiltins x) (hlim:s₁.heap.NoLimit) (hg:s₁.gens= #[])
  (ha:s₁.heap.get? a=some {cls:= .type "list",data:= .seq vs.toArray}) (hi:IntsAre vs ns) (hl:ns.length<=sizeLine) (hr:fG k callerA)
  (F: ∀base:Heap,K.In base->base.Ns mainGlobals mg->sF P w K mg base CX k fa fd [x] sp) (hbind: ∀(s:Shared) (u:Value),BindsTo s fd ⟨[u],[]⟩ [(x,u)])
  (hsp: ∀H:Hp,Only H->SqL K H a (ns.map V.int)->sp [.ref a] H (λv _=>v= .bl true) λ_ _ _=>False)
  (hCX: ∀H e s',CX [] H s₁ (λ_ _ _=>False) e s'->False) :
  codeAny (model P w) callerA (.call (.ref fa) ⟨[.ref a],[]⟩) (λr s'=>r= .ok (.ret<|.bool true)/\OldK s₁.heap s'.heap/\s'.os=s₁.os/\AllBare s'.gens) s₁:=by
 have rv:=bO0 hi;have lenV:=hi.length;have core: ∀H:Hp,Only H->SqL K H a (ns.map V.int)->HOk P w H s₁.heap->(∀b,H b≠none->b=a)->(H a≠none->K.lookup a=none)->
   codeAny (model P w) callerA (.call (.ref fa) ⟨[.ref a],[]⟩) (λr s'=>r= .ok (.ret<|.bool true)/\OldK s₁.heap s'.heap/\s'.os=s₁.os/\AllBare s'.gens) s₁:=by
  intro H hO hS hok hA hK;have base_of: ∀{b:Addr} {o:Obj},s₁.heap.get? b=some o->H b=none->(bS7 s₁.heap H).get? b=some o:=λe n=>cV2 e n
  have noA: ∀{b:Addr} {o:Obj} {es:Array DictEntry} {ep:Nat},s₁.heap.get? b=some o->o.data= .dict es ep->H b=none:=λ{b o es ep} e d=>by
   cases q:H b with
   | none=>rfl
   | some u=>
    have e':b=a:=hA b (by rw[q];simp)
    subst e';rw[ha]at e;cases e;have d':Data.seq vs.toArray _=Data.dict es ep:=d;cases d'
  have nsK: ∀{b:Addr} {m:Str->Option Value},s₁.heap.Ns b m->(bS7 s₁.heap H).Ns b m:=λ{b m} ⟨o,es,ep,e,d,r⟩=>⟨o,es,ep,base_of e<|noA e d,d,r⟩
  have hKb:K.In (bS7 s₁.heap H):=λb o e=>base_of (KX b o e) (by
   cases q:H b with
   | none=>rfl
   | some u=>
    have e':b=a:=hA b (by rw[q];simp)
    subst e';rw[hK (by rw[q];simp)]at e;cases e)
  have hM:Mod K mg (bS7 s₁.heap H):=⟨hKb,nsK hns,⟨mb,nsK hb,hbb⟩,let ⟨mc,h1,h2⟩:=hlim;⟨mc,nsK h1,h2⟩⟩;have e0:cC6 P w K mg (bS7 s₁.heap H) callerA [] s₁ H:=⟨rfl,hM,λb o e=>dA8 e,le_of_eq<|cO5 _ _,trivial,λb hb=>absurd (show b∈([]:List Addr)from hb) ae,hok,.of_eq hg⟩
  refine pZ ((F _ hKb<|nsK hns).run callerA [] s₁ H ⟨[.ref a],[]⟩ [.ref a] [.ref a] _ _ hr e0 (hbind s₁<|.ref a) (.cons rfl .nil)<|hsp H hO hS) λr s' h=> ?_
  cases r with
  | error e=>exact(hCX H e s' h).elim
  | ok fl=>
   cases fl with
   | next=>exact False.elim h
   | brk=>exact False.elim h
   | cont=>exact False.elim h
   | ret u=>
    obtain⟨v,H',os,bare,un,hok',r',q⟩:=h;have q':v= .bl true:=q;subst q';obtain rfl:u=Value.bool true:=r';refine⟨rfl,OldK.of_keep λb o e=> ?_,os,bare⟩
    cases q:H b with
    | none=>exact un.keep b o e q (by intro z;exact absurd (show b∈([]:List Addr)from z) ae) ae
    | some u=>
     rcases hO b with z| ⟨ob,xs,z⟩
     .rw[q]at z;cases z
     .have z2:=un.frzs b ob _ z;obtain⟨e1,_⟩:=hok b _ z;obtain⟨e2,_⟩:=hok' b _ z2;rw[e]at e1;cases e1;exact e2
 cases hk:K.lookup a with
 | some o=>
  have e:=KX a o hk;rw[ha]at e;cases e;refine core (λ_=>none) (λ_=> .inl rfl) (.inr ⟨_,vs.toArray,_,hk,rfl,rfl,rfl,by rw[bD,lenV];exact hl,by exists rv⟩) (λb u z=>by have z':(none:Option HO)=some u:=z;cases z') (λb z=>absurd rfl z) λz=>absurd rfl z
 | none=>
  refine core (λb=>if b=a then some (.frz {cls:= .type "list",data:= .seq vs.toArray}<|.lst<|ns.map V.int)else none) (λb=> ?_) (.inl<|.inr ⟨{cls:= .type "list",data:= .seq vs.toArray},aA rfl⟩) (λb u z=> ?_) (λb z=> ?_) λ_=>hk
  .by_cases hb:b=a
   .exact .inr ⟨_,_,aA hb⟩
   .exact .inl (a8 hb)
  .by_cases hb:b=a
   .have z':=(aA hb).symm.trans z;cases z';subst hb;exact⟨ha,by rw[aJ];exact hl,vs,_,rv,ha⟩
   .have z':=(a8 hb).symm.trans z;cases z'
  .by_cases hb:b=a
   .exact hb
   .exact absurd (a8 hb) z
theorem walk_of {l:PySem.W.OpenLaw}{XP:(Str->Option Value)->Heap->Prop}{d:DefRec}{K:Params->PySem.W.Frag}{CX:World->CXT}{sp:World->Sp}
  (hn:l.most=some n) (hn2:n<=sizeLine) (hdf:d.params.defaults=[]) (hr:fG k callerA)
  (hY: ∀(w:World) (h:Heap),YP w h->(K w.params).In h)
  (F: ∀(w:World) (mg:Str->Option Value) (fa:Addr) (h:Heap),(K w.params).In h->h.Ns mainGlobals mg->mg d.name=some (.ref fa)->
   ∃fd:FuncData,(∀(s:Shared) (u:Value),BindsTo s fd ⟨[u],[]⟩ [(x,u)])/\
    ∀base:Heap,(K w.params).In base->base.Ns mainGlobals mg->sF l.prog w (K w.params) mg base (CX w) k fa fd [x] (sp w))
  (hsp: ∀(w:World) (H:Hp) (a:Addr) (ns:List Int),ns.length<=n->Only H->SqL (K w.params) H a (ns.map V.int)->sp w [.ref a] H (λv _=>v= .bl true) λ_ _ _=>False)
  (hCX: ∀(w:World) (H:Hp) (s:Shared) (e:Value) (s':Shared),CX w [] H s (λ_ _ _=>False) e s'->False) :
  PySem.W.WalkO q loose XP YP l.row.toRowW d [] (λf vs=>PySem.call f vs):=by
 refine Att.attach_call hn hdf λw s₀ s₁ mg mb fa o pm cd doc a vs ns G Y ho hd hcd hmg hobj hints hlen hg=> ?_
 have KX:=hY w _ Y;obtain⟨fd,hb,hF⟩:=F w mg fa _ KX G.T.g hmg;exact cX7 KX G.T.g G.T.b G.T.builtins G.T.nolimit hg hobj hints (aK hlen hn2) hr hF hb (λH hO hS=>hsp w H a ns hlen hO hS) λH e s'=>hCX w H s₁ e s'
def iY (s:Stmt):Arguments:=match s with
 | .FunctionDef _ a _ _ _ _ _ _ _ _=>a
 | _=>{posonlyargs:=[],args:=[],vararg:=none,kwonlyargs:=[],kw_defaults:=[],kwarg:=none,defaults:=[]}
def cV (s:Stmt):List Stmt:=match s with
 | .FunctionDef _ _ b _ _ _ _ _ _ _=>b
 | _=>[]
def aF (s:Stmt):Scope:=match s with
 | .FunctionDef _ _ _ _ _ _ sc _ _ _=>sc
 | _=>{kind:= .function,names:=[],isGenerator:=false,isCoroutine:=false}
abbrev CX0:CXT:=λ_ _ _ _ _ _=>False
abbrev E0:XK:=λ_ _ _=>False
structure Fun (K:PySem.W.Frag)(x qual:Str)(st:Stmt)(f:Addr)(fd:FuncData):Prop where
 ex: ∃(oc:Value) (od:Option Addr) (kV doc pm:Value) (an:Option Addr) (cdv ct:Value) (osl:Array (Option Value)),
  fd=fnOf x qual (iY st) (cV st) (aF st) .none kV doc pm an cdv ct/\K.lookup f=some ⟨oc,od,.func fd,osl⟩/\codeIn K cdv qual=true
 kp:keepIn K (.ref f)=true
section
variable {P:Program}{w:World}{K:PySem.W.Frag}{mg:Str->Option Value}{base:Heap}
theorem Fun.ok {ps:List Str}{sp:Sp}(F:Fun K x qual st f fd)(S:aY N ps (aF st))(len: ∀vs H Q E,sp vs H Q E->vs.length=ps.length)
  (hbody: ∀(cdv:Value) (A:Around) (outer:List Env) (s:Shared) (H:Hp) (vs:List V) (Q:VK) (E:XK),fG k (A.deeper<|envOfC qual (aF st) s.heap.objs.size f cdv)->sp vs H Q E->
   ∃t,PSs (qE CX0 P w K mg base N qual (aF st) f cdv A outer s H E).nox (cV st) t/\t {nx:=λ_ H'=>Q .non H',rt:=Q} (start N vs) H):sF<$>CX0 (k+1) f fd ps sp:=by
 obtain⟨oc,od,kV,doc,pm,an,cdv,ct,osl,rfl,lk,hcd⟩:=F.ex;refine cX1 lk hcd S len λA outer s H vs Q E hr hsp=> ?_
 obtain⟨t,h,q⟩:=hbody cdv A outer s H vs Q E hr hsp;exact⟨t,h.nox,q⟩
theorem Fun.binds {ps:List Str}(F:Fun K x qual st f fd)
  (h: ∀(kV doc pm:Value) (an:Option Addr) (cdv ct:Value) (us:List Value),us.length=ps.length->bindArgs (fnOf x qual (iY st) (cV st) (aF st) .none kV doc pm an cdv ct) ⟨us,[]⟩=pure (ps.zip us)):Binds K fd ps []:=by
 obtain⟨oc,od,kV,doc,pm,an,cdv,ct,osl,rfl,lk,hcd⟩:=F.ex;exact .all (h kV doc pm an cdv ct)
theorem aX5 {oc:Value}{an:Option Addr}{osl:Array (Option Value)}{kV doc pm cdv ct:Value}(l:K.lookup f=some ⟨oc,od,.func<|fnOf x qual (iY st) (cV st) (aF st) .none kV doc pm an cdv ct,osl⟩)
  (c:codeIn K cdv qual=true) (k:keepIn K (.ref f)=true):Fun K x qual st f (fnOf x qual (iY st) (cV st) (aF st) .none kV doc pm an cdv ct):=⟨⟨oc,od,kV,doc,pm,an,cdv,ct,osl,rfl,l,c⟩,k⟩
end
section
variable {X:Cx}
theorem pv (i:Nat)(hN:↥(X.N[i]? =some x))(hv:Vis X.env.scope x:=by first|exact Or.inl rfl|exact Or.inr (Or.inl rfl)|exact Or.inr (Or.inr rfl))(hd:⇑(x∪0))
  (hcd:⇑((x==("__classdict__":Str))=false)):PE X (.Name x pos) (a75 i):=pe_var hN hv hd hcd
end
def gK (H H':Hp):Prop:= ∀b o,H b=some o->H' b=some o
theorem gK.refl (H:Hp):gK H H:=λ_ _ h=>h
theorem gK.trans {H H1 H2:Hp}(a:gK H H1)(b:gK H1 H2):gK H H2:=λc o h=>b c o (a c o h)
theorem gK.free {H H':Hp}(e:gK H H')(h:H' l=Option.none):H l=Option.none:=by
 cases q:H l with
 | none=>rfl
 | some o=>
  rw[e l o q]at h;cases h
theorem gK.seq {H H':Hp}{xs:List V}(e:gK H H')(h:SqL K H a xs):SqL K H' a xs:=by
 rcases h with(h| ⟨o,h⟩)|h
 .exact .inl (.inl<|e _ _ h)
 .exact .inl (.inr ⟨o,e _ _ h⟩)
 .exact .inr h
end L2
namespace M
inductive D where
 | non|bl (b:Bool)|int (i:Int)|str (x:Str)|ty (n:String)
 | tup (l:List D)|lst (l:List D)|rol (l:List D)
 | obj (C:Addr) (ks:List Str) (l:List D)
 | adr (a:Addr)
 | xob (a d:Addr) (ks:List Str) (l:List D)
abbrev AS:=Addr->Prop
def KT (K:PySem.W.Frag)(a:Addr)(vs:List V):Prop:=
 ∃(o:Obj) (its:Array Value) (n:Nat),K.lookup a=some o/\o.cls= .type "tuple"/\o.data= .seq its n/\its.size<=sizeLine/\Vals vs its.toList
def KL (K:PySem.W.Frag)(a:Addr)(vs:List V):Prop:=
 ∃(o:Obj) (its:Array Value) (n:Nat),K.lookup a=some o/\o.cls= .type "list"/\o.dict=none/\o.data= .seq its n/\its.size<=sizeLine/\Vals vs its.toList
def OkC (K:PySem.W.Frag)(C:Addr)(ks:List Str):Prop:=Cls K C/\ ∀f∈ks,a77 K C f
mutual
def Rep (K:PySem.W.Frag)(A:AS)(H:Hp):D->V->Prop
 | .non,v=>v= .non
 | .bl b,v=>v= .bl b
 | .int i,v=>v= .int i
 | .str x,v=>v= .str x
 | .ty n,v=>v= .ty n
 | .tup l,v=> ∃a vs,v= .ref a/\((¬A a/\Rd H a (.tup vs))\/KT K a vs)/\bQ K A H l vs
 | .lst l,v=> ∃a vs,v= .ref a/\ ¬A a/\H a=some (.lst vs)/\bQ K A H l vs
 | .rol l,v=> ∃a vs,v= .ref a/\((¬A a/\Rd H a (.lst vs))\/KL K a vs)/\bQ K A H l vs
 | .obj C ks l,v=> ∃a dx vs,v= .ref a/\ ¬A a/\H a=some (.ins C dx<|ks.zip vs)/\ks.length=vs.length/\bQ K A H l vs/\OkC K C ks
 | .adr a,v=>v= .ref a
 | .xob a d ks l,v=> ∃vs,v= .ref a/\ ¬A d/\H d=some (.xd<|ks.zip vs)/\ks.length=vs.length/\bQ K A H l vs
def bQ (K:PySem.W.Frag)(A:AS)(H:Hp):List D->List V->Prop
 | [],vs=>vs=[]
 | d::ds,vs=> ∃v vr,vs=v::vr/\Rep K A H d v/\bQ K A H ds vr
end
section
variable {K:PySem.W.Frag}{A A':AS}{H H':Hp}
def mC (A:AS)(H:Hp)(A':AS)(H':Hp):Prop:= ∀b o,¬A b->H b=some o-> ¬A' b/\H' b=some o
theorem Rd.pres (p:mC A H A' H'){u:HO}(n: ¬A a)(r:Rd H a u): ¬A' a/\Rd H' a u:=by
 rcases r with r| ⟨o,r⟩
 .exact⟨(p a _ n r).1,.inl (p a _ n r).2⟩
 .exact⟨(p a _ n r).1,.inr ⟨o,(p a _ n r).2⟩⟩
mutual
theorem Rep.mono (p:mC A H A' H'): ∀{d:D} {v:V},Rep K A H d v->Rep K A' H' d v
 | .non,_,h=>h
 | .bl _,_,h=>h
 | .int _,_,h=>h
 | .str _,_,h=>h
 | .ty _,_,h=>h
 | .tup l,v,h=>by
  simp only[Rep]at h⊢;obtain⟨a,vs,e,c,r⟩:=h;refine⟨a,vs,e,?_,bQ.mono p r⟩;rcases c with⟨n,c⟩|c
  .exact .inl (Rd.pres p n c)
  .exact .inr c
 | .lst l,v,h=>by
  simp only[Rep]at h⊢;obtain⟨a,vs,e,n,c,r⟩:=h;exact⟨a,vs,e,(p a _ n c).1,(p a _ n c).2,bQ.mono p r⟩
 | .rol l,v,h=>by
  simp only[Rep]at h⊢;obtain⟨a,vs,e,c,r⟩:=h;refine⟨a,vs,e,?_,bQ.mono p r⟩;rcases c with⟨n,c⟩|c
  .exact .inl (Rd.pres p n c)
  .exact .inr c
 | .obj C ks l,v,h=>by
  simp only[Rep]at h⊢;obtain⟨a,dx,vs,e,n,c,hl,r,ok⟩:=h;exact⟨a,dx,vs,e,(p a _ n c).1,(p a _ n c).2,hl,bQ.mono p r,ok⟩
 | .adr _,_,h=>h
 | .xob a d ks l,v,h=>by
  simp only[Rep]at h⊢;obtain⟨vs,e,n,c,hl,r⟩:=h;exact⟨vs,e,(p d _ n c).1,(p d _ n c).2,hl,bQ.mono p r⟩
theorem bQ.mono (p:mC A H A' H'): ∀{l:List D} {vs:List V},bQ K A H l vs->bQ K A' H' l vs
 | [],_,h=>by simp only[bQ]at h ⊢; exact h
 | d::ds,vs,h=>by
  simp only[bQ]at h⊢;obtain⟨v,vr,e,r,rs⟩:=h;exact⟨v,vr,e,Rep.mono p r,bQ.mono p rs⟩
end
theorem bQ.length: ∀{l:List D} {vs:List V},bQ K A H l vs->l.length=vs.length
 | [],_,h=>by simp only[bQ]at h;subst h;rfl
 | d::ds,vs,h=>by
  simp only[bQ]at h;obtain⟨v,vr,rfl,_,rs⟩:=h;simp only[dC,bQ.length rs]
theorem bQ.nil:bQ K A H [] []:=by simp only[bQ]
theorem bQ.cons {d:D}{v:V}{l:List D}{vs:List V}(r:Rep K A H d v)(rs:bQ K A H l vs):bQ K A H (d::l) (v::vs):=by
 simp only[bQ];exact⟨v,vs,rfl,r,rs⟩
theorem bQ.uncons {d:D}{l:List D}{vs:List V}(h:bQ K A H (d::l) vs): ∃v vr,vs=v::vr/\Rep K A H d v/\bQ K A H l vr:=by
 simpa only[bQ]using h
theorem bQ.unnil {vs:List V}(h:bQ K A H [] vs):vs=[]:=by simpa only[bQ]using h
theorem bQ.append: ∀{l m:List D} {vs ws:List V},bQ K A H l vs->bQ K A H m ws->bQ K A H (l++m) (vs++ws)
 | [],_,_,_,h,g=>by rw[h.unnil];exact g
 | d::l,m,vs,ws,h,g=>by
  obtain⟨v,vr,rfl,r,rs⟩:=h.uncons;exact .cons r (bQ.append rs g)
theorem bQ.get: ∀{l:List D} {vs:List V} {i:Nat} {d:D},bQ K A H l vs->l[i]? =some d-> ∃v,vs[i]? =some v/\Rep K A H d v
 | [],_,_,_,_,e=>by simp at e
 | d::l,vs,0,d',h,e=>by
  obtain⟨v,vr,rfl,r,rs⟩:=h.uncons;simp at e;subst e;exact⟨v,ae,r⟩
 | d::l,vs,i+1,d',h,e=>by
  obtain⟨v,vr,rfl,r,rs⟩:=h.uncons;obtain⟨w,h1,h2⟩:=bQ.get (i:=i) rs (by exists e)
  exact⟨w,by simpa using h1,h2⟩
theorem bQ.set: ∀{l:List D} {vs:List V} {d:D} {v:V} (i:Nat),bQ K A H l vs->Rep K A H d v->bQ K A H (l.set i d) (vs.set i v)
 | [],_,_,_,_,h,_=>by rw[h.unnil];exact .nil
 | d'::l,vs,d,v,0,h,g=>by
  obtain⟨w,vr,rfl,r,rs⟩:=h.uncons;exact .cons g rs
 | d'::l,vs,d,v,i+1,h,g=>by
  obtain⟨w,vr,rfl,r,rs⟩:=h.uncons;exact .cons r (bQ.set i rs g)
theorem bQ.drop: ∀{l:List D} {vs:List V} (n:Nat),bQ K A H l vs->bQ K A H (l.drop n) (vs.drop n)
 | _,_,0,h=>h
 | [],_,n+1,h=>by rw[h.unnil];exact .nil
 | d::l,vs,n+1,h=>by
  obtain⟨v,vr,rfl,r,rs⟩:=h.uncons;exact bQ.drop n rs
theorem bQ.take: ∀{l:List D} {vs:List V} (n:Nat),bQ K A H l vs->bQ K A H (l.take n) (vs.take n)
 | _,_,0,h=>by simp only[List.take_zero];exact .nil
 | [],_,n+1,h=>by rw[h.unnil];exact .nil
 | d::l,vs,n+1,h=>by
  obtain⟨v,vr,rfl,r,rs⟩:=h.uncons;exact .cons r (bQ.take n rs)
theorem bQ.rep {l:List D}{vs:List V}(h:bQ K A H l vs): ∀k:Nat,bQ K A H (replicate k l).flatten (replicate k vs).flatten
 | 0=> .nil
 | k+1=>by
  rw[jL,jL,n6,n6];exact .append h (h.rep k)
theorem mC.same (s:gK H H'):mC A H A H':=λb o n e=>⟨n,s b o e⟩
theorem mC.sub (s:gK H H')(h: ∀a,A' a->A a):mC A H A' H':=λb o n e=>⟨λq=>n (h b q),s b o e⟩
theorem mC.fresh (s:gK H H')(n:H a=none):mC A H (λb=>A b\/b=a) H':=λb o nb e=>
 ⟨λq=>q.elim nb λz=>(by subst z;rw[n]at e;cases e),s b o e⟩
theorem mC.upd {a:Addr}{o:HO}(h:A a):mC A H A (upd H a o):=λb o' nb e=>⟨nb,by rw[cD λz=>nb (by subst z;exact h)];exact e⟩
end
inductive B where
 | pu (d:D)|ow (l:List D)|bo (l:List D)
nonrec def B.d:B->D
 | .pu d=>d
 | .ow l=> .lst l
 | .bo l=> .lst l
abbrev Ev:=List (Option B)
def Own (ρ:Ev)(σ:L2.St):AS:=λa=> ∃(i:Nat) (l:List D),ρ[i]? =some (some<|.ow l)/\σ[i]? =some (some<|.ref a)
structure C0 where
 H0:Hp
 A0:AS
def Av (C:C0)(ρ:Ev)(σ:L2.St):AS:=λa=>C.A0 a\/Own ρ σ a
structure EOk (K:PySem.W.Frag)(C:C0)(ρ:Ev)(σ:L2.St)(H:Hp):Prop where
 len:ρ.length=σ.length
 pu: ∀(i:Nat) (d:D),ρ[i]? =some (some<|.pu d)-> ∃v,σ[i]? =some (some v)/\Rep K (Av C ρ σ) H d v
 ow: ∀(i:Nat) (l:List D),ρ[i]? =some (some<|.ow l)-> ∃a vs,σ[i]? =some (some<|.ref a)/\H a=some (.lst vs)/\C.H0 a=none/\bQ K (Av C ρ σ) H l vs
 inj: ∀(i j:Nat) (l l':List D) (a:Addr),ρ[i]? =some (some<|.ow l)->ρ[j]? =some (some<|.ow l')->σ[i]? =some (some<|.ref a)->σ[j]? =some (some<|.ref a)->i=j
 bo: ∀(i:Nat) (l:List D),ρ[i]? =some (some<|.bo l)-> ∃a vs,σ[i]? =some (some<|.ref a)/\C.A0 a/\C.H0 a=some (.lst vs)/\bQ K (Av C ρ σ) H l vs
 ext:gK C.H0 H
 a0: ∀a,C.A0 a->C.H0 a≠none
section
variable {K:PySem.W.Frag}{C:C0}{ρ ρ':Ev}{σ σ':L2.St}{H H':Hp}
theorem EOk.avSome (I:EOk K C ρ σ H)(h:Av C ρ σ a):H a≠none:=by
 rcases h with h| ⟨i,l,h1,h2⟩
 .intro z;cases e:C.H0 a with
  | none=>exact I.a0 a h e
  | some o=>rw[I.ext a o e]at z;cases z
 .obtain⟨b,vs,h3,h4,_⟩:=I.ow i l h1;rw[h2]at h3;cases h3;rw[h4];simp
theorem EOk.same (I:EOk K C ρ σ H)(s:gK H H'):EOk K C ρ σ H' where
 len:=I.len
 pu:=λi d h=>let ⟨v,h1,h2⟩:=I.pu i d h;⟨v,h1,h2.mono<|.same s⟩
 ow:=λi l h=>let ⟨a,vs,h1,h2,h3,h4⟩:=I.ow i l h;⟨a,vs,h1,s _ _ h2,h3,h4.mono<|.same s⟩
 inj:=I.inj
 bo:=λi l h=>let ⟨a,vs,h1,h2,h3,h4⟩:=I.bo i l h;⟨a,vs,h1,h2,h3,h4.mono<|.same s⟩
 ext:=I.ext.trans s
 a0:=I.a0
theorem get_set_ne {α:Type}{l:List α}{x:α}(h:i≠j):(l.set i x)[j]? =l[j]? :=by
 rw[aM4];simp[h]
theorem hZ {α:Type}{l:List α}{x:α}(h:i<l.length):(l.set i x)[i]? =some x:=by
 rw[aM4];simp[h]
theorem bC {α:Type}{l:List α}{x y:α}(h:(l.set i x)[j]? =some y):(i=j/\y=x/\i<l.length)\/(i≠j/\l[j]? =some y):=by
 by_cases e:i=j
 .subst e;rw[aM4]at h
  by_cases hl:i<l.length
  .simp[hl]at h;exact .inl ⟨rfl,h.symm,hl⟩
  .simp[hl]at h
 .exact .inr ⟨e,by rw[get_set_ne e]at h;exact h⟩
def oU (K:PySem.W.Frag)(A:AS)(H H':Hp):B->V->Prop
 | .pu d,v=>Rep K A H' d v
 | .ow l,v=> ∃a vs,v= .ref a/\H a=none/\H' a=some (.lst vs)/\bQ K (λb=>A b\/b=a) H' l vs
 | .bo _,_=>False
theorem oU.rep {A:AS}(hA: ∀a,A a->H a≠none): ∀{b:B} {v:V},oU K A H H' b v->Rep K A H' b.d v
 | .pu d,v,h=>h
 | .ow l,v,h=>by
  obtain⟨a,vs,e,n,h1,r⟩:=h;show Rep K A H' (.lst l) v;simp only[Rep];exact⟨a,vs,e,λz=>hA a z n,h1,r.mono λb o nb q=>⟨λz=>nb (.inl z),q⟩⟩
 | .bo l,v,h=>h.elim
theorem EOk.store (I:EOk K C ρ σ H){b:B}{v:V}{H1:Hp}(s:gK H H1)(r:oU K (Av C ρ σ) H H1 b v)(hi:i<σ.length):EOk K C (ρ.set i<|some b) (σ.set i<|some v) H1:=by
 have I1:=I.same s;have hir:i<ρ.length:=by rw[I.len];exact hi
 cases b with
 | pu d=>
  have sub: ∀a,Av C (ρ.set i<|some<|.pu d) (σ.set i<|some v) a->Av C ρ σ a:=by
   rintro a (z| ⟨j,l,h1,h2⟩)
   .exact .inl z
   .rcases bC h1 with⟨rfl,h3,_⟩| ⟨ne,h3⟩
    .cases h3
    .rw[get_set_ne ne]at h2;exact .inr ⟨j,l,h3,h2⟩
  refine⟨by rw[dL,dL];exact I.len,?_,?_,?_,?_,I1.ext,I.a0⟩
  rotate_right
  .intro j l h;rcases bC h with⟨rfl,h3,_⟩| ⟨ne,h3⟩
   .cases h3
   .obtain⟨a,vs,h4,h5,h6,h7⟩:=I1.bo j l h3;exact⟨a,vs,by rw[get_set_ne ne];exact h4,h5,h6,h7.mono<|.sub (.refl _) sub⟩
  .intro j d' h;rcases bC h with⟨rfl,h3,_⟩| ⟨ne,h3⟩
   .cases h3;exact⟨v,hZ hi,Rep.mono (.sub (.refl _) sub) r⟩
   .obtain⟨v',h4,h5⟩:=I1.pu j d' h3;exact⟨v',by rw[get_set_ne ne];exact h4,h5.mono<|.sub (.refl _) sub⟩
  .intro j l h;rcases bC h with⟨rfl,h3,_⟩| ⟨ne,h3⟩
   .cases h3
   .obtain⟨a,vs,h4,h5,h6,h7⟩:=I1.ow j l h3;exact⟨a,vs,by rw[get_set_ne ne];exact h4,h5,h6,h7.mono<|.sub (.refl _) sub⟩
  .intro j k l l' a h1 h2 h3 h4;rcases bC h1 with⟨rfl,z,_⟩| ⟨ne,z⟩
   .cases z
   .rcases bC h2 with⟨rfl,z',_⟩| ⟨ne',z'⟩
    .cases z'
    .rw[get_set_ne ne]at h3;rw[get_set_ne ne']at h4;exact I.inj j k l l' a z z' h3 h4
 | ow l0=>
  obtain⟨a0,vs0,rfl,n0,e0,r0⟩:=r;have sub: ∀a,Av C (ρ.set i<|some<|.ow l0) (σ.set i<|some<|.ref a0) a->Av C ρ σ a\/a=a0:=by
   rintro a (z| ⟨j,l,h1,h2⟩)
   .exact .inl (.inl z)
   .rcases bC h1 with⟨rfl,h3,_⟩| ⟨ne,h3⟩
    .rw[hZ hi]at h2;cases h2;exact .inr rfl
    .rw[get_set_ne ne]at h2;exact .inl (.inr ⟨j,l,h3,h2⟩)
  have P:mC (Av C ρ σ) H (Av C (ρ.set i<|some<|.ow l0)<|σ.set i<|some<|.ref a0) H1:=λb o nb e=>
   ⟨λq=>(sub b q).elim nb λz=>(by subst z;rw[n0]at e;cases e),s b o e⟩
  refine⟨by rw[dL,dL];exact I.len,?_,?_,?_,?_,I1.ext,I.a0⟩
  rotate_right
  .intro j l h;rcases bC h with⟨rfl,h3,_⟩| ⟨ne,h3⟩
   .cases h3
   .obtain⟨a,vs,h4,h5,h6,h7⟩:=I.bo j l h3;exact⟨a,vs,by rw[get_set_ne ne];exact h4,h5,h6,h7.mono P⟩
  .intro j d' h;rcases bC h with⟨rfl,h3,_⟩| ⟨ne,h3⟩
   .cases h3
   .obtain⟨v',h4,h5⟩:=I.pu j d' h3;exact⟨v',by rw[get_set_ne ne];exact h4,h5.mono P⟩
  .intro j l h;rcases bC h with⟨rfl,h3,_⟩| ⟨ne,h3⟩
   .cases h3;refine⟨a0,vs0,hZ hi,e0,?_,r0.mono λb o nb q=>⟨λz=>nb (sub b z),q⟩⟩
    cases e:C.H0 a0 with
    | none=>rfl
    | some o=>rw[I.ext _ _ e]at n0;cases n0
   .obtain⟨a,vs,h4,h5,h6,h7⟩:=I.ow j l h3;exact⟨a,vs,by rw[get_set_ne ne];exact h4,s _ _ h5,h6,h7.mono P⟩
  .intro j k l l' a h1 h2 h3 h4;have old: ∀{j:Nat} {l:List D},ρ[j]? =some (some<|.ow l)->σ[j]? ≠some (some<|.ref a0):=λ{j l} h z=>by
    obtain⟨b,vs,h4,h5,_⟩:=I.ow j l h;rw[z]at h4;cases h4;rw[n0]at h5;cases h5
   rcases bC h1 with⟨rfl,z,_⟩| ⟨ne,z⟩
   .rw[hZ hi]at h3;cases h3;rcases bC h2 with⟨rfl,z',_⟩| ⟨ne',z'⟩
    .rfl
    .rw[get_set_ne ne']at h4;exact absurd h4 (old z')
   .rw[get_set_ne ne]at h3;rcases bC h2 with⟨rfl,z',_⟩| ⟨ne',z'⟩
    .rw[hZ hi]at h4;cases h4;exact absurd h3 (old z)
    .rw[get_set_ne ne']at h4;exact I.inj j k l l' a z z' h3 h4
 | bo l0=>exact r.elim
theorem EOk.freeze (I:EOk K C ρ σ H){l:List D}(h:ρ[i]? =some (some<|.ow l)) :
  EOk K C (ρ.set i<|some<|.pu<|.lst l) σ H/\(∀a,Own (ρ.set i<|some<|.pu<|.lst l) σ a->Own ρ σ a)/\ ∃v,σ[i]? =some (some v)/\Rep K (Av C (ρ.set i<|some<|.pu<|.lst l) σ) H (.lst l) v:=by
 have sub: ∀a,Own (ρ.set i<|some<|.pu<|.lst l) σ a->Own ρ σ a:=by
  rintro a ⟨j,l',h1,h2⟩;rcases bC h1 with⟨rfl,h3,_⟩| ⟨ne,h3⟩
  .cases h3
  .exact⟨j,l',h3,h2⟩
 have subA: ∀a,Av C (ρ.set i<|some<|.pu<|.lst l) σ a->Av C ρ σ a:=λa z=>z.imp id (sub a)
 obtain⟨a,vs,h1,h2,h3,h4⟩:=I.ow i l h;have na: ¬Av C (ρ.set i<|some<|.pu<|.lst l) σ a:=by
  rintro(z| ⟨j,l',g1,g2⟩)
  .exact I.a0 a z h3
  .rcases bC g1 with⟨rfl,g3,_⟩| ⟨ne,g3⟩
   .cases g3
   .exact ne (I.inj i j l l' a h g3 h1 g2)
 have R:Rep K (Av C (ρ.set i<|some<|.pu<|.lst l) σ) H (.lst l) (.ref a):=by
  simp only[Rep];exact⟨a,vs,rfl,na,h2,h4.mono<|.sub (.refl _) subA⟩
 refine⟨⟨by rw[dL];exact I.len,?_,?_,?_,?_,I.ext,I.a0⟩,sub,.ref a,h1,R⟩
 rotate_right
 .intro j l' g;rcases bC g with⟨rfl,g3,_⟩| ⟨ne,g3⟩
  .cases g3
  .obtain⟨a',vs',g4,g5,g6,g7⟩:=I.bo j l' g3;exact⟨a',vs',g4,g5,g6,g7.mono<|.sub (.refl _) subA⟩
 .intro j d' g;rcases bC g with⟨rfl,g3,_⟩| ⟨ne,g3⟩
  .cases g3;exact⟨_,h1,R⟩
  .obtain⟨v',g4,g5⟩:=I.pu j d' g3;exact⟨v',g4,g5.mono<|.sub (.refl _) subA⟩
 .intro j l' g;rcases bC g with⟨rfl,g3,_⟩| ⟨ne,g3⟩
  .cases g3
  .obtain⟨a',vs',g4,g5,g6,g7⟩:=I.ow j l' g3;exact⟨a',vs',g4,g5,g6,g7.mono<|.sub (.refl _) subA⟩
 .intro j k l1 l2 a' g1 g2 g3 g4;rcases bC g1 with⟨rfl,z,_⟩| ⟨ne,z⟩
  .cases z
  .rcases bC g2 with⟨rfl,z',_⟩| ⟨ne',z'⟩
   .cases z'
   .exact I.inj j k l1 l2 a' z z' g3 g4
theorem EOk.write (I:EOk K C ρ σ H){l l':List D}{vs':List V}(h:ρ[i]? =some (some<|.ow l))(hs:σ[i]? =some (some<|.ref a))(r:bQ K (Av C ρ σ) H l' vs') :
  EOk K C (ρ.set i<|some<|.ow l') σ (upd H a<|.lst vs'):=by
 have hi:i<ρ.length:=(jK.mp h).1;have sub: ∀b,Av C (ρ.set i<|some<|.ow l') σ b->Av C ρ σ b:=by
  rintro b (z| ⟨j,l2,h1,h2⟩)
  .exact .inl z
  .rcases bC h1 with⟨rfl,h3,_⟩| ⟨ne,h3⟩
   .exact .inr ⟨i,l,h,h2⟩
   .exact .inr ⟨j,l2,h3,h2⟩
 have own:Av C ρ σ a:= .inr ⟨i,l,h,hs⟩;have P:mC (Av C ρ σ) H (Av C (ρ.set i<|some<|.ow l') σ) (upd H a<|.lst vs'):=λb o nb e=>⟨λz=>nb (sub b z),(mC.upd own b o nb e).2⟩
 obtain⟨a1,vs,h1,h2,h3,h4⟩:=I.ow i l h;rw[hs]at h1;cases h1;refine⟨by rw[dL];exact I.len,?_,?_,?_,?_,?_,I.a0⟩
 rotate_left 3
 .intro j l2 g;rcases bC g with⟨rfl,g3,_⟩| ⟨ne,g3⟩
  .cases g3
  .obtain⟨a',vs',g4,g5,g6,g7⟩:=I.bo j l2 g3;exact⟨a',vs',g4,g5,g6,g7.mono P⟩
 rotate_left 1
 .intro j d' g;rcases bC g with⟨rfl,g3,_⟩| ⟨ne,g3⟩
  .cases g3
  .obtain⟨v',g4,g5⟩:=I.pu j d' g3;exact⟨v',g4,g5.mono P⟩
 .intro j l2 g;rcases bC g with⟨rfl,g3,_⟩| ⟨ne,g3⟩
  .cases g3;exact⟨a,vs',hs,iJ,h3,r.mono P⟩
  .obtain⟨a',vs2,g4,g5,g6,g7⟩:=I.ow j l2 g3;refine⟨a',vs2,g4,?_,g6,g7.mono P⟩;rw[cD λz=> ?_]
   .exact g5
   .subst z;exact ne (I.inj i j l l2 a' h g3 hs g4)
 .intro j k l1 l2 a' g1 g2 g3 g4;have old: ∀{j:Nat} {l1:List D},(ρ.set i<|some<|.ow l')[j]? =some (some<|.ow l1)-> ∃l3,ρ[j]? =some (some<|.ow l3):=λ{j l1} g=>by
   rcases bC g with⟨rfl,z,_⟩| ⟨ne,z⟩
   .exact⟨l,h⟩
   .exact⟨l1,z⟩
  obtain⟨_,q1⟩:=old g1;obtain⟨_,q2⟩:=old g2;exact I.inj j k _ _ a' q1 q2 g3 g4
 .intro b o e;rw[cD λz=> ?_]
  .exact I.ext b o e
  .subst z;rw[h3]at e;cases e
nonrec def C0.raise (C:C0)(ρ:Ev)(σ:L2.St)(H:Hp)(D:(a:Addr)->Decidable (Own ρ σ a)):C0:=⟨λb=> @ite _ (Own ρ σ b) (D b) none (H b),C.A0⟩
open Classical in
theorem EOk.raise (I:EOk K C ρ σ H):EOk K (C.raise ρ σ H λ_=>inferInstance) ρ σ H/\gK C.H0 (C.raise ρ σ H λ_=>inferInstance).H0:=by
 have e1: ∀b,Own ρ σ b->(C.raise ρ σ H λ_=>inferInstance).H0 b=none:=λb h=>aA h
 have e2: ∀b,¬Own ρ σ b->(C.raise ρ σ H λ_=>inferInstance).H0 b=H b:=λb h=>a8 h
 have no: ∀b o,C.H0 b=some o-> ¬Own ρ σ b:=λb o e ⟨i,l,h1,h2⟩=>by
  obtain⟨a,vs,h3,h4,h5,_⟩:=I.ow i l h1;rw[h2]at h3;cases h3;rw[h5]at e;cases e
 have s1:gK C.H0 (C.raise ρ σ H λ_=>inferInstance).H0:=λb o e=>by rw[e2 b<|no b o e];exact I.ext b o e
 refine⟨⟨I.len,I.pu,λi l h=> ?_,I.inj,λi l h=> ?_,λb o e=> ?_,λa h z=> ?_⟩,s1⟩
 .obtain⟨a,vs,h3,h4,h5,h6⟩:=I.ow i l h;exact⟨a,vs,h3,h4,e1 a ⟨i,l,h,h3⟩,h6⟩
 .obtain⟨a,vs,h3,h4,h5,h6⟩:=I.bo i l h;exact⟨a,vs,h3,h4,s1 _ _ h5,h6⟩
 .by_cases q:Own ρ σ b
  .rw[e1 b q]at e;cases e
  .rw[e2 b q]at e;exact e
 .cases e:C.H0 a with
  | none=>exact I.a0 a h e
  | some o=>rw[s1 a o e]at z;cases z
theorem EOk.lower {C C':C0}(I:EOk K C' ρ σ H)(s:gK C.H0 C'.H0)(e:C'.A0=C.A0)(ha: ∀a,C.A0 a->C.H0 a≠none):EOk K C ρ σ H:=by
 obtain⟨H0',A0'⟩:=C';obtain⟨H0,A0⟩:=C;have e':A0'=A0:=e;subst e';refine⟨I.len,I.pu,λi l h=> ?_,I.inj,λi l h=> ?_,s.trans I.ext,ha⟩
 .obtain⟨a,vs,h3,h4,h5,h6⟩:=I.ow i l h;exact⟨a,vs,h3,h4,s.free h5,h6⟩
 .obtain⟨a,vs,h3,h4,h5,h6⟩:=I.bo i l h;refine⟨a,vs,h3,h4,?_,h6⟩;cases e:H0 a with
  | none=>exact absurd e (ha a h4)
  | some o=>
   have:=s a o e;have h5':H0' a=some (.lst vs):=h5;have this':H0' a=some o:=this;rw[h5']at this';cases this';exact e
end
def Frz (ρ ρ':Ev):Prop:=ρ'.length=ρ.length/\ ∀i:Nat,ρ'[i]? =ρ[i]? \/ ∃l:List D,ρ[i]? =some (some<|.ow l)/\ρ'[i]? =some (some<|.pu<|.lst l)
theorem Frz.refl (ρ:Ev):Frz ρ ρ:=⟨rfl,λ_=> .inl rfl⟩
theorem Frz.trans {a b c:Ev}(h:Frz a b)(g:Frz b c):Frz a c:=by
 refine⟨g.1.trans h.1,λi=> ?_⟩
 rcases g.2 i with e| ⟨l,e1,e2⟩
 .rcases h.2 i with e'| ⟨l,e1,e2⟩
  .exact .inl (e.trans e')
  .exact .inr ⟨l,e1,e.trans e2⟩
 .rcases h.2 i with e'| ⟨l',e3,e4⟩
  .exact .inr ⟨l,e'▸e1,e2⟩
  .rw[e4]at e1;cases e1
theorem Frz.own {ρ ρ':Ev}{σ:L2.St}(f:Frz ρ ρ')(h:Own ρ' σ a):Own ρ σ a:=by
 obtain⟨i,l,h1,h2⟩:=h;rcases f.2 i with e| ⟨l',_,e2⟩
 .exact⟨i,l,e▸h1,h2⟩
 .rw[e2]at h1;cases h1
theorem Frz.set {ρ:Ev}{l:List D}(h:ρ[i]? =some (some<|.ow l)):Frz ρ (ρ.set i<|some<|.pu<|.lst l):=by
 refine⟨dL,λj=> ?_⟩
 by_cases e:i=j
 .subst e;exact .inr ⟨l,h,hZ (jK.mp h).1⟩
 .exact .inl (get_set_ne e)
section
variable {K:PySem.W.Frag}{C:C0}{ρ ρ':Ev}{σ:L2.St}{H H':Hp}
theorem Frz.av (f:Frz ρ ρ')(h:Av C ρ' σ a):Av C ρ σ a:=h.imp id f.own
theorem EOk.frz (I:EOk K C ρ σ H)(f:Frz ρ ρ'):EOk K C ρ' σ H:=by
 have ow': ∀{j:Nat} {l:List D},ρ'[j]? =some (some<|.ow l)->ρ[j]? =some (some<|.ow l):=λ{j l} h=>by
  rcases f.2 j with e| ⟨l',_,e2⟩
  .exact e▸h
  .rw[e2]at h;cases h
 refine⟨by rw[f.1];exact I.len,λi d h=> ?_,λi l h=> ?_,λi j l l' a h1 h2=>I.inj i j l l' a (ow' h1) (ow' h2),λi l h=> ?_,I.ext,I.a0⟩
 .rcases f.2 i with e| ⟨l,e1,e2⟩
  .obtain⟨v,h1,h2⟩:=I.pu i d (e▸h);exact⟨v,h1,h2.mono<|.sub (.refl _) λa=>f.av⟩
  .rw[e2]at h;cases h;obtain⟨a,vs,h1,h2,h3,h4⟩:=I.ow i l e1;refine⟨.ref a,h1,?_⟩;simp only[Rep];refine⟨a,vs,rfl,?_,h2,h4.mono<|.sub (.refl _) λa=>f.av⟩
   rintro(z| ⟨j,l',g1,g2⟩)
   .exact I.a0 a z h3
   .have:=I.inj i j l l' a e1 (ow' g1) h1 g2;subst this;rw[e2]at g1;cases g1
 .obtain⟨a,vs,h1,h2,h3,h4⟩:=I.ow i l (ow' h);exact⟨a,vs,h1,h2,h3,h4.mono<|.sub (.refl _) λa=>f.av⟩
 .have h':ρ[i]? =some (some<|.bo l):=by
   rcases f.2 i with e| ⟨l',_,e2⟩
   .exact e▸h
   .rw[e2]at h;cases h
  obtain⟨a,vs,h1,h2,h3,h4⟩:=I.bo i l h';exact⟨a,vs,h1,h2,h3,h4.mono<|.sub (.refl _) λa=>f.av⟩
end
abbrev UE:=Ev->(B->Ev->Prop)->Prop
abbrev UV:=Ev->(D->Ev->Prop)->Prop
abbrev UA:=Ev->(List D->Ev->Prop)->Prop
abbrev UT:=Ev->(Bool->Ev->Prop)->Prop
def lE (K:PySem.W.Frag)(t:UE):TE:=λσ H Q=> ∃C ρ Q0,EOk K C ρ σ H/\t ρ Q0/\
 ∀b ρ' v H',Q0 b ρ'->Frz ρ ρ'->gK H H'->oU K (Av C ρ' σ) H H' b v->Q v H'
def lA (K:PySem.W.Frag)(t:UA):TA:=λσ H Q=> ∃C ρ Q0,EOk K C ρ σ H/\t ρ Q0/\
 ∀ds ρ' vs H',Q0 ds ρ'->Frz ρ ρ'->gK H H'->bQ K (Av C ρ' σ) H' ds vs->Q vs H'
def lT (K:PySem.W.Frag)(t:UT):TT:=λσ H Q=> ∃C ρ Q0,EOk K C ρ σ H/\t ρ Q0/\
 ∀b ρ' H',Q0 b ρ'->Frz ρ ρ'->gK H H'->Q b H'
def cD0 (K:PySem.W.Frag)(A:AS)(H:Hp):D->V->Prop
 | .tup l,v=> ∃a vs,v= .ref a/\SqT K H a vs/\bQ K A H l vs
 | .lst l,v=> ∃a vs,v= .ref a/\H a=some (.lst vs)/\bQ K A H l vs
 | .rol l,v=> ∃a vs,v= .ref a/\SqL K H a vs/\bQ K A H l vs
 | d,v=>Rep K A H d v
def lV (K:PySem.W.Frag)(t:UV):TE:=λσ H Q=> ∃C ρ Q0,EOk K C ρ σ H/\t ρ Q0/\
 ∀d ρ' v H',Q0 d ρ'->Frz ρ ρ'->gK H H'->cD0 K (Av C ρ' σ) H' d v->Q v H'
def PU (X:Cx)(e:Expr)(t:UE):Prop:=PE X e (lE X.K t)
def PUV (X:Cx)(e:Expr)(t:UV):Prop:=PE X e (lV X.K t)
def PUA (X:Cx)(es:List Expr)(t:UA):Prop:=PA X es (lA X.K t)
def PUT (X:Cx)(e:Expr)(t:UT):Prop:=PT X e (lT X.K t)
def PUW (X:Cx)(e:Expr)(t:UT):Prop:=PW X e (lT X.K t)
section
variable {K:PySem.W.Frag}{A:AS}{H:Hp}
theorem Rep.one: ∀{d:D} {v:V},Rep K A H d v->cD0 K A H d v
 | .non,_,h=>h
 | .bl _,_,h=>h
 | .int _,_,h=>h
 | .str _,_,h=>h
 | .ty _,_,h=>h
 | .tup l,v,h=>by
  simp only[Rep]at h;obtain⟨a,vs,e,c,r⟩:=h;exact⟨a,vs,e,c.imp cJ id,r⟩
 | .lst l,v,h=>by
  simp only[Rep]at h;obtain⟨a,vs,e,n,c,r⟩:=h;exact⟨a,vs,e,c,r⟩
 | .rol l,v,h=>by
  simp only[Rep]at h;obtain⟨a,vs,e,c,r⟩:=h;exact⟨a,vs,e,c.imp cJ id,r⟩
 | .obj _ _ _,_,h=>h
 | .adr _,_,h=>h
 | .xob _ _ _ _,_,h=>h
end
theorem gR {X:Cx}{t t':TE}(h:PE X e t)(i: ∀σ H Q,t' σ H Q->t σ H Q):PE X e t':=λpins s σ H Q I q=>h pins s σ H Q I (i σ H Q q)
theorem dM8 {X:Cx}{t t':TA}(h:PA X es t)(i: ∀σ H Q,t' σ H Q->t σ H Q):PA X es t':=λpos pins s σ H Q I q=>h pos pins s σ H Q I (i σ H Q q)
theorem c13 {X:Cx}{t t':TT}(h:PT X e t)(i: ∀σ H Q,t' σ H Q->t σ H Q):PT X e t':=λpins s σ H Q I q=>h pins s σ H Q I (i σ H Q q)
theorem dM9 {X:Cx}{t t':TT}(h:PW X e t)(i: ∀σ H Q,t' σ H Q->t σ H Q):PW X e t':=λw pins s σ H Q I q=>h w pins s σ H Q I (i σ H Q q)
section
variable {X:Cx}{a b c e o:Expr}{es fS:List Expr}{pos:Pos}{ta tb tc:UE}
def uC (d:D):UE:=λρ Q=>Q (.pu d) ρ
theorem aE {i j pos}:PU X (.Constant (.int i) j pos) (uC<|.int i):=gR pe_int λσ H Q ⟨C,ρ,Q0,I,h,k⟩=>k _ ρ _ H h (.refl _) (.refl _) (show Rep _ _ _ _ _ by simp only[Rep])
theorem cJ8 {b j pos}:PU X (.Constant (.bool b) j pos) (uC<|.bl b):=gR pe_bl λσ H Q ⟨C,ρ,Q0,I,h,k⟩=>k _ ρ _ H h (.refl _) (.refl _) (show Rep _ _ _ _ _ by simp only[Rep])
theorem b91 {j pos}:PU X (.Constant .none j pos) (uC .non):=gR pe_non λσ H Q ⟨C,ρ,Q0,I,h,k⟩=>k _ ρ _ H h (.refl _) (.refl _) (show Rep _ _ _ _ _ by simp only[Rep])
theorem cX8 {x j pos}:PU X (.Constant (.str x) j pos) (uC<|.str x):=gR pe_str λσ H Q ⟨C,ρ,Q0,I,h,k⟩=>k _ ρ _ H h (.refl _) (.refl _) (show Rep _ _ _ _ _ by simp only[Rep])
def a78 (ρ:Ev)(i:Nat)(Q:B->Ev->Prop):Prop:=match ρ[i]? with
 | some (some<|.pu d)=>Q (.pu d) ρ
 | some (some<|.ow l)=>Q (.pu<|.lst l) (ρ.set i<|some<|.pu<|.lst l)
 | _=>False
def aC (i:Nat):UE:=λρ Q=>a78 ρ i Q
theorem cR (i:Nat){pos:Pos}(h:PE X (.Name x pos) (a75 i)):PU X (.Name x pos) (aC i):=gR h λσ H Q ⟨C,ρ,Q0,I,h,k⟩=>by
 unfold aC a78 at h;split at h
 .rename_i d e
  obtain⟨v,h1,h2⟩:=I.pu i d e;exact⟨v,h1,k _ ρ v H h (.refl _) (.refl _) h2⟩
 .rename_i l e
  obtain⟨_,_,v,h1,h2⟩:=I.freeze e;exact⟨v,h1,k _ _ v H h (.set e) (.refl _) h2⟩
 .exact h.elim
def c14 (ρ:Ev)(i:Nat)(Q:D->Ev->Prop):Prop:=match ρ[i]? with
 | some (some<|.pu d)=>Q d ρ
 | some (some<|.ow l)=>Q (.lst l) ρ
 | some (some<|.bo l)=>Q (.lst l) ρ
 | _=>False
def aW (i:Nat):UV:=λρ Q=>c14 ρ i Q
theorem mD (i:Nat){pos:Pos}(h:PE X (.Name x pos) (a75 i)):PUV X (.Name x pos) (aW i):=gR h λσ H Q ⟨C,ρ,Q0,I,h,k⟩=>by
 unfold aW c14 at h;split at h
 .rename_i d e
  obtain⟨v,h1,h2⟩:=I.pu i d e;exact⟨v,h1,k _ ρ v H h (.refl _) (.refl _) h2.one⟩
 .rename_i l e
  obtain⟨a,vs,h1,h2,h3,h4⟩:=I.ow i l e;exact⟨_,h1,k _ ρ _ H h (.refl _) (.refl _) ⟨a,vs,rfl,h2,h4⟩⟩
 .rename_i l e
  obtain⟨a,vs,h1,h2,h3,h4⟩:=I.bo i l e;exact⟨_,h1,k _ ρ _ H h (.refl _) (.refl _) ⟨a,vs,rfl,I.ext _ _ h3,h4⟩⟩
 .exact h.elim
def uV (t:UE):UV:=λρ Q=>t ρ λb ρ1=>Q b.d ρ1
theorem EOk.avF {C:C0}{ρ ρ':Ev}{σ:L2.St}{H:Hp}(I:EOk K C ρ σ H)(f:Frz ρ ρ'){a:Addr}(h:Av C ρ' σ a):H a≠none:=I.avSome (f.av h)
theorem oW (h:PU X e ta):PUV X e (uV ta):=gR h λσ H Q ⟨C,ρ,Q0,I,h,k⟩=>
 ⟨C,ρ,_,I,h,λb ρ' v H' q f s r=>k b.d ρ' v H' q f s (r.rep λa z=>I.avF f z).one⟩
theorem b66 {v:V}{d:D}{pos:Pos}(h:PE X (.Name x pos) (tC v))(r: ∀A H,Rep X.K A H d v):PU X (.Name x pos) (uC d):=gR h λσ H Q ⟨C,ρ,Q0,I,h,k⟩=>k _ ρ _ H h (.refl _) (.refl _) (r _ _)
def OpU (X:Cx)(f:Value->Value->Sem Value)(g:D->D->(B->Prop)->Prop):Prop:=
 ∀(A:AS) (H:Hp) (d e:D) (v w:V) (Q0:B->Prop) (Q:VK),(∀a,A a->H a≠none)->Rep X.K A H d v->Rep X.K A H e w->g d e Q0->
  (∀b v' H',Q0 b->gK H H'->oU X.K A H H' b v'->Q v' H')-> ∃r,OpR X f r/\r v w H Q
def uOp (g:D->D->(B->Prop)->Prop)(ta tb:UE):UE:=λρ Q=>ta ρ λx ρ1=>tb ρ1 λy ρ2=>g x.d y.d λb=>Q b ρ2
theorem cX9 {f:Value->Value->Sem Value}:OpR X f (λx y H Q=> ∃r,OpR X f r/\r x y H Q):=λpins s σ H x y v u Q I rx ry ⟨r,hr,q⟩=>hr pins s σ H x y v u Q I rx ry q
theorem oU.from {K:PySem.W.Frag}{A:AS}{H0 H H':Hp}(s:gK H0 H): ∀{b:B} {v:V},oU K A H H' b v->oU K A H0 H' b v
 | .pu _,_,h=>h
 | .ow _,_,⟨a,vs,e,n,h1,r⟩=>⟨a,vs,e,s.free n,h1,r⟩
 | .bo _,_,h=>h.elim
theorem lOp {f:Value->Value->Sem Value}{g:D->D->(B->Prop)->Prop}(ho:OpU X f g)(σ:L2.St)(H:Hp)(Q:VK)(h:lE X.K (uOp g ta tb) σ H Q) :
  tOp (λx y H Q=> ∃r,OpR X f r/\r x y H Q) (lE X.K ta) (lE X.K tb) σ H Q:=by
 obtain⟨C,ρ,Q0,I,h,k⟩:=h;refine⟨C,ρ,_,I,h,λx ρ1 v H1 q1 f1 s1 r1=> ?_⟩
 have I1:=(I.frz f1).same s1;refine⟨C,ρ1,_,I1,q1,λy ρ2 w H2 q2 f2 s2 r2=> ?_⟩
 have I2:=(I1.frz f2).same s2;have hA: ∀a,Av C ρ2 σ a->H2 a≠none:=λa z=>I2.avSome z
 refine ho (Av C ρ2 σ) H2 x.d y.d v w _ Q hA ((r1.rep λa z=>I.avF f1 z).mono<|.sub s2 λa=>f2.av) (r2.rep λa z=>I1.avF f2 z) q2 λb v' H' q s r=> ?_
 exact k b ρ2 v' H' q (f1.trans f2) (s1.trans<|s2.trans s) (r.from<|s1.trans s2)
theorem aI {op:Operator}{g:D->D->(B->Prop)->Prop}(ho:OpU X (binaryOp op) g)(ha:PU X a ta)(hb:PU X b tb):PU X (.BinOp a op b pos) (uOp g ta tb):=
 gR (pe_op cX9 ha hb) (lOp ho)
theorem pu_cmp {g:D->D->(B->Prop)->Prop}(ho:OpU X (compareOp op) g)(ha:PU X a ta)(hb:PU X b tb)(hm:behindInMarks op b=false):PU X (.Compare a [op] [b] pos) (uOp g ta tb):=
 gR (dC0 cX9 ha hb hm) (lOp ho)
def isB (Q:Bool->Ev->Prop):B->Ev->Prop:=λb ρ=>match b with
 | .pu (.bl k)=>Q k ρ
 | _=>False
def dJ (t:UE):UT:=λρ Q=>t ρ (isB Q)
theorem dD2 {t:UE}(σ:L2.St)(H:Hp)(Q:Bool->Hp->Prop)(h:lT X.K (dJ t) σ H Q):lE X.K t σ H λx H'=> ∃k,x= .bl k/\Q k H':=by
 obtain⟨C,ρ,Q0,I,h,k⟩:=h;refine⟨C,ρ,_,I,h,λb ρ' v H' q f s r=> ?_⟩
 unfold isB at q;split at q
 .rename_i k'
  refine⟨k',?_,k k' ρ' H' q f s⟩
  have r':Rep X.K (Av C ρ' σ) H' (.bl k') v:=r
  simpa only[Rep]using r'
 .exact q.elim
theorem cY0 (h:PU X e ta)(he: ∀whole,isTrue e X.env whole=(do let v<-whole;standAt e.pos;holding [v] (truthy v)):=by intro _;rfl):PUT X e (dJ ta):=
 c13 (pt_val h he) dD2
theorem aE3 {g:D->D->(B->Prop)->Prop}(ho:OpU X (compareOp op) g)(ha:PU X a ta)(hb:PU X b tb)(hm:behindInMarks op b=false):PUT X (.Compare a [op] [b] pos) (dJ<|uOp g ta tb):=
 c13 (dC1 cX9 ha hb hm) λσ H Q h=>lOp ho σ H _ (dD2 σ H Q h)
def cD1 (t u:UT):UT:=λρ Q=>t ρ λc ρ1=>if c=true then u ρ1 Q else Q false ρ1
def uOr (t u:UT):UT:=λρ Q=>t ρ λc ρ1=>if c=true then Q true ρ1 else u ρ1 Q
def dD3 (t:UT):UT:=λρ Q=>t ρ λc ρ1=>Q (!c) ρ1
variable {tA tB:UT}
theorem a79 (ha:PUT X a tA):PUW X (.BoolOp .And [a] pos) tA:=dB2 ha
theorem dD4 (ha:PUT X a tA):PUW X (.BoolOp .Or [a] pos) tA:=pw_or1 ha
theorem aR7 (ha:PUT X a tA)(hb:PUW X (.BoolOp .And (b::fS) pos) tB):PUW X (.BoolOp .And (a::b::fS) pos) (cD1 tA tB):=
 dM9 (pw_and ha hb) λσ H Q ⟨C,ρ,Q0,I,h,k⟩=>⟨C,ρ,_,I,h,λc ρ1 H1 q f s=>by
  cases c with
  | true=>
   rw[aA rfl]at q⊢;exact⟨C,ρ1,Q0,(I.frz f).same s,q,λb ρ2 H2 q2 f2 s2=>k b ρ2 H2 q2 (f.trans f2) (s.trans s2)⟩
  | false=>
   rw[a8 bH]at q⊢;exact k _ _ _ q f s⟩
theorem cY1 (ha:PUT X a tA)(hb:PUW X (.BoolOp .Or (b::fS) pos) tB):PUW X (.BoolOp .Or (a::b::fS) pos) (uOr tA tB):=
 dM9 (pw_or ha hb) λσ H Q ⟨C,ρ,Q0,I,h,k⟩=>⟨C,ρ,_,I,h,λc ρ1 H1 q f s=>by
  cases c with
  | true=>
   rw[aA rfl]at q⊢;exact k _ _ _ q f s
  | false=>
   rw[a8 bH]at q⊢;exact⟨C,ρ1,Q0,(I.frz f).same s,q,λb ρ2 H2 q2 f2 s2=>k b ρ2 H2 q2 (f.trans f2) (s.trans s2)⟩⟩
theorem PUW.pt (h:PUW X e tA):PUT X e tA:=PW.pt h
theorem cJ9 (ha:PUT X a tA):PUT X (.UnaryOp .Not a pos) (dD3 tA):=
 c13 (pt_not ha) λσ H Q ⟨C,ρ,Q0,I,h,k⟩=>⟨C,ρ,_,I,h,λc ρ1 H1 q f s=>k _ ρ1 H1 q f s⟩
def c15 (t u:UE):UE:=λρ Q=>t ρ λx ρ1=>isB (λc ρ1=>if c=true then u ρ1 Q else Q (.pu<|.bl false) ρ1) x ρ1
def cK0 (t:UE):UE:=λρ Q=>t ρ λx ρ1=>isB (λc ρ1=>Q (.pu<|.bl<|!c) ρ1) x ρ1
theorem cK1 {Q:Bool->Ev->Prop}{b:B}{ρ:Ev}{A:AS}{H H':Hp}{v:V}(h:isB Q b ρ)(r:oU K A H H' b v): ∃k,v= .bl k/\Q k ρ:=by
 unfold isB at h;split at h
 .rename_i k'
  have r':Rep K A H' (.bl k') v:=r;exact⟨k',by simpa only[Rep]using r',h⟩
 .exact h.elim
theorem nQ {A:AS}{H H':Hp}{k:Bool}:oU K A H H' (.pu<|.bl k) (.bl k):=by
 show Rep K A H' (.bl k) (.bl k)
 simp only[Rep]
theorem cD2 {op}(h:PU X a ta):PU X (.BoolOp op [a] pos) ta:=pe_one h
theorem cD3 (ha:PU X a ta)(hb:PU X (.BoolOp .And (b::fS) pos) tb):PU X (.BoolOp .And (a::b::fS) pos) (c15 ta tb):=
 gR (pe_and ha hb) λσ H Q ⟨C,ρ,Q0,I,h,k⟩=>⟨C,ρ,_,I,h,λx ρ1 v H1 q f s r=>by
  obtain⟨c,rfl,q⟩:=cK1 q r;refine⟨c,rfl,?_⟩;cases c with
  | true=>
   rw[aA rfl]at q⊢;exact⟨C,ρ1,Q0,(I.frz f).same s,q,λb ρ2 v H2 q2 f2 s2 r2=>k b ρ2 v H2 q2 (f.trans f2) (s.trans s2) (r2.from s)⟩
  | false=>
   rw[a8 bH]at q⊢;exact k _ _ _ _ q f s nQ⟩
theorem cY2 (ha:PU X a ta):PU X (.UnaryOp .Not a pos) (cK0 ta):=
 gR (pe_not ha) λσ H Q ⟨C,ρ,Q0,I,h,k⟩=>⟨C,ρ,_,I,h,λx ρ1 v H1 q f s r=>by
  obtain⟨c,rfl,q⟩:=cK1 q r;exact⟨c,rfl,k _ _ _ _ q f s nQ⟩⟩
def uIf (t:UT)(ta tb:UE):UE:=λρ Q=>t ρ λc ρ1=>if c=true then ta ρ1 Q else tb ρ1 Q
theorem cY3 (hc:PUT X c tA)(ha:PU X a ta)(hb:PU X b tb):PU X (.IfExp c a b pos) (uIf tA ta tb):=
 gR (cV5 hc ha hb) λσ H Q ⟨C,ρ,Q0,I,h,k⟩=>⟨C,ρ,_,I,h,λc ρ1 H1 q f s=>by
  have I1:=(I.frz f).same s;cases c with
  | true=>
   dsimp only at q⊢;rw[aA rfl]at q⊢;exact⟨C,ρ1,Q0,I1,q,λb ρ2 v H2 q2 f2 s2 r2=>k b ρ2 v H2 q2 (f.trans f2) (s.trans s2) (r2.from s)⟩
  | false=>
   dsimp only at q⊢;rw[a8 bH]at q⊢;exact⟨C,ρ1,Q0,I1,q,λb ρ2 v H2 q2 f2 s2 r2=>k b ρ2 v H2 q2 (f.trans f2) (s.trans s2) (r2.from s)⟩⟩
def aM:UA:=λρ Q=>Q [] ρ
def a7 (t:UE)(u:UA):UA:=λρ Q=>t ρ λx ρ1=>u ρ1 λxs ρ2=>Q (x.d::xs) ρ2
theorem aB:PUA X [] aM:=dM8 cC5 λσ H Q ⟨C,ρ,Q0,I,h,k⟩=>k [] ρ [] H h (.refl _) (.refl _) .nil
theorem aD {t:UA}(ha:PU X e ta)(hr:PUA X es t)(hs:↥(starEach (e::es) X.env=(false,eval e X.env)::starEach es X.env)):PUA X (e::es) (a7 ta t):=
 dM8 (bT2 ha hr hs) λσ H Q ⟨C,ρ,Q0,I,h,k⟩=>⟨C,ρ,_,I,h,λx ρ1 v H1 q1 f1 s1 r1=>by
  have I1:=(I.frz f1).same s1;refine⟨C,ρ1,_,I1,q1,λxs ρ2 vs H2 q2 f2 s2 r2=> ?_⟩
  exact k _ ρ2 _ H2 q2 (f1.trans f2) (s1.trans s2) (.cons ((r1.rep λa z=>I.avF f1 z).mono<|.sub s2 λa=>f2.av) r2)⟩
def gL (t:UA):UE:=λρ Q=>t ρ λl ρ1=>l.length<=sizeLine/\Q (.pu<|.tup l) ρ1
def fT (t:UA):UE:=λρ Q=>t ρ λl ρ1=>l.length<=sizeLine/\Q (.ow l) ρ1
theorem eB {H:Hp}{p:Addr}(h:H p=none)(o:HO):gK H (upd H p o):=λb u q=>by rw[cD<|cQ q h];exact q
theorem iK {A:AS}{H:Hp}{p:Addr}{l:List D}{vs:List V}(hA: ∀a,A a->H a≠none)(n:H p=none)(r:bQ K A H l vs):Rep K A (upd H p<|.tup vs) (.tup l) (.ref p):=by
 simp only[Rep];exact⟨p,vs,rfl,.inl ⟨λz=>hA p z n,.inl iJ⟩,r.mono<|.same<|eB n _⟩
theorem gS {A:AS}{H H0:Hp}{p:Addr}{l:List D}{vs:List V}(s:gK H0 H)(n:H p=none)(r:bQ K A H l vs):oU K A H0 (upd H p<|.lst vs) (.ow l) (.ref p):=
 ⟨p,vs,rfl,s.free n,iJ,r.mono<|.fresh (eB n _) n⟩
theorem d8 {t:UA}{x1}(h:PUA X es t):PU X (.Tuple es x1 pos) (gL t):=
 gR (pe_tup h) λσ H Q ⟨C,ρ,Q0,I,h,k⟩=>⟨C,ρ,_,I,h,λl ρ1 vs H1 q f s r=>by
  obtain⟨hz,q⟩:=q;refine⟨by rw[<-r.length];exact hz,λp n=> ?_⟩
  have I1:=(I.frz f).same s;exact k _ ρ1 _ _ q f (s.trans<|eB n _) (iK (λa z=>I1.avSome z) n r)⟩
theorem cS {t:UA}(h:PUA X es t):PU X (.List es pos) (fT t):=
 gR (pe_lst h) λσ H Q ⟨C,ρ,Q0,I,h,k⟩=>⟨C,ρ,_,I,h,λl ρ1 vs H1 q f s r=>by
  obtain⟨hz,q⟩:=q;refine⟨by rw[<-r.length];exact hz,λp n=> ?_⟩
  exact k _ ρ1 _ _ q f (s.trans<|eB n _) (gS s n r)⟩
abbrev Φ:=List D->(B->Prop)->Prop
def spP (K:PySem.W.Frag)(φ:Φ):Sp:=λvs H Q _=> ∃A ds Q0,(∀a,A a->H a≠none)/\bQ K A H ds vs/\φ ds Q0/\ ∀b v H',Q0 b->gK H H'->oU K A H H' b v->Q v H'
def aS (φ:Φ)(t:UA):UE:=λρ Q=>t ρ λds ρ1=>φ ds λb=>Q b ρ1
theorem lCall {t:UA}{E:XK}(σ:L2.St)(H:Hp)(Q:VK)(h:lE X.K (aS φ t) σ H Q):cJ3 (spP X.K φ) [] E (lA X.K t) σ H Q:=by
 obtain⟨C,ρ,Q0,I,h,k⟩:=h;refine⟨C,ρ,_,I,h,λds ρ1 vs H1 q f s r=> ?_⟩
 have I1:=(I.frz f).same s;show spP X.K φ (vs++[]) H1 Q E;rw[iT];exact⟨Av C ρ1 σ,ds,_,λa z=>I1.avSome z,r,q,λb v H' q' s' r'=>k b ρ1 v H' q' f (s.trans s') (r'.from s)⟩
theorem dD5 {CX:CXT}{ps:List Str}{E:XK}{t:UA}(F:sF X.prog X.w X.K X.mg X.base CX k f fd ps (spP X.K φ))(hr:fG k X.A)(hg:Gl X x)(hm:X.mg x=some (.ref f))
  (hk:keepIn X.K (.ref f)=true) (hb:Binds X.K fd ps []) (hx:uL CX X E) (ha:PUA X (e::es) t) (hdb:⇑(x∪0)) (he:↥(starEach (e::es) X.env=(false,eval e X.env)::starEach es X.env))
  (hpl:↥((backTo pos<|starEach es X.env).any (·.1)=false)):PU X (.Call (.Name x p) (e::es) [] pos) (aS φ t):=
 gR (b63 F hr hg hm hk hb .nil hx ha hdb he hpl) lCall
theorem cY4 {CX:CXT}{ps:List Str}{E:XK}(F:sF X.prog X.w X.K X.mg X.base CX k f fd ps (spP X.K φ))(hr:fG k X.A)(hg:Gl X x)(hm:X.mg x=some (.ref f))
  (hk:keepIn X.K (.ref f)=true) (hb:Binds X.K fd ps []) (hx:uL CX X E) (hdb:⇑(x∪0)):PU X (.Call (.Name x p) [] [] pos) (aS φ aM):=
 gR (cW9 F hr hg hm hk hb .nil hx hdb) λσ H Q ⟨C,ρ,Q0,I,h,k⟩=>⟨Av C ρ σ,[],_,λa z=>I.avSome z,.nil,h,λb v H' q' s' r'=>k b ρ v H' q' (.refl _) s' r'⟩
def wB (X:Cx)(f:Value)(g:List D->(B->Prop)->Prop):Prop:=
 ∀(A:AS) (H:Hp) (ds:List D) (vs:List V) (Q0:B->Prop) (Q:VK),(∀a,A a->H a≠none)->bQ X.K A H ds vs->g ds Q0->
  (∀b v' H',Q0 b->gK H H'->oU X.K A H H' b v'->Q v' H')-> ∃r,sY X f r/\r vs H Q
theorem callAny {f:Value}:sY X f (λxs H Q=> ∃r,sY X f r/\r xs H Q):=λpins s σ H xs us Q I rx ⟨r,hr,q⟩=>hr pins s σ H xs us Q I rx q
theorem lCB {f:Value}{g:List D->(B->Prop)->Prop}{t:UA}(hc:wB X f g)(σ:L2.St)(H:Hp)(Q:VK)(h:lE X.K (aS g t) σ H Q):tCB (λxs H Q=> ∃r,sY X f r/\r xs H Q) (lA X.K t) σ H Q:=by
 obtain⟨C,ρ,Q0,I,h,k⟩:=h;refine⟨C,ρ,_,I,h,λds ρ1 vs H1 q f s r=> ?_⟩
 have I1:=(I.frz f).same s;exact hc (Av C ρ1 σ) H1 ds vs _ Q (λa z=>I1.avSome z) r q λb v H' q' s' r'=>k b ρ1 v H' q' f (s.trans s') (r'.from s)
theorem iL {id:String}{g:List D->(B->Prop)->Prop}{t:UA}(hc:wB X (.builtin id) g)(hg:Gl X x)(hm:X.mg x=none)(hv:bootBuiltins x=some (.builtin id))(ha:PUA X (e::es) t)(hn:⇑(x≠"__name__"))(hdb:⇑(x∪0))
  (he:↥(starEach (e::es) X.env=(false,eval e X.env)::starEach es X.env)) (hpl:↥((backTo pos<|starEach es X.env).any (·.1)=false)):PU X (.Call (.Name x p) (e::es) [] pos) (aS g t):=
 gR (c07 callAny hg hm hv ha hn hdb he hpl) (lCB hc)
theorem bV {T:String}{g:List D->(B->Prop)->Prop}{t:UA}(hc:wB X (.type T) g)(hg:Gl X x)(hm:X.mg x=none)(hv:bootBuiltins x=some (.type T))(ha:PUA X (e::es) t)(hn:⇑(x≠"__name__"))(hdb:⇑(x∪0))
  (he:↥(starEach (e::es) X.env=(false,eval e X.env)::starEach es X.env)) (hpl:↥((backTo pos<|starEach es X.env).any (·.1)=false)):PU X (.Call (.Name x p) (e::es) [] pos) (aS g t):=
 gR (cP6 callAny hg hm hv ha hn hdb he hpl) (lCB hc)
end
structure UD where
 nx:Ev->Prop
 rt:B->Prop
 bk:Ev->Prop:=λ_=>False
 ct:Ev->Prop:=λ_=>False
abbrev US:=UD->Ev->Prop
structure DOk (K:PySem.W.Frag)(C:C0)(D0:UD)(D:aR5):Prop where
 nx: ∀ρ σ H,D0.nx ρ->EOk K C ρ σ H->D.nx σ H
 rt: ∀b v H,D0.rt b->gK C.H0 H->oU K C.A0 C.H0 H b v->D.rt v H
 bk: ∀ρ σ H,D0.bk ρ->EOk K C ρ σ H->D.bk σ H
 ct: ∀ρ σ H,D0.ct ρ->EOk K C ρ σ H->D.ct σ H
def lS (K:PySem.W.Frag)(t:US):TS:=λD σ H=> ∃C ρ D0,EOk K C ρ σ H/\t D0 ρ/\DOk K C D0 D
def PUS (X:Cx)(st:Stmt)(t:US):Prop:=PS X st (lS X.K t)
def qF (X:Cx)(sts:List Stmt)(t:US):Prop:=PSs X sts (lS X.K t)
theorem sZ {X:Cx}{t t':TS}(h:PS X st t)(i: ∀D σ H,t' D σ H->t D σ H):PS X st t':=λpins s σ H D I q=>h pins s σ H D I (i D σ H q)
theorem b92 {X:Cx}{st:List Stmt}{t t':TS}(h:PSs X st t)(i: ∀D σ H,t' D σ H->t D σ H):PSs X st t':=λpins s σ H D I q=>h pins s σ H D I (i D σ H q)
section
variable {X:Cx}{st:Stmt}{sts:List Stmt}{e:Expr}{pos:Pos}{t u:US}{te:UE}{tc:UT}{K:PySem.W.Frag}
def cW:US:=λD ρ=>D.nx ρ
def aQ (t u:US):US:=λD ρ=>t {D with nx:=u D} ρ
theorem b93:qF X [] cW:=b92 dB3 λD σ H ⟨C,ρ,D0,I,h,k⟩=>k.nx ρ σ H h I
theorem bB (h1:PUS X st t)(h2:qF X sts u):qF X (st::sts) (aQ t u):=
 b92 (xV h1 h2) λD σ H ⟨C,ρ,D0,I,h,k⟩=>⟨C,ρ,{D0 with nx:=u D0},I,h,⟨λρ' σ' H' q I'=>⟨C,ρ',D0,I',q,k⟩,k.rt,k.bk,k.ct⟩⟩
theorem aX (h1:PUS X st t):qF X [st] t:=bS9 h1
def dU (t:UE):US:=λD ρ=>t ρ λb _=>D.rt b
theorem oU.back {A A':AS}{H0 H H':Hp}(s:gK H0 H)(h: ∀a,A' a->A a): ∀{b:B} {v:V},oU K A H H' b v->oU K A' H0 H' b v
 | .pu _,_,r=>Rep.mono (.sub (.refl _) h) r
 | .ow _,_,⟨a,vs,e,n,h1,r⟩=>⟨a,vs,e,s.free n,h1,r.mono λb o nb q=>⟨λz=>nb (z.imp (h b) id),q⟩⟩
 | .bo _,_,r=>r.elim
theorem cD4 (he:PU X e te):PUS X (.Return (some e) pos) (dU te):=
 sZ (cV6 he) λD σ H ⟨C,ρ,D0,I,h,k⟩=>⟨C,ρ,_,I,h,λb ρ' v H' q f s r=>k.rt b v H' q (I.ext.trans s) (r.back I.ext λa z=> .inl z)⟩
def oX (i:Nat):US:=λD ρ=>match ρ[i]? with
 | some (some<|.pu d)=>D.rt (.pu d)
 | some (some<|.ow l)=>D.rt (.ow l)
 | _=>False
theorem kF (i:Nat)(h:PE X (.Name x p) (a75 i)):PUS X (.Return (some<|.Name x p) pos) (oX i):=
 sZ (cV6 h) λD σ H ⟨C,ρ,D0,I,h,k⟩=>by
  unfold oX at h;split at h
  .rename_i d e
   obtain⟨v,h1,h2⟩:=I.pu i d e;exact⟨v,h1,k.rt _ v H h I.ext<|Rep.mono (.sub (.refl _) λa z=> .inl z) h2⟩
  .rename_i l e
   obtain⟨a,vs,h1,h2,h3,h4⟩:=I.ow i l e;refine⟨_,h1,k.rt _ _ H h I.ext ⟨a,vs,rfl,h3,h2,h4.mono λb o nb q=>⟨λz=>nb (z.elim .inl λz=> .inr ?_),q⟩⟩⟩
   subst z;exact⟨i,l,e,h1⟩
  .exact h.elim
def fH (c:UT)(t u:US):US:=λD ρ=>c ρ λb ρ1=>if b=true then t D ρ1 else u D ρ1
theorem c16 {a b:List Stmt}(hc:PUT X c tc)(ha:qF X a t)(hb:qF X b u):PUS X (.If c a b pos) (fH tc t u):=
 sZ (dM7 hc ha hb) λD σ H ⟨C,ρ,D0,I,h,k⟩=>⟨C,ρ,_,I,h,λc ρ1 H1 q f s=>by
  have I1:=(I.frz f).same s;cases c with
  | true=>
   dsimp only at q⊢;rw[aA rfl]at q⊢;exact⟨C,ρ1,D0,I1,q,k⟩
  | false=>
   dsimp only at q⊢;rw[a8 bH]at q⊢;exact⟨C,ρ1,D0,I1,q,k⟩⟩
theorem gM:PUS X st (λ_ _=>False):=sZ cV7 λD σ H ⟨C,ρ,D0,I,h,k⟩=>h
abbrev UG:=B->Ev->(Ev->Prop)->Prop
def lG (K:PySem.W.Frag)(T:List Nat)(g:UG):TG:=λv σ H Q=> ∃C ρ b H00 Q0,EOk K C ρ σ H00/\gK H00 H/\oU K (Av C ρ σ) H00 H b v/\g b ρ Q0/\ ∀ρ' σ' H',Q0 ρ'->EOk K C ρ' σ' H'->(∀j:Nat,j ∉ T->σ'[j]? =σ[j]?)->Q σ' H'
def PUG (X:Cx)(e:Expr)(T:List Nat)(g:UG):Prop:=PG X e (lG X.K T g)
theorem dN0 {t t':TG}(h:PG X e t)(i: ∀v σ H Q,t' v σ H Q->t v σ H Q):PG X e t':=λpins s σ H v u Q I r q=>h pins s σ H v u Q I r (i v σ H Q q)
def bY (i:Nat):UG:=λb ρ Q=>i<ρ.length/\Q (ρ.set i<|some b)
theorem tG (i:Nat)(h:PG X e (a76 i)):PUG X e [i] (bY i):=dN0 h λv σ H Q z=>by
 obtain⟨C,ρ,b,H00,Q0,I,s,r,⟨hi,q⟩,k⟩:=z;exact k _ _ _ q (I.store s r (by rw[<-I.len];exact hi)) λj hj=>get_set_ne λz=>hj (by simp[z])
abbrev UGs:=List D->Ev->(Ev->Prop)->Prop
def lGs (K:PySem.W.Frag)(T:List Nat)(g:UGs):TGs:=λvs σ H Q=> ∃C ρ ds Q0,EOk K C ρ σ H/\bQ K (Av C ρ σ) H ds vs/\g ds ρ Q0/\ ∀ρ' σ' H',Q0 ρ'->EOk K C ρ' σ' H'->(∀j:Nat,j ∉ T->σ'[j]? =σ[j]?)->Q σ' H'
def dD6 (X:Cx)(es:List Expr)(T:List Nat)(g:UGs):Prop:=PGs X es (lGs X.K T g)
def rM:UGs:=λds ρ Q=>ds=[]/\Q ρ
theorem Av.store_pu {C:C0}{ρ:Ev}{σ:L2.St}{d:D}{v:V}(h:Av C (ρ.set i<|some<|.pu d) (σ.set i<|some v) a):Av C ρ σ a:=by
 rcases h with z| ⟨j,l,h1,h2⟩
 .exact .inl z
 .rcases bC h1 with⟨rfl,h3,_⟩| ⟨ne,h3⟩
  .cases h3
  .rw[get_set_ne ne]at h2;exact .inr ⟨j,l,h3,h2⟩
theorem cY5 {t t':TGs}(h:PGs X es t)(i: ∀v σ H Q,t' v σ H Q->t v σ H Q):PGs X es t':=λpins s σ H v u Q I r q=>h pins s σ H v u Q I r (i v σ H Q q)
theorem oC:dD6 X [] [] rM:=cY5 dB4 λvs σ H Q z=>by
 obtain⟨C,ρ,ds,Q0,I,r,⟨e,q⟩,k⟩:=z;subst e;exact⟨r.unnil,k ρ σ H q I λ_ _=>rfl⟩
def eC (i:Nat)(u:UGs):UGs:=λds ρ Q=>match ds with
 | d::r=>i<ρ.length/\u r (ρ.set i<|some<|.pu d) Q
 | []=>False
theorem dO {u:UGs}{T:List Nat}(i:Nat)(h1:PG X e (a76 i))(h2:dD6 X es T u)
  (hs:↥((assignEach (e::es) X.env).map (·.2)=assign e X.env::(assignEach es X.env).map (·.2))):dD6 X (e::es) (i::T) (eC i u):=
 cY5 (cV9 h1 h2 hs) λvs σ H Q z=>by
  obtain⟨C,ρ,ds,Q0,I,r,g,k⟩:=z;cases ds with
  | nil=>exact(show False from g).elim
  | cons d dr=>
   obtain⟨hi,g⟩:i<ρ.length/\u dr (ρ.set i<|some<|.pu d) Q0:=g;obtain⟨v,vr,rfl,rv,rr⟩:=r.uncons;have I1:EOk X.K C (ρ.set i<|some<|.pu d) (σ.set i<|some v) H:=I.store (b:= .pu d) (.refl _) rv (by rw[<-I.len];exact hi)
   exact⟨v,vr,rfl,C,_,dr,Q0,I1,rr.mono<|.sub (.refl _) λa z=>Av.store_pu z,g,λρ' σ' H' q I' hT=>k ρ' σ' H' q I' λj hj=>(hT j λz=>hj (eJ _ z)).trans (get_set_ne λz=>hj (by simp[z]))⟩
def rN (u:UGs):UG:=λb ρ Q=>match b.d with
 | .tup ds=>u ds ρ Q
 | _=>False
theorem uM {u:UGs}{T:List Nat}(hc:X.calm=true)(h:dD6 X es T u)(hu: ∀ds ρ Q,u ds ρ Q->ds.length=n)
  (hn:↥((assignEach es X.env).length=n)) (hst:↥((assignEach es X.env).findIdx? (·.1)=none)):PUG X (.Tuple es k pos) T (rN u):=
 dN0 (pg_tup hc h hn hst) λv σ H Q z=>by
  obtain⟨C,ρ,b,H00,Q0,I,s,r,g,k⟩:=z;have R:=r.rep λa z=>I.avSome z
  unfold rN at g;split at g
  .rename_i ds e
   rw[e]at R;simp only[Rep]at R;obtain⟨a,vs,rfl,c,rs⟩:=R;exact⟨a,vs,rfl,c.imp cJ id,by rw[<-rs.length];exact hu _ _ _ g,C,ρ,ds,Q0,I.same s,rs,g,k⟩
  .exact g.elim
def cY6 (t:UE)(g:UG):US:=λD ρ=>t ρ λb ρ1=>g b ρ1 D.nx
theorem cD5 {g:UG}{T:List Nat}(he:PU X e te)(hg:PUG X tg T g)(hs:↥(swapsWithSole [tg] e pos.line X.env=pure false))(hw:↥(swappedStores [tg] e X.env=pure none))
  (h1:↥((assignEach [tg] X.env).map (·.2)=[assign tg X.env])):PUS X (.Assign [tg] e pos) (cY6 te g):=
 sZ (cW0 he hg hs hw h1) λD σ H ⟨C,ρ,D0,I,h,k⟩=>⟨C,ρ,_,I,h,λb ρ1 v H1 q f s r=>⟨C,ρ1,b,H,D0.nx,I.frz f,s,r,q,λρ' σ' H' q I' _=>k.nx ρ' σ' H' q I'⟩⟩
def bF (i:Nat)(t:UE):US:=λD ρ=>t ρ λb ρ1=>D.nx (ρ1.set i<|some b)
theorem sG (i:Nat)(hN:X.N.Nodup)(hi:X.N[i]? =some x)(hx:Loc X.env.scope x)(he:PU X e te)(hs:↥(swapsWith e (some<|.Name x pos') pos.line X.env=pure false))(hf:X.fn x=true\/X.env.scope.names.lookup x=some .local:=by walk_at "z")
  (hl: ∀pins σ H s,Inv X pins σ H s->i<σ.length:=by intro pins σ H s I;rw[I.len];decide):PUS X (.Assign [.Name x pos'] e pos) (bF i te):=by
 intro pins s σ H D I q;refine cW1 hN hi hx he hs hf pins s σ H D I ?_;obtain⟨C,ρ,D0,J,h,k⟩:=q;exact⟨C,ρ,_,J,h,λb ρ1 v H1 q f s1 r=>k.nx _ _ _ q ((J.frz f).store s1 r<|hl pins σ H s I)⟩
def uPar (i j:Nat)(ta:UA):US:=λD ρ=>ta ρ λds ρ1=>match ds with
 | [d,d']=>D.nx ((ρ1.set i<|some<|.pu d).set j<|some<|.pu d')
 | _=>False
theorem us_par {a b:Expr}{ta:UA}{px pt:Pos}{kt k2 pt2}(i j:Nat)(hc:X.calm=true)(hN:X.N.Nodup)(hi:X.N[i]? =some x)(hj:X.N[j]? =some y)(hij:i≠j)
  (hx:X.env.scope.names.lookup x=some .local) (hy:X.env.scope.names.lookup y=some .local) (ha:PUA X [a,b] ta)
  (hw:swappedStores [.Tuple [.Name x px,.Name y py] kt pt] (.Tuple [a,b] k2 pt2) X.env=pure (some [x,y]))
  (hs:↥(swapsWithSole [.Tuple [.Name x px,.Name y py] kt pt] (.Tuple [a,b] k2 pt2) pos.line X.env=pure false))
  (hl: ∀pins σ H s,Inv X pins σ H s->i<σ.length/\j<σ.length:=by intro pins σ H s I;rw[I.len];decide) :
  PUS X (.Assign [.Tuple [.Name x px,.Name y py] kt pt] (.Tuple [a,b] k2 pt2) pos) (uPar i j ta):=by
 intro pins s σ H D I q;refine ps_par hc hN hi hj hij hx hy ha hw hs pins s σ H D I ?_;obtain⟨C,ρ,D0,J,h,k⟩:=q;obtain⟨l1,l2⟩:=hl pins σ H s I;refine⟨C,ρ,_,J,h,λds ρ1 vs H1 q f s1 r=> ?_⟩
 split at q
 .rename_i d d'
  obtain⟨v,vr,rfl,rv,rr⟩:=r.uncons;obtain⟨w,wr,rfl,rw',rr'⟩:=rr.uncons;have e:=rr'.unnil;subst e;have J1:EOk X.K C (ρ1.set i<|some<|.pu d) (σ.set i<|some v) H1:=((J.frz f).same s1).store (b:= .pu d) (.refl _) rv l1
  have J2:EOk X.K C ((ρ1.set i<|some<|.pu d).set j<|some<|.pu d') ((σ.set i<|some v).set j<|some w) H1:=J1.store (b:= .pu d') (.refl _) (Rep.mono (.sub (.refl _) λa z=>Av.store_pu z) rw') (by rw[dL];exact l2)
  exact⟨v,w,rfl,k.nx _ _ _ q J2⟩
 .exact q.elim
def IpU (X:Cx)(op:Operator)(g:D->D->(B->Prop)->Prop):Prop:=
 ∀(A:AS) (H:Hp) (d e:D) (v w:V) (Q0:B->Prop) (Q:VK),(∀a,A a->H a≠none)->Rep X.K A H d v->Rep X.K A H e w->g d e Q0->
  (∀b v' H',Q0 b->gK H H'->oU X.K A H H' b v'->Q v' H')-> ∃r,PIp X op r/\r v w H Q
theorem ipAny {op:Operator}:PIp X op (λx y H Q=> ∃r,PIp X op r/\r x y H Q):=λpins s σ H x y v u Q I rx ry ⟨r,hr,q⟩=>hr pins s σ H x y v u Q I rx ry q
def c17 (i:Nat)(g:D->D->(B->Prop)->Prop)(te:UE):US:=λD ρ=>a78 ρ i λx ρ0=>te ρ0 λy ρ1=>g x.d y.d λb=>D.nx (ρ1.set i<|some b)
theorem cY7 {op:Operator}{g:D->D->(B->Prop)->Prop}(i:Nat)(hN:X.N.Nodup)(hi:X.N[i]? =some x)(hx:Loc X.env.scope x)(he:PU X e te)(ho:IpU X op g)(hf:X.fn x=true\/X.env.scope.names.lookup x=some .local:=by walk_at "z")
  (hl: ∀pins σ H s,Inv X pins σ H s->i<σ.length:=by intro pins σ H s I;rw[I.len];decide):PUS X (.AugAssign (.Name x pos') op e pos) (c17 i g te):=by
 intro pins s σ H D I q;refine ps_aug hN hi hx he ipAny hf pins s σ H D I ?_;obtain⟨C,ρ,D0,J,h,k⟩:=q;have go: ∀(d:M.D) (ρ0:Ev) (v:V),Frz ρ ρ0->σ[i]? =some (some v)->Rep X.K (Av C ρ0 σ) H d v->(te ρ0 λy ρ1=>g d y.d λb=>D0.nx (ρ1.set i<|some b))->
   tAug i (lE X.K te) (λx y H Q=> ∃r,PIp X op r/\r x y H Q) D σ H:=λd ρ0 v f0 h1 r0 h=>by
  have J0:=J.frz f0;refine⟨v,h1,C,ρ0,_,J0,h,λy ρ1 w H1 q1 f1 s1 r1=> ?_⟩
  have J1:=(J0.frz f1).same s1;refine ho (Av C ρ1 σ) H1 d y.d v w _ _ (λa z=>J1.avSome z) (r0.mono<|.sub s1 λa=>f1.av) (r1.rep λa z=>J0.avF f1 z) q1 λb v' H' q s r=> ?_
  exact k.nx _ _ _ q (J1.store s r<|hl pins σ _ _ I)
 unfold c17 a78 at h;split at h
 .rename_i d e
  obtain⟨v,h1,h2⟩:=J.pu i d e;exact go d ρ v (.refl _) h1 h2 h
 .rename_i l e
  obtain⟨_,_,v,h1,h2⟩:=J.freeze e;exact go (.lst l) _ v (.set e) h1 h2 h
 .exact h.elim
def aX6 (c:UT)(tb:US):US:=λD ρ=> ∃W:Nat->Ev->Prop,(∃m,W m ρ)/\ ∀m ρ,W m ρ->
 c ρ λb ρ1=>if b=true then tb {D with nx:=λρ'=> ∃m',m'<m/\W m' ρ',ct:=λρ'=> ∃m',m'<m/\W m' ρ',bk:=D.nx} ρ1 else D.nx ρ1
theorem a80 {tb:US}(hp:PassesOwn (model X.prog X.w) X.A X.env X.xe)(hc:PUT X c tc)(hb:qF X body tb):PUS X (.While c body [] pos) (aX6 tc tb):=
 sZ (cW3 hp hc hb) λD σ H ⟨C,ρ,D0,I,⟨W,⟨m0,w0⟩,turn⟩,k⟩=>by
  refine⟨λm σ H=> ∃ρ,EOk X.K C ρ σ H/\W m ρ,⟨m0,ρ,I,w0⟩,?_⟩
  rintro m σ H ⟨ρ,I,w⟩;refine⟨C,ρ,_,I,turn m ρ w,λb ρ1 H1 q f s=> ?_⟩
  have I1:=(I.frz f).same s;cases b with
  | true=>
   dsimp only at q⊢;rw[aA rfl]at q⊢;refine⟨λσ' H'=> ∃m',m'<m/\ ∃ρ',EOk X.K C ρ' σ' H'/\W m' ρ',λσ' H' z=>z,C,ρ1,_,I1,q,⟨?_,k.rt,k.nx,?_⟩⟩
   .rintro ρ' σ' H' ⟨m',hm,w'⟩ I';exact⟨m',hm,ρ',I',w'⟩
   .rintro ρ' σ' H' ⟨m',hm,w'⟩ I';exact⟨m',hm,ρ',I',w'⟩
  | false=>
   dsimp only at q⊢;rw[a8 bH]at q⊢;exact k.nx _ _ _ q I1
end
abbrev UI:=Ev->(Nat->(Nat->D)->Ev->Prop)->Prop
structure c18 (K:PySem.W.Frag)(A:AS)(H:Hp)(J:It)(n:Nat)(it:Nat->D):Prop where
 go: ∀A' H' i,mC A H A' H'->i<n->J.go i H'
 yld: ∀A' H' i x H'',mC A H A' H'->(∀a,A' a->H' a≠none)->i<n->J.yld i H' x H''->gK H' H''/\Rep K A' H'' (it i) x
 stop: ∀A' H',mC A H A' H'->J.stop n H'
def lI (K:PySem.W.Frag)(t:UI):TI:=λσ H R=> ∃C ρ Q0,EOk K C ρ σ H/\t ρ Q0/\
 ∀n it ρ' J H',Q0 n it ρ'->Frz ρ ρ'->gK H H'->c18 K (Av C ρ' σ) H' J n it->R J H'
def PUI (X:Cx)(tg iter:Expr)(t:UI):Prop:=PI X tg iter (lI X.K t)
def gW (ui:UI)(g:UG)(tb:US):US:=λD ρ=>ui ρ λn it ρ1=> ∃Pv:Nat->Ev->Prop,Pv 0 ρ1/\
 (∀i ρ,i<n->Pv i ρ->g (.pu<|it i) ρ λρ2=>tb {D with nx:=Pv (i+1),ct:=Pv (i+1),bk:=D.nx} ρ2)/\ ∀ρ,Pv n ρ->D.nx ρ
nonrec def C0.rz (C:C0) (ρ:Ev) (σ:L2.St) (H:Hp):C0:=C.raise ρ σ H λ_=>Classical.propDecidable _
section
variable {X:Cx}{e:Expr}{pos:Pos}{te:UE}{K:PySem.W.Frag}{C:C0}{ρ ρ':Ev}{σ σ':L2.St}{H H':Hp}
theorem EOk.rz (I:EOk K C ρ σ H):EOk K (C.rz ρ σ H) ρ σ H/\gK C.H0 (C.rz ρ σ H).H0:=I.raise
theorem dD7 (I':EOk K (C.rz ρ σ H) ρ' σ' H'):mC (Av C ρ σ) H (Av (C.rz ρ σ H) ρ' σ') H':=λb o nb e=>by
 have e0:(C.rz ρ σ H).H0 b=some o:=by
  show @ite _ (Own ρ σ b) (Classical.propDecidable _) none (H b)=some o
  rw[a8 λz=>nb (.inr z)]
  exact e
 refine⟨?_,I'.ext b o e0⟩
 rintro(z| ⟨i,l,h1,h2⟩)
 .exact nb (.inl z)
 .obtain⟨a,vs,h3,h4,h5,_⟩:=I'.ow i l h1;rw[h2]at h3;cases h3;rw[e0]at h5;cases h5
theorem aN6 {ui:UI}{g:UG}{T:List Nat}{tb:US}(hp:PassesOwn (model X.prog X.w) X.A X.env X.xe)(hc:X.calm=true)(hi:PUI X tg iter ui)(hg:PUG X tg T g)(hb:qF X body tb)
  (hs: ∀x,foldedSetIterable iter X.env x=pure x:=by intro _;rfl):PUS X (.For tg iter body [] pos) (gW ui g tb):=
 sZ (ps_for hp hc hi hg hb hs) λD σ H ⟨C,ρ,D0,I,h,k⟩=>⟨C,ρ,_,I,h,λn it ρ1 J H1 q f s ok=>by
  obtain⟨Pv,p0,turn,fin⟩:=q;have I1:=(I.frz f).same s;obtain⟨Ir,sub⟩:=I1.rz;refine⟨λi m σ' H'=>m=n-i/\i<=n/\ ∃ρ',EOk X.K (C.rz ρ1 σ H1) ρ' σ' H'/\Pv i ρ',⟨n,rfl,eW _,ρ1,Ir,p0⟩,?_⟩
  rintro i m σ' H' ⟨rfl,hi,ρ',I',p'⟩;have P:=dD7 I';have lo: ∀ρ2 σ2 H2,EOk X.K (C.rz ρ1 σ H1) ρ2 σ2 H2->EOk X.K C ρ2 σ2 H2:=λρ2 σ2 H2 J2=>J2.lower sub rfl I.a0
  by_cases hlt:i<n
  .refine .inr ⟨ok.go _ _ i P hlt,λσ2 H2=> ∃ρ2,EOk X.K (C.rz ρ1 σ H1) ρ2 σ2 H2/\Pv (i+1) ρ2,λσ2 H2 z=>⟨n-(i+1),aa,rfl,hlt,z⟩,λx H2 y=> ?_⟩
   obtain⟨s2,r2⟩:=ok.yld _ _ i x H2 P (λa z=>I'.avSome z) hlt y
   refine⟨C.rz ρ1 σ H1,ρ',.pu<|it i,H',_,I',s2,r2,turn i ρ' hlt p',λρ2 σ2 H3 q I3 _=>⟨C.rz ρ1 σ H1,ρ2,_,I3,q,⟨?_,?_,?_,?_⟩⟩⟩
   .exact λρ3 σ3 H4 q I4=>⟨ρ3,I4,q⟩
   .exact λb v H4 q s4 r4=>k.rt b v H4 q (sub.trans s4) (r4.from sub)
   .exact λρ3 σ3 H4 q I4=>k.nx ρ3 σ3 H4 q (lo _ _ _ I4)
   .exact λρ3 σ3 H4 q I4=>⟨ρ3,I4,q⟩
  .have e:i=n:=aa
   subst e;exact .inl ⟨ok.stop _ _ P,k.nx _ _ _ (fin ρ' p')<|lo _ _ _ I'⟩⟩
nonrec def oY:D->Option (List D)
 | .tup l=>some l
 | .lst l=>some l
 | .rol l=>some l
 | _=>none
def fU (t:UE):UI:=λρ Q=>t ρ λb ρ1=>match oY b.d with
 | some l=>Q l.length (λi=>l.getD i .non) ρ1
 | none=>False
theorem pi_any {l:Expr}{tl:TE}(hl:PE X l tl):PI X tg l (λσ H R=>tl σ H λx H1=> ∃a,x= .ref a/\((∃xs,SqL X.K H1 a xs/\R (Itl X.K a) H1)\/ ∃xs,SqT X.K H1 a xs/\R (Itt X.K a) H1)):=by
 intro pins s σ H R I h;refine thn (hl pins s σ H _ I h) λv s1 ⟨x,H1,I1,r1,q1⟩=> ?_
 obtain⟨a,e,q⟩:=q1;subst e;cases r1;rcases q with⟨xs,hq,q⟩| ⟨xs,hq,q⟩
 .obtain⟨its,rv,p,hz⟩:=I1.list hq;refine aM5 p.isList ?_;refine⟨s1.heap.objs.size,[s1.heap.objs.size],_,_,H1,rfl,I1.kept (t':=s1.toks) λb o e=>aT _ e,cO7 a _,⟨_,bZ _ rfl,rfl,rfl⟩,λb hb=> ?_,q⟩
  have e:b=s1.heap.objs.size:=by exists hb
  subst e;exact I1.fpOk (aG _) (I1.hok.fresh<|aG _)
 .obtain⟨its,rv,p,hz⟩:=I1.tuple hq;refine wpAny_pyIter_tuple (show s1.heap.IsTuple a its.toArray from p) ?_
  refine⟨s1.heap.objs.size,[s1.heap.objs.size],_,_,H1,rfl,I1.kept (t':=s1.toks) λb o e=>aT _ e,cB7 a _,⟨_,bZ _ rfl,rfl,rfl⟩,λb hb=> ?_,q⟩
  have e:b=s1.heap.objs.size:=by exists hb
  subst e;exact I1.fpOk (aG _) (I1.hok.fresh<|aG _)
theorem b19 {t t':TI}(h:PI X tg iter t)(i: ∀σ H R,t' σ H R->t σ H R):PI X tg iter t':=λpins s σ H R I q=>h pins s σ H R I (i σ H R q)
theorem bO1 {A:AS}{vs:List V}{l:List D}(c:(¬A a/\Rd H a (.lst vs))\/KL K a vs)(r:bQ K A H l vs):c18 K A H (Itl K a) l.length (λi=>l.getD i .non):=by
 have sq: ∀A' H',mC A H A' H'->SqL K H' a vs:=λA' H' P=>by
  rcases c with⟨n,c⟩|c
  .exact .inl (Rd.pres P n c).2
  .exact .inr c
 have get: ∀i,i<l.length-> ∃x,vs[i]? =some x/\Rep K A H (l.getD i .non) x:=λi hi=>r.get (by rw[aR,aU hi];rfl)
 refine⟨λA' H' i P hi=> ?_,λA' H' i x H'' P hA hi y=> ?_,λA' H' P=>⟨vs,sq _ _ P,by rw[r.length];exact aG _⟩⟩
 .obtain⟨x,e,_⟩:=get i hi;exact⟨vs,x,sq _ _ P,e⟩
 .obtain⟨x',e,r'⟩:=get i hi;obtain⟨rfl,y⟩:=y;have:=y vs (sq _ _ P);rw[e]at this;cases this;exact⟨.refl _,r'.mono P⟩
theorem cY8 {A:AS}{vs:List V}{l:List D}(c:(¬A a/\Rd H a (.tup vs))\/KT K a vs)(r:bQ K A H l vs):c18 K A H (Itt K a) l.length (λi=>l.getD i .non):=by
 have sq: ∀A' H',mC A H A' H'->SqT K H' a vs:=λA' H' P=>by
  rcases c with⟨n,c⟩|c
  .exact .inl (Rd.pres P n c).2
  .exact .inr c
 have get: ∀i,i<l.length-> ∃x,vs[i]? =some x/\Rep K A H (l.getD i .non) x:=λi hi=>r.get (by rw[aR,aU hi];rfl)
 refine⟨λA' H' i P hi=> ?_,λA' H' i x H'' P hA hi y=> ?_,λA' H' P=>⟨vs,sq _ _ P,by rw[r.length];exact aG _⟩⟩
 .obtain⟨x,e,_⟩:=get i hi;exact⟨vs,x,sq _ _ P,e⟩
 .obtain⟨x',e,r'⟩:=get i hi;obtain⟨rfl,y⟩:=y;have:=y vs (sq _ _ P);rw[e]at this;cases this;exact⟨.refl _,r'.mono P⟩
theorem fV (h:PU X e te):PUI X tg e (fU te):=b19 (pi_any h) λσ H R ⟨C,ρ,Q0,I,h,k⟩=>⟨C,ρ,_,I,h,λb ρ1 v H1 q f s r=>by
 have rr:=r.rep λa z=>I.avF f z
 generalize b.d=d at q rr;cases d with
 | tup l=>
  simp only[Rep]at rr;obtain⟨a,vs,rfl,c,rs⟩:=rr;exact⟨a,rfl,.inr ⟨vs,c.imp cJ id,k _ _ ρ1 _ H1 q f s<|cY8 c rs⟩⟩
 | lst l=>
  simp only[Rep]at rr;obtain⟨a,vs,rfl,n,c,rs⟩:=rr;exact⟨a,rfl,.inl ⟨vs,.inl<|.inl c,k _ _ ρ1 _ H1 q f s<|bO1 (.inl ⟨n,.inl c⟩) rs⟩⟩
 | rol l=>
  simp only[Rep]at rr;obtain⟨a,vs,rfl,c,rs⟩:=rr;exact⟨a,rfl,.inl ⟨vs,c.imp cJ id,k _ _ ρ1 _ H1 q f s<|bO1 c rs⟩⟩
 | _=>exact(show False from q).elim⟩
theorem b94 {A:AS}:c18 K A H (Itr lo n) n (λi=> .int (lo+i)):=
 ⟨λ_ _ _ _ h=>h,λ_ _ i x H'' _ _ _ ⟨e,y⟩=>by subst e;subst y;exact⟨.refl _,by simp only[Rep]⟩,λ_ _ _=>aG n⟩
def gN (ta:UA):UI:=λρ Q=>ta ρ λds ρ1=>match ds with
 | [.int j]=>(-(2^62)<=j/\j<2^62)/\Q j.toNat (λi=> .int (0+i)) ρ1
 | _=>False
def b95 (ta:UA):UI:=λρ Q=>ta ρ λds ρ1=>match ds with
 | [.int i,.int j]=>(-(2^62)<=i/\i<2^62/\ -(2^62)<=j/\j<2^62)/\Q (j-i).toNat (λk=> .int (i+k)) ρ1
 | _=>False
theorem bS {A:AS}{i:Int}{v:V}(h:Rep K A H (.int i) v):v= .int i:=by simpa only[Rep]using h
theorem cX {a:Expr}{ta:UA}(hg:Gl X "range")(hm:X.mg "range"=none)(ha:PUA X [a] ta)(hs:↥(starEach [a] X.env=[(false,eval a X.env)])):PUI X tg (.Call (.Name "range" p) [a] [] pos) (gN ta):=
 b19 (cO8 hg hm ha hs) λσ H R ⟨C,ρ,Q0,I,h,k⟩=>⟨C,ρ,_,I,h,λds ρ1 vs H1 q f s r=>by
  split at q
  .rename_i j
   obtain⟨v,vr,rfl,rv,rr⟩:=r.uncons;have:=rr.unnil;subst this;have:=bS rv;subst this;obtain⟨⟨h1,h2⟩,q⟩:=q;exact⟨j,rfl,h1,h2,k _ _ ρ1 _ H1 q f s b94⟩
  .exact q.elim⟩
theorem aX7 {a b:Expr}{ta:UA}(hg:Gl X "range")(hm:X.mg "range"=none)(ha:PUA X [a,b] ta)(hs:↥(starEach [a,b] X.env=[(false,eval a X.env),(false,eval b X.env)]))(hs2:↥(starEach [b] X.env=[(false,eval b X.env)])) :
  PUI X tg (.Call (.Name "range" p) [a,b] [] pos) (b95 ta):=
 b19 (cO9 hg hm ha hs hs2) λσ H R ⟨C,ρ,Q0,I,h,k⟩=>⟨C,ρ,_,I,h,λds ρ1 vs H1 q f s r=>by
  split at q
  .rename_i i j
   obtain⟨v,vr,rfl,rv,rr⟩:=r.uncons;obtain⟨w,wr,rfl,rw',rr'⟩:=rr.uncons;have:=rr'.unnil;subst this;have:=bS rv;subst this;have:=bS rw';subst this;obtain⟨hb,q⟩:=q;exact⟨i,j,rfl,hb,k _ _ ρ1 _ H1 q f s b94⟩
  .exact q.elim⟩
end
section
variable {X:Cx}{a b e o:Expr}{es:List Expr}{pos:Pos}{ta tb te ti:UE}{K:PySem.W.Frag}{C:C0}{ρ ρ':Ev}{σ σ':L2.St}{H H':Hp}{A:AS}
theorem Frz.ow {l:List D}(f:Frz ρ ρ')(h:ρ'[i]? =some (some<|.ow l)):ρ[i]? =some (some<|.ow l):=by
 rcases f.2 i with q| ⟨l',_,q⟩
 .exact q▸h
 .rw[q]at h;cases h
def mM (ρ:Ev)(i:Nat)(Q:List D->Prop):Prop:=match ρ[i]? with
 | some (some<|.ow l)=>Q l
 | _=>False
theorem lK {Q:List D->Prop}(h:mM ρ i Q): ∃l,ρ[i]? =some (some<|.ow l)/\Q l:=by
 unfold mM at h;split at h
 .rename_i l e
  exact⟨l,e,h⟩
 .exact h.elim
def aN7 (i:Nat)(t:UE):US:=λD ρ=>mM ρ i λ_=>t ρ λb ρ1=>mM ρ1 i λl=>l.length<sizeLine/\D.nx (ρ1.set i<|some<|.ow<|l++[b.d])
theorem jZ {apos:Pos}(i:Nat)(hx:PE X (.Name x p) (a75 i))(he:PU X e te)
  (hbase:↥(attributeBase (.Name x p) "append" X.env (eval (.Name x p) X.env)=eval (.Name x p) X.env))
  (hfew:↥(((backTo cpos<|starEach [e] X.env).all (λx=> !x.1)&&(backToKw cpos<|keywordEach [] X.env).all (λx=>x.1.isSome)
   &&decide ([e].length+([]:List Keyword).length+(if([]:List Keyword).isEmpty then 0 else 1)<30))=true))
  (hline:↥((apos.endLine==cpos.line)=true)) (hs:↥(starEach [e] X.env=(false,eval e X.env)::starEach [] X.env)) (hplain:↥((backTo cpos<|starEach [] X.env).any (·.1)=false))
  (hw:↥(swapsWith (.Call (.Attribute (.Name x p) "append" apos) [e] [] cpos) none pos.line X.env=pure false)) :
  PUS X (.Expr (.Call (.Attribute (.Name x p) "append" apos) [e] [] cpos) pos) (aN7 i te):=
 sZ (bT0 (pe_bm PySem.F.plainAttrs_list PySem.F.slot_list_append PySem.F.type_list_append bN9 hx (bT2 he cC5 hs) hbase hfew hline hs hplain) hw) λD σ H ⟨C,ρ,D0,I,h,k⟩=>by
  obtain⟨l,hl,h⟩:=lK h;obtain⟨a,vs,h1,h2,h3,h4⟩:=I.ow i l hl;refine⟨.ref a,h1,.inl ⟨rfl,vs,SqL.of h2⟩,C,ρ,_,I,h,λb ρ1 v H1 q f s r=> ?_⟩
  obtain⟨l',hl',hz,q⟩:=lK q;have e:=f.ow hl';rw[hl]at e;cases e;have I1:=(I.frz f).same s;obtain⟨a',vs',g1,g2,g3,g4⟩:=I1.ow i l hl';rw[h1]at g1;cases g1;refine⟨a,vs',v,rfl,rfl,g2,by rw[<-g4.length];exact hz,k.nx _ _ _ q ?_⟩
  exact I1.write hl' h1 (g4.append<|.cons (r.rep λa z=>I.avF f z) .nil)
def a56 (i:Nat)(t ti:UE):US:=λD ρ=>t ρ λb ρ1=>mM ρ1 i λ_=>ti ρ1 λj ρ2=>mM ρ2 i λl=>match j.d with
 | .int k=>(match ixN l.length k with
  | some n=>D.nx (ρ2.set i<|some<|.ow<|l.set n b.d)
  | none=>False)
 | _=>False
theorem jS (i:Nat)(hx:PE X (.Name x p) (a75 i))(he:PU X e te)(hi:PU X ix ti)
  (ha: ∀v,assign (.Subscript (.Name x p) ix tpos) X.env v=(do
   let ov<-holding [v] (eval (.Name x p) X.env)
   let iv<-holding [v,ov] (eval ix X.env)
   standAt tpos
   holding [v,ov,iv] (setItem ov iv v)
   release [v,ov,iv] []):=by intro _;rfl)
  (hs:↥(swapsWithSole [.Subscript (.Name x p) ix tpos] e pos.line X.env=pure false)) (hw:↥(swappedStores [.Subscript (.Name x p) ix tpos] e X.env=pure none))
  (h1:↥((assignEach [.Subscript (.Name x p) ix tpos] X.env).map (·.2)=[assign (.Subscript (.Name x p) ix tpos) X.env])):PUS X (.Assign [.Subscript (.Name x p) ix tpos] e pos) (a56 i te ti):=
 sZ (cW0 he (pg_sub hx hi c12 ha) hs hw h1) λD σ H ⟨C,ρ,D0,I,h,k⟩=>⟨C,ρ,_,I,h,λb ρ1 v H1 q f s r=>by
  obtain⟨l,hl,q⟩:=lK q;have I1:=(I.frz f).same s;obtain⟨a,vs,h1,h2,h3,h4⟩:=I1.ow i l hl;refine⟨.ref a,h1,C,ρ1,_,I1,q,λj ρ2 w H2 q2 f2 s2 r2=> ?_⟩
  obtain⟨l',hl',q2⟩:=lK q2;have e:=f2.ow hl';rw[hl]at e;cases e;have I2:=(I1.frz f2).same s2;obtain⟨a',vs',g1,g2,g3,g4⟩:=I2.ow i l hl';rw[h1]at g1;cases g1;have rj:=r2.rep λa z=>I1.avF f2 z
  generalize j.d=dj at q2 rj;split at q2
  .rename_i kk
   have:=bS rj;subst this;split at q2
   .rename_i n hn
    refine⟨a,vs',kk,n,rfl,rfl,g2,by rw[<-g4.length];exact hn,k.nx _ _ _ q2 ?_⟩
    exact I2.write hl' h1 (g4.set n<|(r.rep λa z=>I.avF f z).mono<|.sub s2 λa=>f2.av)
   .exact q2.elim
  .exact q2.elim⟩
def gIx (d i:D)(Q:D->Prop):Prop:=match oY d,i with
 | some l,.int k=>(match atI l k with
  | some x=>Q x
  | none=>False)
 | _,_=>False
def uIx (t:UV)(ti:UE):UE:=λρ Q=>t ρ λd ρ1=>ti ρ1 λi ρ2=>gIx d i.d λx=>Q (.pu x) ρ2
theorem bQ.atI {l:List D}{vs:List V}{k:Int}{x:D}(r:bQ K A H l vs)(h:atI l k=some x): ∃v,L2.atI vs k=some v/\Rep K A H x v:=by
 unfold L2.atI at h⊢;cases e:ixN l.length k with
 | none=>rw[e]at h;cases h
 | some j=>
  rw[e]at h;rw[<-r.length,e];exact r.get h
theorem cD0.mono {A':AS}(s:gK H H')(h: ∀a,A' a->A a): ∀{d:D} {v:V},cD0 K A H d v->cD0 K A' H' d v
 | .non,_,r=>Rep.mono (.sub s h) r
 | .bl _,_,r=>Rep.mono (.sub s h) r
 | .int _,_,r=>Rep.mono (.sub s h) r
 | .str _,_,r=>Rep.mono (.sub s h) r
 | .ty _,_,r=>Rep.mono (.sub s h) r
 | .tup _,_,⟨a,vs,e,c,r⟩=>⟨a,vs,e,c.imp (λc=>c.imp (s _ _) λ⟨o,z⟩=>⟨o,s _ _ z⟩) id,r.mono<|.sub s h⟩
 | .lst _,_,⟨a,vs,e,c,r⟩=>⟨a,vs,e,s _ _ c,r.mono<|.sub s h⟩
 | .rol _,_,⟨a,vs,e,c,r⟩=>⟨a,vs,e,s.seq c,r.mono<|.sub s h⟩
 | .obj _ _ _,_,r=>Rep.mono (.sub s h) r
 | .adr _,_,r=>Rep.mono (.sub s h) r
 | .xob _ _ _ _,_,r=>Rep.mono (.sub s h) r
theorem cD0.seq {d:D}{v:V}{l:List D}(r:cD0 K A H d v)(h:oY d=some l): ∃a vs,v= .ref a/\(SqL K H a vs\/SqT K H a vs)/\bQ K A H l vs:=by
 cases d with
 | tup l'=>cases h;obtain⟨a,vs,e,c,r⟩:=r;exact⟨a,vs,e,.inr c,r⟩
 | lst l'=>cases h;obtain⟨a,vs,e,c,r⟩:=r;exact⟨a,vs,e,.inl<|SqL.of c,r⟩
 | rol l'=>cases h;obtain⟨a,vs,e,c,r⟩:=r;exact⟨a,vs,e,.inl c,r⟩
 | _=>cases h
theorem dD8 {d i:D}{Q:D->Prop}(h:gIx d i Q): ∃l k x,oY d=some l/\i= .int k/\atI l k=some x/\Q x:=by
 unfold gIx at h;split at h
 .rename_i l k e
  split at h
  .rename_i x ex
   exact⟨l,k,x,e,rfl,ex,h⟩
  .exact h.elim
 .exact h.elim
theorem a57 {t:UV}(ha:PUV X a t)(hb:PU X b ti)(hs:b65 b):PU X (.Subscript a b pos) (uIx t ti):=
 gR (pe_ix ix_seq ha hb hs) λσ H Q ⟨C,ρ,Q0,I,h,k⟩=>⟨C,ρ,_,I,h,λd ρ1 v H1 q f s r=>by
  have I1:=(I.frz f).same s;refine⟨C,ρ1,_,I1,q,λi ρ2 w H2 q2 f2 s2 r2=> ?_⟩
  obtain⟨l,kk,x,e1,e2,e3,q2⟩:=dD8 q2;have ri:=r2.rep λa z=>I1.avF f2 z
  rw[e2]at ri;have:=bS ri;subst this;obtain⟨a,vs,rfl,c,rs⟩:=(r.mono (A':=Av C ρ2 σ) s2 λa=>f2.av).seq e1
  obtain⟨u,e4,r4⟩:=rs.atI e3;have fin:=k (.pu x) ρ2 u H2 q2 (f.trans f2) (s.trans s2) r4;rcases c with c|c
  .exact .inl ⟨a,vs,kk,u,rfl,rfl,c,e4,fin⟩
  .exact .inr (.inl ⟨a,vs,kk,u,rfl,rfl,c,e4,fin⟩)⟩
abbrev UO:=Ev->(Option Int->Ev->Prop)->Prop
def lO (K:PySem.W.Frag)(t:UO):TO:=λσ H Q=> ∃C ρ Q0,EOk K C ρ σ H/\t ρ Q0/\ ∀i ρ' H',Q0 i ρ'->Frz ρ ρ'->gK H H'->Q i H'
def PUO (X:Cx)(e:Option Expr)(t:UO):Prop:=PO X e (lO X.K t)
theorem dN1 {e:Option Expr}{t t':TO}(h:PO X e t)(i: ∀σ H Q,t' σ H Q->t σ H Q):PO X e t':=λpins s σ H Q I q=>h pins s σ H Q I (i σ H Q q)
def jT:UO:=λρ Q=>Q none ρ
def mO (t:UE):UO:=λρ Q=>t ρ λb ρ1=>match b.d with
 | .int i=>Q (some i) ρ1
 | _=>False
theorem jW:PUO X none jT:=dN1 dC7 λσ H Q ⟨C,ρ,Q0,I,h,k⟩=>k _ _ _ h (.refl _) (.refl _)
theorem gO (h:PU X e te):PUO X (some e) (mO te):=dN1 (dC8 h) λσ H Q ⟨C,ρ,Q0,I,h,k⟩=>⟨C,ρ,_,I,h,λb ρ1 v H1 q f s r=>by
 have r':=r.rep λa z=>I.avF f z
 generalize b.d=d at q r';split at q
 .exact⟨_,bS r',k _ _ _ q f s⟩
 .exact q.elim⟩
nonrec def cutD (l:List D)(lo hi:Option Int):List D:=(l.drop<|HT.sIx l.length 0 lo).take (HT.sIx l.length l.length hi-HT.sIx l.length 0 lo)
theorem bQ.cut {l:List D}{vs:List V}(r:bQ K A H l vs)(lo hi:Option Int):bQ K A H (cutD l lo hi) (c09 vs lo hi):=by
 unfold cutD c09;rw[r.length];exact(r.drop _).take _
def gSl (d:D)(lo hi:Option Int)(Q:B->Prop):Prop:=match d with
 | .tup l=> ¬(HT.sIx l.length 0 lo=0/\HT.sIx l.length l.length hi=l.length)/\Q (.pu<|.tup<|cutD l lo hi)
 | .lst l=>Q (.ow<|cutD l lo hi)
 | .rol l=>Q (.ow<|cutD l lo hi)
 | _=>False
def uSl (t:UV)(tl th:UO):UE:=λρ Q=>t ρ λd ρ1=>tl ρ1 λlo ρ2=>th ρ2 λhi ρ3=>gSl d lo hi λb=>Q b ρ3
theorem kR {t:UV}{tl th:UO}{lo hi:Option Expr}(he:PUV X e t)(hl:PUO X lo tl)(hu:PUO X hi th):PU X (.Subscript e (.Slice lo hi none p2) pos) (uSl t tl th):=
 gR (c08 (cJ7.or cX3) he hl hu) λσ H Q ⟨C,ρ,Q0,I,h,k⟩=>⟨C,ρ,_,I,h,λd ρ1 v H1 q f s r=>by
  have I1:=(I.frz f).same s;refine⟨C,ρ1,_,I1,q,λl2 ρ2 H2 q2 f2 s2=> ?_⟩
  have I2:=(I1.frz f2).same s2;refine⟨C,ρ2,_,I2,q2,λh3 ρ3 H3 q3 f3 s3=> ?_⟩
  have I3:=(I2.frz f3).same s3;have s13:=s2.trans s3;have sAll:=s.trans s13;have fAll:=f.trans (f2.trans f3);have r':=r.mono (A':=Av C ρ3 σ) s13 λa z=>f2.av (f3.av z)
  cases d with
  | tup l=>
   obtain⟨hw,q3⟩:=q3;obtain⟨a,vs,rfl,c,rs⟩:=r';exact .inr ⟨a,vs,rfl,c,by rw[<-rs.length];exact hw,λp n=>k _ ρ3 _ _ q3 fAll (sAll.trans<|eB n _) (iK (λa z=>I3.avSome z) n<|rs.cut l2 h3)⟩
  | lst l=>
   obtain⟨a,vs,rfl,c,rs⟩:=r';exact .inl ⟨a,vs,rfl,SqL.of c,λp n=>k _ ρ3 _ _ q3 fAll (sAll.trans<|eB n _) (gS sAll n<|rs.cut l2 h3)⟩
  | rol l=>
   obtain⟨a,vs,rfl,c,rs⟩:=r';exact .inl ⟨a,vs,rfl,c,λp n=>k _ ρ3 _ _ q3 fAll (sAll.trans<|eB n _) (gS sAll n<|rs.cut l2 h3)⟩
  | _=>exact(show False from q3).elim⟩
def Sm (i:Int):Prop:=i.natAbs<2^9000
theorem Sm.log {i:Int}(h:Sm i):i.natAbs.log2<9000:=by
 by_cases z:i.natAbs=0
 .rw[z];decide
 .exact(Nat.log2_lt z).mpr h
def fE (d e:D)(Q:B->Prop):Prop:=match d,e with
 | .int i,.int j=>Q (.pu<|.int<|i+j)
 | .lst l,.lst m=>l.length+m.length<=sizeLine/\Q (.ow<|l++m)
 | .tup l,.tup m=>l.length+m.length<=sizeLine/\Q (.pu<|.tup<|l++m)
 | _,_=>False
theorem cY9:OpR X (binaryOp .Add) (λx y H Q=> ∃a b ys,x= .ref a/\y= .ref b/\SqT X.K H a []/\SqT X.K H b ys/\Q (.ref b) H):=by
 intro pins s σ H x y v u Q I rx ry h;obtain⟨a,b,ys,rfl,rfl,ha,hb,q⟩:=h;cases rx;cases ry;obtain⟨its,r1,p1,_⟩:=I.tuple ha;obtain⟨its2,r2,p2,_⟩:=I.tuple hb;have e:its=[]:=by
  have:=r1.length;exact u4.mp this.symm
 subst e;obtain⟨⟨cls,dd,data,sl⟩,ho,hc,n,hd⟩:=id p1;obtain⟨⟨cls2,dd2,data2,sl2⟩,ho2,hc2,n2,hd2⟩:=id p2;simp only at hc hd hc2 hd2;subst hc hd hc2 hd2;exact concat_meets ⟨_,ho,rfl⟩ ⟨_,ho2,rfl⟩ aN0 seq_tuple_add aK4 aJ9 (aJ5 _ _) (tuple_addW0 a b _ its2.toArray n n2 dd dd2 sl sl2 rfl) ⟨ho,ho2,⟨.ref b,H,I,rfl,q⟩⟩
theorem aG4 {i:Int}:oU K A H H' (.pu<|.int i) (.int i):=by
 show Rep K A H' (.int i) (.int i)
 simp only[Rep]
theorem bX:OpU X (binaryOp .Add) fE:=by
 intro A H d e v w Q0 Q hA r1 r2 g k;unfold fE at g;split at g
 .rename_i i j
  exact⟨_,op_add,i,j,bS r1,bS r2,k _ _ H g (.refl _) aG4⟩
 .rename_i l m
  simp only[Rep]at r1 r2;obtain⟨a,vs,rfl,n1,c1,rs1⟩:=r1;obtain⟨b,ws,rfl,n2,c2,rs2⟩:=r2;exact⟨_,op_cat,a,b,vs,ws,rfl,rfl,c1,c2,by rw[<-rs1.length,<-rs2.length];exact g.1,λp n=>k _ _ _ g.2 (eB n _) (gS (.refl _) n<|rs1.append rs2)⟩
 .rename_i l m
  simp only[Rep]at r1 r2;obtain⟨a,vs,rfl,c1,rs1⟩:=r1;obtain⟨b,ws,rfl,c2,rs2⟩:=r2;obtain⟨hz,g⟩:=g
  by_cases hn:l=[]
  .subst hn;have e1:vs=[]:=rs1.unnil;subst e1;refine⟨_,cY9,a,b,ws,rfl,rfl,c1.imp cJ id,c2.imp cJ id,k _ _ H g (.refl _) ?_⟩;show Rep X.K A H (.tup m) (.ref b);simp only[Rep];exact⟨b,ws,rfl,c2,rs2⟩
  refine⟨_,dC9,a,b,vs,ws,rfl,rfl,c1.imp cJ id,c2.imp cJ id,λz=>hn ?_,by rw[<-rs1.length,<-rs2.length];exact hz,λz=> ?_,λz p n=> ?_⟩
  .have:=rs1.length;rw[z]at this;exact u4.mp this
  .have e2:=rs2.length;rw[z]at e2;have e3:m=[]:=u4.mp e2;subst e3;rw[iT]at g;refine k _ _ H g (.refl _) ?_;show Rep X.K A H (.tup l) (.ref a);simp only[Rep];exact⟨a,vs,rfl,c1,rs1⟩
  .exact k _ _ _ g (eB n _) (iK hA n<|rs1.append rs2)
 .exact g.elim
def gI2 (f:Int->Int->(B->Prop)->Prop)(d e:D)(Q:B->Prop):Prop:=match d,e with
 | .int i,.int j=>f i j Q
 | _,_=>False
theorem tH {f:Int->Int->(B->Prop)->Prop}{d e:D}{Q:B->Prop}(h:gI2 f d e Q): ∃i j,d= .int i/\e= .int j/\f i j Q:=by
 unfold gI2 at h;split at h
 .exact⟨_,_,rfl,rfl,h⟩
 .exact h.elim
def gSub:D->D->(B->Prop)->Prop:=gI2 λi j Q=>Q (.pu<|.int<|i-j)
theorem bL:OpU X (binaryOp .Sub) gSub:=by
 intro A H d e v w Q0 Q hA r1 r2 g k;obtain⟨i,j,rfl,rfl,g⟩:=tH g;exact⟨_,op_sub,i,j,bS r1,bS r2,k _ _ H g (.refl _) aG4⟩
theorem cK2 {i:Int}(h:Sm i):Builtin.Int.intBits i<=2^20:=aK (PyProof.Rows.intBits_le h) ac
def dQ (d e:D)(Q:B->Prop):Prop:=match d,e with
 | .int i,.int j=>(cB9 i j\/(Sm i/\Sm j))/\Q (.pu<|.int<|i*j)
 | .lst l,.int k=>(-(2^63)<=k/\k<2^63/\l.length*k.toNat<=sizeLine)/\Q (.ow (replicate k.toNat l).flatten)
 | _,_=>False
theorem dD9:OpR X (binaryOp .Mult) (rI (λi j=>cB9 i j\/(Sm i/\Sm j)) λi j=> .int (i*j)):=opI λ_ _ _ _ _ _ _ hc q=>mul_int q (hc.elim cB9.ok λh=> .of_bits (cK2 h.1) (cK2 h.2))
theorem bM:OpU X (binaryOp .Mult) dQ:=by
 intro A H d e v w Q0 Q hA r1 r2 g k;unfold dQ at g;split at g
 .rename_i i j
  exact⟨_,dD9,i,j,bS r1,bS r2,g.1,k _ _ H g.2 (.refl _) aG4⟩
 .rename_i l kk
  have:=bS r2;subst this;simp only[Rep]at r1;obtain⟨a,vs,rfl,n1,c1,rs1⟩:=r1;obtain⟨⟨h1,h2,h3⟩,g⟩:=g;exact⟨_,op_rep,a,kk,vs,rfl,rfl,c1,h1,h2,by rw[<-rs1.length];exact h3,λp n=>k _ _ _ g (eB n _) (gS (.refl _) n<|rs1.rep _)⟩
 .exact g.elim
def aN8:D->D->(B->Prop)->Prop:=gI2 λi j Q=>(j≠0/\Sm j)/\Q (.pu<|.int<|i.fdiv j)
def lL:D->D->(B->Prop)->Prop:=gI2 λi j Q=>j≠0/\Q (.pu<|.int<|i.fmod j)
theorem dE0:OpR X (binaryOp .FloorDiv) (rI (λ_ j=>j≠0/\Sm j) λi j=> .int (i.fdiv j)):=opI λ_ _ _ _ _ _ _ hc q=>floordiv_int hc.1 q (.inl<|PyProof.noPylong_of_log2 hc.2.log)
theorem sH:OpU X (binaryOp .FloorDiv) aN8:=by
 intro A H d e v w Q0 Q hA r1 r2 g k;obtain⟨i,j,rfl,rfl,g⟩:=tH g;exact⟨_,dE0,i,j,bS r1,bS r2,g.1,k _ _ H g.2 (.refl _) aG4⟩
theorem eY:OpU X (binaryOp .Mod) lL:=by
 intro A H d e v w Q0 Q hA r1 r2 g k;obtain⟨i,j,rfl,rfl,g⟩:=tH g;exact⟨_,dB9,i,j,bS r1,bS r2,g.1,k _ _ H g.2 (.refl _) aG4⟩
def b96:D->D->(B->Prop)->Prop:=gI2 λi j Q=>dB8 i j/\Q (.pu<|.int<|i^j.toNat)
theorem a04:OpU X (binaryOp .Pow) b96:=by
 intro A H d e v w Q0 Q hA r1 r2 g k;obtain⟨i,j,rfl,rfl,g⟩:=tH g;exact⟨_,op_pow,i,j,bS r1,bS r2,g.1,k _ _ H g.2 (.refl _) aG4⟩
def w6 (p:Int->Int->Bool):D->D->(B->Prop)->Prop:=gI2 λi j Q=>Q (.pu<|.bl<|p i j)
theorem bT9 {p:Int->Int->Bool}(ho:OpR X (compareOp op) (rI0 λi j=> .bl (p i j))):OpU X (compareOp op) (w6 p):=by
 intro A H d e v w Q0 Q hA r1 r2 g k;obtain⟨i,j,rfl,rfl,g⟩:=tH g;exact⟨_,ho,i,j,bS r1,bS r2,k _ _ H g (.refl _) nQ⟩
theorem cK3:OpU X (compareOp .Lt) (w6 λi j=>decide (i<j)):=bT9 op_lt
theorem dN2:OpU X (compareOp .LtE) (w6 λi j=>decide (i<=j)):=bT9 op_le
theorem b97:OpU X (compareOp .Gt) (w6 λi j=>decide (j<i)):=bT9 op_gt
theorem dN3:OpU X (compareOp .GtE) (w6 λi j=>decide (j<=i)):=bT9 op_ge
def gP (neg:Bool)(d e:D)(Q:B->Prop):Prop:=match d,e with
 | .int i,.int j=>Q (.pu<|.bl<|neg ^^ decide (i=j))
 | .bl i,.bl j=>Q (.pu<|.bl<|neg ^^ decide (i=j))
 | .str i,.str j=>Q (.pu<|.bl<|neg ^^ decide (i=j))
 | _,_=>False
theorem a05 {b:Bool}{v:V}(h:Rep K A H (.bl b) v):v= .bl b:=by simpa only[Rep]using h
theorem aR8 {b:Str}{v:V}(h:Rep K A H (.str b) v):v= .str b:=by simpa only[Rep]using h
theorem fF:OpU X (compareOp .Eq) (gP false):=by
 intro A H d e v w Q0 Q hA r1 r2 g k;unfold gP at g;split at g
 .rw[bS r1,bS r2];exact⟨_,cW4,rfl,k _ _ H g (.refl _) (by rw[b61,nI,pH];exact nQ)⟩
 .rw[a05 r1,a05 r2];exact⟨_,cW4,rfl,k _ _ H g (.refl _) (by rw[bT1,nI,pH];exact nQ)⟩
 .rw[aR8 r1,aR8 r2];exact⟨_,cW4,rfl,k _ _ H g (.refl _) (by rw[b62,nI,pH];exact nQ)⟩
 .exact g.elim
theorem c19:OpU X (compareOp .NotEq) (gP true):=by
 intro A H d e v w Q0 Q hA r1 r2 g k;unfold gP at g;split at g
 .rw[bS r1,bS r2];exact⟨_,cW5,rfl,k _ _ H g (.refl _) (by rw[b61,pW,pH];exact nQ)⟩
 .rw[a05 r1,a05 r2];exact⟨_,cW5,rfl,k _ _ H g (.refl _) (by rw[bT1,pW,pH];exact nQ)⟩
 .rw[aR8 r1,aR8 r2];exact⟨_,cW5,rfl,k _ _ H g (.refl _) (by rw[b62,pW,pH];exact nQ)⟩
 .exact g.elim
end
section
variable {X:Cx}{a b e o:Expr}{es:List Expr}{pos:Pos}{ta tb te ti:UE}{K:PySem.W.Frag}{C:C0}{ρ ρ':Ev}{σ σ':L2.St}{H H':Hp}{A:AS}
def kS (t:UE):UE:=λρ Q=>t ρ λb ρ1=>match b.d with
 | .int i=>Q (.pu<|.int<|-i) ρ1
 | _=>False
theorem iG (h:PU X a ta):PU X (.UnaryOp .USub a pos) (kS ta):=
 gR (pe_un un_neg h) λσ H Q ⟨C,ρ,Q0,I,h,k⟩=>⟨C,ρ,_,I,h,λb ρ1 v H1 q f s r=>by
  have r':=r.rep λa z=>I.avF f z
  generalize b.d=d at q r';split at q
  .exact⟨_,bS r',k _ _ _ _ q f s aG4⟩
  .exact q.elim⟩
theorem cD6:IpU X .Add (gI2 λi j Q=>Q (.pu<|.int<|i+j)):=by
 intro A H d e v w Q0 Q hA r1 r2 g k;obtain⟨i,j,rfl,rfl,g⟩:=tH g;exact⟨_,ip_add,i,j,bS r1,bS r2,k _ _ H g (.refl _) aG4⟩
theorem iu_sub:IpU X .Sub (gI2 λi j Q=>Q (.pu<|.int<|i-j)):=by
 intro A H d e v w Q0 Q hA r1 r2 g k;obtain⟨i,j,rfl,rfl,g⟩:=tH g;exact⟨_,cW2,i,j,bS r1,bS r2,k _ _ H g (.refl _) aG4⟩
def g1 (f:D->(B->Prop)->Prop)(ds:List D)(Q:B->Prop):Prop:=match ds with
 | [d]=>f d Q
 | _=>False
def g2 (f:D->D->(B->Prop)->Prop)(ds:List D)(Q:B->Prop):Prop:=match ds with
 | [d,e]=>f d e Q
 | _=>False
theorem aN9 {f:D->(B->Prop)->Prop}{ds:List D}{Q:B->Prop}{vs:List V}(h:g1 f ds Q)(r:bQ K A H ds vs): ∃d v,ds=[d]/\vs=[v]/\Rep K A H d v/\f d Q:=by
 unfold g1 at h;split at h
 .obtain⟨v,vr,rfl,rv,rr⟩:=r.uncons;have:=rr.unnil;subst this;exact⟨_,v,rfl,rfl,rv,h⟩
 .exact h.elim
theorem cZ0 {f:D->D->(B->Prop)->Prop}{ds:List D}{Q:B->Prop}{vs:List V}(h:g2 f ds Q)(r:bQ K A H ds vs): ∃d e v w,ds=[d,e]/\vs=[v,w]/\Rep K A H d v/\Rep K A H e w/\f d e Q:=by
 unfold g2 at h;split at h
 .obtain⟨v,vr,rfl,rv,rr⟩:=r.uncons;obtain⟨w,wr,rfl,rw',rr'⟩:=rr.uncons;have:=rr'.unnil;subst this;exact⟨_,_,v,w,rfl,rfl,rv,rw',h⟩
 .exact h.elim
def dE1 (f:Int->(B->Prop)->Prop)(d:D)(Q:B->Prop):Prop:=match d with
 | .int i=>f i Q
 | _=>False
theorem cZ1 {f:Int->(B->Prop)->Prop}{d:D}{Q:B->Prop}(h:dE1 f d Q): ∃i,d= .int i/\f i Q:=by
 unfold dE1 at h;split at h
 .exact⟨_,rfl,h⟩
 .exact h.elim
def cD7:List D->(B->Prop)->Prop:=g1 (dE1 λi Q=>Q (.pu<|.int<|if i<0 then -i else i))
theorem b98:wB X (.builtin "abs") cD7:=by
 intro A H ds vs Q0 Q hA r g k;obtain⟨d,v,rfl,rfl,rv,g⟩:=aN9 g r;obtain⟨i,rfl,g⟩:=cZ1 g;exact⟨_,cW6,i,by rw[bS rv],k _ _ H g (.refl _) aG4⟩
def dE2:List D->(B->Prop)->Prop:=g2 (gI2 λi j Q=>Q (.pu<|.int<|if j>i then j else i))
theorem cZ2 (hc:X.calm=true):wB X (.builtin "max") dE2:=by
 intro A H ds vs Q0 Q hA r g k;obtain⟨d,e,v,w,rfl,rfl,rv,rw',g⟩:=cZ0 g r;obtain⟨i,j,rfl,rfl,g⟩:=tH g;exact⟨_,cP1 hc,i,j,by rw[bS rv,bS rw'],k _ _ H g (.refl _) aG4⟩
def gMin:List D->(B->Prop)->Prop:=g2 (gI2 λi j Q=>Q (.pu<|.int<|if j<i then j else i))
theorem cu_min (hc:X.calm=true):wB X (.builtin "min") gMin:=by
 intro A H ds vs Q0 Q hA r g k;obtain⟨d,e,v,w,rfl,rfl,rv,rw',g⟩:=cZ0 g r;obtain⟨i,j,rfl,rfl,g⟩:=tH g;exact⟨_,cP2 hc,i,j,by rw[bS rv,bS rw'],k _ _ H g (.refl _) aG4⟩
def b99:List D->(B->Prop)->Prop:=g1 λd Q=>match d with
 | .int i=>Q (.pu<|.int i)
 | .bl k=>Q (.pu<|.int<|if k then 1 else 0)
 | _=>False
theorem cZ3:wB X (.type "int") b99:=by
 intro A H ds vs Q0 Q hA r g k;obtain⟨d,v,rfl,rfl,rv,g⟩:=aN9 g r;cases d with
 | int i=>exact⟨_,bN3,.inl ⟨i,by rw[bS rv],k _ _ H g (.refl _) aG4⟩⟩
 | bl c=>exact⟨_,bN3,.inr ⟨c,by rw[a05 rv],k _ _ H g (.refl _) aG4⟩⟩
 | _=>exact(show False from g).elim
nonrec def cA:List D->(B->Prop)->Prop:=g1 λd Q=>match oY d with
 | some l=>Q (.pu<|.tup l)
 | none=>False
theorem dA:wB X (.type "tuple") cA:=by
 intro A H ds vs Q0 Q hA r g k;obtain⟨d,v,rfl,rfl,rv,g⟩:=aN9 g r;cases d with
 | tup l=>
  have rv':=rv;simp only[Rep]at rv;obtain⟨a,vs,rfl,c,rs⟩:=rv;exact⟨_,wO,a,vs,rfl,.inr ⟨c.imp cJ id,k _ _ H g (.refl _) rv'⟩⟩
 | lst l=>
  simp only[Rep]at rv;obtain⟨a,vs,rfl,n,c,rs⟩:=rv;exact⟨_,wO,a,vs,rfl,.inl ⟨SqL.of c,λp n=>k _ _ _ g (eB n _) (iK hA n rs)⟩⟩
 | rol l=>
  simp only[Rep]at rv;obtain⟨a,vs,rfl,c,rs⟩:=rv;exact⟨_,wO,a,vs,rfl,.inl ⟨c.imp cJ id,λp n=>k _ _ _ g (eB n _) (iK hA n rs)⟩⟩
 | _=>exact(show False from g).elim
nonrec def aR9:List D->(B->Prop)->Prop:=g1 λd Q=>match oY d with
 | some l=>Q (.ow l)
 | none=>False
theorem bU0:wB X (.type "list") aR9:=by
 intro A H ds vs Q0 Q hA r g k;obtain⟨d,v,rfl,rfl,rv,g⟩:=aN9 g r;cases e:oY d with
 | none=>simp only[e]at g
 | some l=>
  simp only[e]at g;obtain⟨a,vs,rfl,c,rs⟩:=rv.one.seq e;exact⟨_,bT7,a,vs,rfl,c,λp n=>k _ _ _ g (eB n _) (gS (.refl _) n rs)⟩
def kT (t:UV):UE:=λρ Q=>t ρ λd ρ1=>match oY d with
 | some l=>Q (.pu<|.int l.length) ρ1
 | none=>False
theorem eQ {t:UV}(ha:PUV X e t)(hg:Gl X "len")(hm:X.mg "len"=none)(hs:↥(starEach [e] X.env=(false,eval e X.env)::starEach [] X.env))
  (hpl:↥((backTo pos<|starEach [] X.env).any (·.1)=false)):PU X (.Call (.Name "len" p) [e] [] pos) (kT t):=
 gR (c07 bT6 hg hm PySem.boot_len (bT2 ha cC5 hs) ac ac hs hpl) λσ H Q ⟨C,ρ,Q0,I,h,k⟩=>⟨C,ρ,_,I,h,λd ρ1 v H1 q f s r=>by
  cases e:oY d with
  | none=>simp only[e]at q
  | some l=>
   simp only[e]at q;obtain⟨a,vs,rfl,c,rs⟩:=r.seq e;exact⟨a,vs,rfl,c,k _ _ _ _ q f s (by rw[rs.length];exact aG4)⟩⟩
theorem pu_ty {T:String}(hg:Gl X x)(hm:X.mg x=none)(hv:bootBuiltins x=some (.type T))(hn:⇑(x≠"__name__"))(hd:⇑(x∪0)):PU X (.Name x p) (uC<|.ty T):=
 b66 (dB0 (v:= .ty T) hg hm hv rfl hn hd) λA H=>by simp only[Rep]
nonrec def init (N:List Str)(ds:List D):Ev:=ds.map (λd=>some (.pu d))++replicate (N.length-ds.length) none
theorem a81 {ds:List D}{z:B}(h:(init N ds)[i]? =some (some z)): ∃d,z= .pu d/\ds[i]? =some d:=by
 unfold init at h
 by_cases hi:i<ds.length
 .rw[hG<|by simpa using hi,bP]at h
  cases e:ds[i]? with
  | none=>rw[e]at h;cases h
  | some d=>rw[e]at h;cases h;exact⟨d,rfl,rfl⟩
 .rw[gZ<|by simpa using hi,tZ]at h
  split at h<;>cases h
theorem bU1 {ds:List D}{vs:List V}(hA: ∀a,A a->H a≠none)(r:bQ K A H ds vs):EOk K ⟨H,A⟩ (init N ds) (L2.start N vs) H:=by
 have own: ∀a,¬Own (init N ds) (L2.start N vs) a:=λa ⟨i,l,h1,_⟩=>by
  obtain⟨d,e,_⟩:=a81 h1;cases e
 refine⟨?_,λi d h=> ?_,λi l h=> ?_,λi j l l' a h=> ?_,λi l h=> ?_,.refl _,hA⟩
 .unfold init L2.start;simp[r.length]
 .obtain⟨d',e,e2⟩:=a81 h;cases e;obtain⟨v,h1,h2⟩:=r.get e2;refine⟨v,?_,h2.mono<|.sub (.refl _) λa z=>z.elim id λz=>absurd z (own a)⟩
  unfold L2.start;have hv:i<vs.length:=(jK.mp h1).1;rw[hG<|by simpa using hv,bP,h1]
  rfl
 .obtain⟨d',e,_⟩:=a81 h;cases e
 .obtain⟨d',e,_⟩:=a81 h;cases e
 .obtain⟨d',e,_⟩:=a81 h;cases e
theorem bU2 {K:PySem.W.Frag}{ps:List Str}(F:Fun K x qual st f fd)(S:aY N ps (aF st))
  (len: ∀ds Q,φ ds Q->ds.length=ps.length)
  (body: ∀(cdv:Value) (A:Around) (outer:List Env) (s:Shared) (H:Hp) (E:XK),fG k (A.deeper<|envOfC qual (aF st) s.heap.objs.size f cdv)->
   ∃t,qF (qE CX0 P w K mg base N qual (aF st) f cdv A outer s H E).nox (cV st) t/\ ∀ds Q,φ ds Q->t {Q with} (init N ds)) :
  sF P w K mg base CX0 (k+1) f fd ps (spP K φ):=by
 refine F.ok S (λvs H Q E h=> ?_) (λcdv A outer s H vs Q E hr h=> ?_)
 .obtain⟨A,ds,Q0,_,r,h,_⟩:=h;rw[<-r.length];exact len ds Q0 h
 .obtain⟨A',ds,Q0,hA,r,h,q⟩:=h;obtain⟨t,ht,hq⟩:=body cdv A outer s H E hr;refine⟨_,ht,⟨H,A'⟩,init N ds,_,bU1 hA r,hq ds Q0 h,⟨λρ σ H' z I=> ?_,λb v H' z s r=>q b v H' z s r,λ_ _ _ z=>z.elim,λ_ _ _ z=>z.elim⟩⟩
  exact q _ _ H' z I.ext (show Rep _ _ _ _ _ by simp only[Rep])
end
structure Fn (P:Program)(w:World)(K:PySem.W.Frag)(mg:Str->Option Value)(base:Heap)(x:Str)(ps:List Str)(k:Nat)(φ:Φ):Prop where
 ex: ∃f fd,sF P w K mg base CX0 k f fd ps (spP K φ)/\Binds K fd ps []/\keepIn K (.ref f)=true/\mg x=some (.ref f)
section
variable {X:Cx}{e:Expr}{es:List Expr}{pos:Pos}
theorem a82 {ps:List Str}{t:UA}(F:Fn X.prog X.w X.K X.mg X.base x ps k φ)(hr:fG k' X.A)(hk:k<=k')(hg:Gl X x)(ha:PUA X (e::es) t)(hdb:⇑(x∪0))
  (he:↥(starEach (e::es) X.env=(false,eval e X.env)::starEach es X.env)) (hpl:↥((backTo pos<|starEach es X.env).any (·.1)=false)):PU X (.Call (.Name x p) (e::es) [] pos) (aS φ t):=by
 obtain⟨f,fd,G,b,kp,m⟩:=F.ex;exact dD5 (E:=E0) G (hr.mono hk) hg m kp b (λ_ _ _ _ _ _ _ h=>h.elim) ha hdb he hpl
theorem cZ4 {ps:List Str}(F:Fn X.prog X.w X.K X.mg X.base x ps k φ)(hr:fG k' X.A)(hk:k<=k')(hg:Gl X x)(hdb:⇑(x∪0)):PU X (.Call (.Name x p) [] [] pos) (aS φ aM):=by
 obtain⟨f,fd,G,b,kp,m⟩:=F.ex;exact cY4 (E:=E0) G (hr.mono hk) hg m kp b (λ_ _ _ _ _ _ _ h=>h.elim) hdb
theorem il (hn:X.N.length=n)(h:i<n): ∀pins σ H s,Inv X pins σ H s->i<σ.length:=λ_ _ _ _ I=>by rw[I.len,hn];exact h
theorem il2 (hn:X.N.length=n)(h:i<n)(h':j<n): ∀pins σ H s,Inv X pins σ H s->i<σ.length/\j<σ.length:=λ_ _ _ _ I=>by rw[I.len,hn];exact⟨h,h'⟩
end
theorem Fn.mk' {ps:List Str}(F:Fun K x qual st f fd)(m:mg x=some (.ref f))(b:Binds K fd ps [])(S:aY N ps (aF st))
  (len: ∀ds Q,φ ds Q->ds.length=ps.length) {t:US}
  (der: ∀(cdv:Value) (A:Around) (outer:List Env) (s:Shared) (H:Hp) (E:XK),fG k (A.deeper<|envOfC qual (aF st) s.heap.objs.size f cdv)->qF (qE CX0 P w K mg base N qual (aF st) f cdv A outer s H E).nox (cV st) t)
  (rd: ∀ds Q,φ ds Q->t {Q with} (init N ds)):Fn<$>x ps (k+1) φ:=
 ⟨f,fd,bU2 F S len λcdv A outer s H E hr=>⟨t,der cdv A outer s H E hr,rd⟩,b,F.kp,m⟩
def bO2:Φ:=λds Q=> ∃ns:List Int,ds=[.rol<|ns.map .int]/\ns.length<=63/\Q (.pu<|.bl true)
theorem bO3 {K:PySem.W.Frag}{A:AS}{H:Hp}: ∀ns:List Int,bQ K A H (ns.map .int) (ns.map V.int)
 | []=> .nil
 | n::ns=> .cons (by simp only[Rep]) (bO3 ns)
theorem law_sp {H:Hp}{ns:List Int}(hl:ns.length<=63)(hS:SqL K H a (ns.map V.int)):spP K bO2 [.ref a] H (λv _=>v= .bl true) (λ_ _ _=>False):=by
 refine⟨λ_=>False,[.rol<|ns.map .int],λb=>b= .pu (.bl true),λ_ z=>z.elim,.cons ?_ .nil,⟨ns,rfl,hl,rfl⟩,λb v H' q s r=> ?_⟩
 .simp only[Rep];exact⟨a,_,rfl,hS.imp (λz=>⟨λz=>z,z⟩) id,bO3 ns⟩
 .subst q;have r':Rep K (λ_=>False) H' (.bl true) v:=r
  exact a05 r'
theorem walkM {l:PySem.W.OpenLaw}{XP:(Str->Option Value)->Heap->Prop}{d:DefRec}{K:Params->PySem.W.Frag}(hn:l.most=some 63)(hdf:d.params.defaults=[])(hr:fG k callerA)
  (hY: ∀(w:World) (h:Heap),YP w h->(K w.params).In h)
  (F: ∀(w:World) (mg:Str->Option Value) (fa:Addr) (h:Heap),(K w.params).In h->h.Ns mainGlobals mg->mg d.name=some (.ref fa)->
   ∃fd:FuncData,(∀(s:Shared) (u:Value),BindsTo s fd ⟨[u],[]⟩ [(x,u)])/\ ∀base:Heap,(K w.params).In base->base.Ns mainGlobals mg->sF l.prog w (K w.params) mg base CX0 k fa fd [x] (spP (K w.params) bO2)) :
  PySem.W.WalkO q loose XP YP l.row.toRowW d [] (λf vs=>PySem.call f vs):=
 L2.walk_of (n:=63) (k:=k) (x:=x) (CX:=λ_=>CX0) (sp:=λw=>spP (K w.params) bO2) hn ac hdf hr hY F (λ_ _ a ns hl _ hS=>law_sp hl hS) λ_ _ _ _ _ z=>z
end M
section
namespace L2
nonrec def bU (X:Cx)(N:List Str)(scope:Scope)(cl:List (Str×Addr))(C:Addr)(s:Shared)(H:Hp)(fp:List Addr)(pins:List (Addr×Obj)):Cx where
 prog:=X.prog
 w:=X.w
 K:=X.K
 mg:=X.mg
 base:=X.base
 A:=X.A
 N:=N
 s₀:=s
 H₀:=H
 env:=compEnvC scope cl C X.env
 outer:=X.stack
 stack:=X.stack
 ex:=fp
 fn:=λx=>scope.names.lookup x==some .cell
 calm:=X.calm
 pn:=X.pn++pins
 xe:=λ_ _=>False
theorem a06 {env:Env}: ∀(names:List (Str×NameKind)),(∀y∈names,y.2= .free-> ∃c,env.cells.lookup y.1=some c)-> ∀cs:List (Str×Addr),(∀x c,cs.lookup x=some c->env.cells.lookup x=some c)->
  ∃cl,(forIn names cs fun(x:Str×NameKind) r=>(do if(x.2==NameKind.free)=true then do let c<-cellOf env x.1;pure (ForInStep.yield ((x.1,c)::r))else pure (ForInStep.yield r)):Sem (List<|Str×Addr))=pure cl/\
   (∀x c,cl.lookup x=some c->env.cells.lookup x=some c)/\(∀x c,cs.lookup x=some c-> ∃c',cl.lookup x=some c')/\ ∀y∈names,y.2= .free-> ∃c,cl.lookup y.1=some c
 | [],_,cs,hcs=>⟨cs,rfl,hcs,λx c h=>⟨c,h⟩,λy hy=>by simp at hy⟩
 | (n,k)::r,h,cs,hcs=>by
  have hr: ∀y∈r,y.2= .free-> ∃c,env.cells.lookup y.1=some c:=λy hy=>h y (eJ _ hy)
  by_cases hk:k= .free
  .subst hk;obtain⟨c,hc⟩:=h (n,.free) hJ rfl;have e1:cellOf env n=pure c:=by unfold cellOf;rw[hc]
   have hcs': ∀x c',List.lookup x ((n,c)::cs)=some c'->env.cells.lookup x=some c':=λx c' q=>by
    rw[cN]at q;split at q
    .rename_i e
     have:x=n:=by exists e
     subst this;cases q;exact hc
    .exact hcs x c' q
   obtain⟨cl,h1,h2,h3,h4⟩:=a06 r hr ((n,c)::cs) hcs';have hn: ∃c',cl.lookup n=some c':=h3 n c (by rw[cN];simp)
   refine⟨cl,?_,h2,λx c' q=> ?_,λy hy hf=> ?_⟩
   .rw[zO];show(do let c<-cellOf env n;pure (ForInStep.yield ((n,c)::cs))) >>= _=_;rw[e1];exact h1
   .by_cases z:x=n
    .subst z;exact hn
    .refine h3 x c' ?_
     rw[cN];have:(x==n)=false:=by exists z
     rw[this];exact q
   .rcases aZ.mp hy with rfl|hy
    .exact hn
    .exact h4 y hy hf
  .obtain⟨cl,h1,h2,h3,h4⟩:=a06 r hr cs hcs;refine⟨cl,?_,h2,h3,λy hy hf=> ?_⟩
   .rw[zO];have:(k==NameKind.free)=false:=by exists hk
    show(if(k==NameKind.free)=true then _ else _) >>= _=_
    rw[this];exact h1
   .rcases aZ.mp hy with rfl|hy
    .exact absurd hf hk
    .exact h4 y hy hf
structure eM (env:Env)(XN N:List Str)(cap:List (Option Nat))(scope:Scope):Prop where
 kind:scope.kind= .function
 owns: ∀y∈scope.names,y.2= .cell->scope.names.lookup y.1=some .cell
 freeK: ∀y∈scope.names,y.2= .free->scope.names.lookup y.1=some .free
 names: ∀y∈scope.names,y.2= .local->scope.names.lookup y.1=some .local
 frees: ∀y∈scope.names,y.2= .free->env.kindOf y.1=some .cell\/env.kindOf y.1=some .free
 caps: ∀(i j:Nat) (x:Str),N[i]? =some x->cap[i]? =some (some j)->XN[j]? =some x/\(x,NameKind.free)∈scope.names/\scope.names.lookup x=some .free
 len:cap.length=N.length
nonrec def wC (σ:L2.St)(cap:List (Option Nat))(last:Nat)(D:Addr):L2.St:=(cap.map λc=>c.bind λj=>(σ[j]?).join).set last (some<|.ref D)
theorem a83 {env:Env}{x:Str}{k:NameKind}: ∀{names:List (Str×NameKind)},names.lookup x=some k->
  (names.map fun(n,k)=>if(k==NameKind.free&&env.scope.kind== .function&&env.kindOf n==some .cell)then(n,NameKind.cell)else(n,k)).lookup x=
   some (if(k==NameKind.free&&env.scope.kind== .function&&env.kindOf x==some .cell)then NameKind.cell else k)
 | [],h=>by simp at h
 | (n,k')::r,h=>by
  rw[d5];rw[cN]at h;right
  by_cases e:(x==n)=true
  .have e':x=n:=by exists e
   subst e';rw[e]at h;cases h;split<;>simp
  .have e2:(x==n)=false:=by exists e
   rw[e2]at h;have ih:=a83 (env:=env) h;split
   .rw[cN,e2];exact ih
   .rw[cN,e2];exact ih
theorem oE {env:Env}{x:Str}{k:NameKind}: ∀{names:List (Str×NameKind)},(names.map fun(n,k)=>if(k==NameKind.free&&env.scope.kind== .function&&env.kindOf n==some .cell)then(n,NameKind.cell)else(n,k)).lookup x=some k->
  ∃k',names.lookup x=some k'/\(x,k')∈names/\(k=k'\/k'= .free)
 | [],h=>by simp at h
 | (n,k')::r,h=>by
  rw[d5]at h;dsimp only at h
  by_cases e:(x==n)=true
  .have e':x=n:=by exists e
   subst e';refine⟨k',by rw[cN,e],hJ,?_⟩
   split at h
   .rename_i c
    refine .inr ?_
    simp only[cZ,eX]at c;exact c.1.1
   .rw[cN,e]at h;cases h;exact .inl rfl
  .have e2:(x==n)=false:=by exists e
   have h':(r.map fun(n,k)=>if(k==NameKind.free&&env.scope.kind== .function&&env.kindOf n==some .cell)then(n,NameKind.cell)else(n,k)).lookup x=some k:=by
    split at h
    .rw[cN,e2]at h;exact h
    .rw[cN,e2]at h;exact h
   obtain⟨k2,h1,h2,h3⟩:=oE h';exact⟨k2,by rw[cN,e2];exact h1,eJ _ h2,h3⟩
theorem aX8 {x:Str}{c:Addr}: ∀(names:List (Str×NameKind)) (h:Heap) (acc:List (Str×Addr)),(cellsFrom h.objs.size names acc).lookup x=some c->
  acc.lookup x=some c\/(h.objs.size<=c/\(x,NameKind.cell)∈names/\(pushCells h names).IsCell c none)
 | [],_,_,e=> .inl e
 | (y,k)::r,h,acc,e=>by
  unfold cellsFrom at e;unfold pushCells
  by_cases hk:(k==NameKind.cell)=true
  .rw[aA hk]at e⊢;have hk':k= .cell:=by exists hk
   have sz:(h.push {cls:= .type "cell",data:= .cell none}).objs.size=h.objs.size+1:=iU ..;rw[<-sz]at e;rcases aX8 r _ _ e with q| ⟨q1,q2,q3⟩
   .rw[cN]at q;split at q
    .rename_i e1
     have:x=y:=by exists e1
     subst this;cases q;exact .inr ⟨aG _,by rw[hk'];exact hJ,⟨_,aN3 _ _ _ _<|bZ _ rfl,rfl⟩⟩
    .exact .inl q
   .exact .inr ⟨ad,eJ _ q2,q3⟩
  .rw[a8 hk]at e⊢;rcases aX8 r h acc e with q| ⟨q1,q2,q3⟩
   .exact .inl q
   .exact .inr ⟨q1,eJ _ q2,q3⟩
theorem aX9: ∀(names:List (Str×NameKind)) (n:Nat) (acc:List (Str×Addr)),(∀x c,acc.lookup x=some c->c<n)->(∀x y c,acc.lookup x=some c->acc.lookup y=some c->x=y)->
  ∀x y c,(cellsFrom n names acc).lookup x=some c->(cellsFrom n names acc).lookup y=some c->x=y
 | [],_,_,_,hi=>hi
 | (z,k)::r,n,acc,hl,hi=>by
  unfold cellsFrom
  by_cases hk:(k==NameKind.cell)=true
  .rw[aA hk];refine aX9 r (n+1) _ (λx c e=> ?_) (λx y c e1 e2=> ?_)
   .rw[cN]at e;split at e
    .cases e;exact pT n
    .exact kK (hl x c e)
   .rw[cN]at e1 e2;split at e1
    .rename_i q1
     cases e1;split at e2
     .rename_i q2
      exact(by simpa using q1:x=z).trans (by simpa using q2:y=z).symm
     .exact absurd (hl y _ e2) (dF _)
    .split at e2
     .cases e2;exact absurd (hl x _ e1) (dF _)
     .exact hi x y c e1 e2
  .rw[a8 hk];exact aX9 r n acc hl hi
theorem tN {x:Str}{c:Addr}: ∀(names:List (Str×NameKind)) (n:Nat) (acc:List (Str×Addr)),((x,NameKind.cell)∈names\/ ∀c,acc.lookup x=some c->n<=c)->(cellsFrom n names acc).lookup x=some c->n<=c
 | [],_,_,h,e=>by
  rcases h with h|h
  .simp at h
  .exact h c e
 | (z,k)::r,n,acc,h,e=>by
  unfold cellsFrom at e
  by_cases hk:(k==NameKind.cell)=true
  .rw[aA hk]at e;have hk':k= .cell:=by exists hk
   rcases h with h|h
   .rcases aZ.mp h with h|h
    .cases h;have:n<=c:=by
      by_cases q: ∃c',(cellsFrom (n+1) r ((x,n)::acc)).lookup x=some c'/\(x,NameKind.cell)∈r
      .obtain⟨c',e',m⟩:=q;have:=tN (c:=c) r (n+1) _ (.inl m) e
       lia
      .have nm:(x,NameKind.cell) ∉ r:=λm=>q ⟨c,e,m⟩
       have:=cells_keep r (n+1) ((x,n)::acc) nm;rw[this,cN]at e;simp at e;exact le_of_eq e
     exact this
    .have:=tN (c:=c) r (n+1) _ (.inl h) e
     lia
   .by_cases q:(x,NameKind.cell)∈r
    .have:=tN (c:=c) r (n+1) _ (.inl q) e
     lia
    .have:=cells_keep r (n+1) ((z,n)::acc) q;rw[this,cN]at e;split at e
     .cases e;exact aG _
     .exact h c e
  .rw[a8 hk]at e;refine tN (c:=c) r n acc (h.imp (λm=> ?_) id) e
   rcases aZ.mp m with m|m
   .cases m;exact absurd ac hk
   .exact m
where
 cells_keep {x:Str}: ∀(names:List (Str×NameKind)) (n:Nat) (acc:List (Str×Addr)),(x,NameKind.cell) ∉ names->(cellsFrom n names acc).lookup x=acc.lookup x
 | [],_,_,_=>rfl
 | (z,k)::r,n,acc,h=>by
  unfold cellsFrom
  by_cases hk:(k==NameKind.cell)=true
  .rw[aA hk];have hk':k= .cell:=by exists hk
   rw[cells_keep r (n+1) _ λm=>h (eJ _ m),cN]
   split
   .rename_i e
    have:x=z:=by exists e
    subst this;exact absurd (by rw[hk'];exact hJ) h
   .rfl
  .rw[a8 hk];exact cells_keep r n acc λm=>h (eJ _ m)
theorem cells_keep (names:List (Str×NameKind))(n:Nat)(acc:List (Str×Addr))(h:(x,NameKind.cell) ∉ names):(cellsFrom n names acc).lookup x=acc.lookup x:=tN.cells_keep names n acc h
theorem bU3 {M:Model}{globals:Addr}{env0:Env}{Q:Env->Shared->Prop}
  (hQ:Q {scope:=scope,locals:=s.heap.objs.size,globals:=globals,cells:=cellsFrom (s.heap.objs.size+1) scope.names cl,qual:=qual,func:=none,code:=env0.code,frame:=env0.frame,builtins:=env0.builtins} {s with heap:=pushCells (s.heap.push {cls:= .type "dict",data:= .dict #[]}) scope.names}) :
  wpAny M A (newFunctionEnv scope globals cl [] qual none .none<|some env0) Q E s:=by
 simp only[newFunctionEnv,Option.isSome_some,hX];refine a9 (wpAny_alloc ?_);refine a9 (wpAny_layCells _ (λname kind cells=>by cases hkc:kind==NameKind.cell<;>simp[hkc]) _ _ _ _ ?_)
 rw[show({s with heap:=s.heap.push {cls:= .type "dict",data:= .dict #[]}}:Shared).heap.objs.size=s.heap.objs.size+1 from iU ..]
 rw[forIn_nil];exact a9 (aH<|aH hQ)
section
variable {X:Cx}{pins:List (Addr×Obj)}{σ:L2.St}{H:Hp}{s:Shared}{N:List Str}{cap:List (Option Nat)}{scope:Scope}
theorem c20 {D:Addr}{cl0:List (Str×Addr)}{h1:Heap}{m0:Str->Option Value}(S:eM X.env X.N N cap scope)(I:Inv X pins σ H s)(hf: ∀b∈fp,aX1 X pins H b)(hfs: ∀b∈fp,b<s.heap.objs.size)
  (hcl: ∀x c,cl0.lookup x=some c->X.env.cells.lookup x=some c) (hcl2: ∀y∈scope.names,y.2= .free-> ∃c,cl0.lookup y.1=some c) (hN: ∀x,N[last]? =some x->scope.names.lookup x=none)
  (hns:h1.Ns s.heap.objs.size m0) (hk: ∀b o,s.heap.get? b=some o->h1.get? b=some o)
  (c1: ∀x c,cl.lookup x=some c->cl0.lookup x=some c\/(s.heap.objs.size<c/\h1.IsCell c none)) (c2: ∀x y c,cl.lookup x=some c->cl.lookup y=some c->x=y)
  (c3: ∀x,(x,NameKind.free)∈scope.names->cl.lookup x=cl0.lookup x) (c4: ∀x,scope.names.lookup x=some .cell-> ∃c,cl.lookup x=some c) (c5: ∀x c,scope.names.lookup x=some .cell->cl.lookup x=some c->s.heap.objs.size<=c) :
  Inv (bU X N scope cl s.heap.objs.size s H fp pins) [] (wC σ cap last D) H {s with heap:=h1,toks:=tk}:=by
 have sz:X.base.objs.size<=s.heap.objs.size:=aK I.ok.bsz I.sz;have kindF: ∀x,(bU X N scope cl s.heap.objs.size s H fp pins).env.kindOf x=some .cell\/(bU X N scope cl s.heap.objs.size s H fp pins).env.kindOf x=some .free->(x,NameKind.free)∈scope.names\/scope.names.lookup x=some .cell:=λx h=>by
  have: ∃k,(k= .cell\/k= .free)/\(relabel scope X.env).names.lookup x=some k:=by
   rcases h with h|h
   .exact⟨_,.inl rfl,h⟩
   .exact⟨_,.inr rfl,h⟩
  obtain⟨k,hk,h⟩:=this;obtain⟨k',h1,h2,h3⟩:=oE h;rcases h3 with rfl|rfl
  .rcases hk with rfl|rfl
   .exact .inr (S.owns _ h2 rfl)
   .exact .inl h2
  .exact .inl h2
 have cne: ∀x c,cl.lookup x=some c-> ∀b∈fp,c≠b:=λx c h b hb=>by
  rcases c1 x c h with q| ⟨q,_⟩
  .exact(hf b hb).2.2.2.2.1 x c (hcl x c q)
  .exact λz=>by subst z;exact absurd (Nat.lt_trans q<|hfs c hb) (dF _)
 refine⟨⟨I.ok.mod,S.kind,I.ok.glob,I.ok.blt,aG _,c2,λx h=> ?_,λx c h e=> ?_,I.ok.hd,I.ok.frames,.inl rfl,λb hb=> ?_,I.bs,sz,λb o e hb=> ?_,λb hb=> ?_,I.stack,I.stkFree⟩,
  rfl,I.bare,Un.kept hk,⟨m0,hns,λi x v e1 e2 e3=> ?_⟩,λx c h=> ?_,I.hok.fresh<|aG _,λx c h=> ?_,λp hp=> ?_,I.hok.kept hk,?_⟩
 .rcases kindF x h with q|q
  .obtain⟨c,e⟩:=hcl2 _ q rfl;exact⟨c,(c3 x q).trans e⟩
  .exact c4 x q
 .exact c5 x c (by simpa using(show(scope.names.lookup x==some NameKind.cell)=true from h)) e
 .exact⟨bI<|hfs b hb,λx c h=>cne x c h b hb⟩
 .rcases(hf b hb).2.2.2.1 with z|z
  .exact I.ok.noex b o e z
  .have:=aV e;exact absurd (b9 this<|aK I.ok.bsz z) (dF _)
 .intro z;rcases aZ.mp (I.stkSub b z)with z|z
  .exact(hf b hb).2.1 z
  .exact(hf b hb).2.2.1 z
 .have e1':N[i]? =some x:=e1;unfold wC at e2
  by_cases hl:last=i
  .subst hl;have z:=hN x e1';rcases e3 with e3|e3|e3
   .obtain⟨k',h1,_⟩:=oE (show(relabel scope X.env).names.lookup x=_ from e3)
    rw[z]at h1;cases h1
   .obtain⟨k',h1,_⟩:=oE (show(relabel scope X.env).names.lookup x=_ from e3)
    rw[z]at h1;cases h1
   .obtain⟨k',h1,_⟩:=oE (show(relabel scope X.env).names.lookup x=_ from e3)
    rw[z]at h1;cases h1
  .rw[M.get_set_ne hl,bP]at e2;cases e4:cap[i]? with
   | none=>rw[e4]at e2;cases e2
   | some c=>
    rw[e4]at e2;cases c with
    | none=>cases e2
    | some j=>
     have e2':(σ[j]?).join=some v:=by exists e2
     have e5:σ[j]? =some (some v):=by
      cases q:σ[j]? with
      | none=>rw[q]at e2';cases e2'
      | some w=>rw[q]at e2';cases w with
       | none=>cases e2'
       | some w'=>cases e2';rfl
     obtain⟨a1,a2,a3⟩:=S.caps i j x e1' e4;have kx:=S.frees _ a2 rfl;obtain⟨m,hn,hl'⟩:=I.loc;have vis:Vis X.env.scope x:=by
      rcases kx with kx|kx
      .exact .inr (.inl kx)
      .exact .inr (.inr kx)
     obtain⟨u,r,l⟩:=hl' j x v a1 e5 vis;refine⟨u,r,.inr ⟨?_,?_⟩⟩
     .have q:=a83 (env:=X.env) a3;show(relabel scope X.env).names.lookup x=_\/(relabel scope X.env).names.lookup x=_;unfold relabel;right;rw[q];split
      .exact .inl rfl
      .exact .inr rfl
     .rcases l with⟨l,_⟩| ⟨_,c,hc,hcell⟩
      .rcases kx with kx|kx<;>·rw[kx]at l;cases l
      .obtain⟨c',hc'⟩:=hcl2 _ a2 rfl;have:=hcl x c' hc';rw[hc]at this;cases this;obtain⟨o,ho,hd⟩:=hcell;exact⟨c,(c3 x a2).trans hc',o,hk _ _ ho,hd⟩
 .rcases c1 x c h with q| ⟨_,q⟩
  .obtain⟨v,o,ho,hd⟩:=I.cell x c (hcl x c q);exact⟨v,o,hk _ _ ho,hd⟩
  .exact⟨_,q⟩
 .rcases c1 x c h with q| ⟨q,_⟩
  .exact I.freeC x c (hcl x c q)
  .exact I.hok.fresh (nM q)
 .have hp':p∈X.pn++pins:=by
   have:p∈(X.pn++pins)++[]:=hp
   exists this
  obtain⟨a1,a2,a3,a4,a5⟩:=I.pin p hp';refine⟨hk _ _ a1,a2,bI<|aV a1,λz=> ?_,a5⟩
  rcases aZ.mp (I.stkSub p.1 z)with z|z
  .exact a3 z
  .exact a4 z
 .unfold wC;rw[dL,aJ];exact S.len
theorem bO4 {σ':L2.St}{H':Hp}{h2:Heap}{pins':List (Addr×Obj)}(I:Inv X pins σ H s)(hf: ∀b∈fp,aX1 X pins H b)(hC:s.heap.objs.size<=C)
  (I':Inv (bU X N scope cl C s H fp pins) pins' σ' H' s') (hs:SameBut C s'.heap h2):Inv X pins σ H' {s' with heap:=h2}:=by
 have nC: ∀b o,s.heap.get? b=some o->b≠C:=λb o e z=>by
  subst z;exact absurd (b9 (aV e) hC) (dF _)
 have get: ∀b,b≠C->h2.get? b=s'.heap.get? b:=λb hb=>hs.2 b hb
 have U:=I'.base;have u:Un (frs X.stack) fp H H' s.heap h2:=by
  refine⟨λb o e n h1 hx=> ?_,λb o e n h1 hx=> ?_,U.free,λb o e hx=> ?_,U.tups,U.frzs,U.tbls⟩
  .rw[get b<|nC b o e];exact U.keep b o e n h1 hx
  .rw[get b<|nC b o e];exact U.slot b o e n h1 hx
  .rw[get b<|nC b o e];exact U.there b o e hx
 have fC:H' C=none:=I'.free;have hok:HOk X.prog X.w H' h2:=λa o e=>by
  have na:a≠C:=λz=>by subst z;rw[fC]at e;cases e
  refine(I'.hok a o e).stay (λb u hb q=> ?_) (λ_ q=>q) λ_ _ q=>q
  have nb:b≠C:=by
   rcases hb with rfl|hb
   .exact na
   .exact λz=>by subst z;rw[fC]at hb;cases hb
  rw[get b nb];exact q
 obtain⟨hh,gg,dd,tt,oo⟩:=s';have eo:oo=s.os:=I'.os;subst eo;have fin:=I.call (h':=h2) (g':=gg) (d':=dd) (t':=tt) (ch:=fp) u hok I'.bare λb hb=>⟨(hf b hb).2.2.2.1,(hf b hb).2.1,(hf b hb).2.2.2.2.1,(hf b hb).2.2.2.2.2⟩
 exact fin
end
def aO0 (e:Expr)(d:Nat)(target:Expr)(p0:Pos)(ifs:List Expr)(em:Sem Unit)(it acc:Value)(env:Env):Sem Fin:=do
 standAt p0
 match<-pyNext it with
 | none=>pure (.done .next)
 | some v=>
  letOwnedTupleGo target it v
  assign target env v
  let mut ok:=true
  for c in ifs do
   if ok then ok<-isTrue c env (eval c env)
  if ok then em
  again (.compLoop e d it acc env)
theorem a84 {prog:Program}{w:World}{A:Around}{R:Result->Shared->Prop}{s:Shared}{elt target:Expr}{gens:List Comprehension}{ifs:List Expr}{scope:Scope}{pos p0:Pos}{d:Nat}{it acc:Value}{env:Env}{em:Sem Unit}(I:Nat->Shared->Prop)
  (hturn:compTurn (.ListComp elt gens scope pos) d it acc env=aO0 (.ListComp elt gens scope pos) d target p0 ifs em it acc env)
  (turn: ∀n s,I n s->wpAny (model prog w) A (pyNext it) (λr s₁=>match r with
   | none=>R (.ok .next) s₁
   | some v=>wpAny (model prog w) A (letOwnedTupleGo target it v) (λ_ s₂=>wpAny (model prog w) A (assign target env v) (λ_ s₂=>
     wpAny (model prog w) A (forIn ifs true λc r=>if r=true then do let ok<-isTrue c env (eval c env);pure (ForInStep.yield ok)else pure (ForInStep.yield r)) (λok s₃=>
      if ok=true then wpAny (model prog w) A em (λ_ s₅=> ∃m,m<n/\I m s₅) (notedBy (model prog w) A env λe s'=>R (.error e) s') s₃
      else ∃m,m<n/\I m s₃) (notedBy (model prog w) A env λe s'=>R (.error e) s') s₂) (notedBy (model prog w) A env λe s'=>R (.error e) s') s₂) (notedBy (model prog w) A env λe s'=>R (.error e) s') s₁) (notedBy (model prog w) A env λe s'=>R (.error e) s') s)
  (n:Nat) (h:I n s):codeAny (model prog w) A (.compLoop (.ListComp elt gens scope pos) d it acc env) R s:=by
 refine codeAny_loop rfl I (λn s hI=> ?_) n h
 show wpAny _ A ((compTurn (.ListComp elt gens scope pos) d it acc env).onRaise (λx=>do noteFrame x env;theTreesLotGoes x)) _ _ s
 refine wpAny_noted ?_
 rw[hturn];unfold aO0;refine a9 (nJ<|a9<|bG (turn n s hI) (λr s₁ h₁=> ?_) λ_ _ h'=>h')
 cases r with
 | none=>exact aH h₁
 | some v=>
  refine a9 (bG h₁ (λ_ s₂ h₂=>a9 (bG h₂ (λ_ s₂ h₂=>a9 (bG h₂ (λok s₃ h₃=> ?_) λ_ _ h'=>h')) λ_ _ h'=>h')) λ_ _ h'=>h')
  cases ok with
  | false=>exact aH ⟨rfl,h₃⟩
  | true=>exact a9 (bG h₃ (λ_ s₅ h₅=>aH ⟨rfl,h₅⟩) λ_ _ h'=>h')
def PTs (X:Cx)(ifs:List Expr)(t:TT):Prop:=
 ∀(pins:List (Addr×Obj)) (s:Shared) (σ:L2.St) (H:Hp) (Q:Bool->Hp->Prop),Inv X pins σ H s->t σ H Q->
  X∩(forIn ifs true λc r=>if r=true then do let ok<-isTrue c X.env (eval c X.env);pure (ForInStep.yield ok)else pure (ForInStep.yield r)) (TP X pins σ Q) X.xe s
theorem dE3 {X:Cx}:PTs X [] (λ_ H Q=>Q true H):=λpins s σ H Q I h=>wpAny_tests_nil ⟨H,I,h⟩
theorem dE4 {X:Cx}{t:TT}(h:PT X c t):PTs X [c] t:=λpins s σ H Q I q=>wpAny_tests_one (h pins s σ H Q I q)
def bA0 (cap:List (Option Nat))(last:Nat)(wi:TI)(g:TG)(tt:TT)(tem:Addr->L2.St->Hp->(L2.St->Hp->Prop)->Prop):TE:=λσ H Q=>wi σ H λJ H1=> ∀D,H1 D=none-> ∃W:Nat->Nat->L2.St->Hp->Prop,(∃m,W 0 m (wC σ cap last D)<|upd H1 D<|.lst [])/\ ∀i m σ' H',W i m σ' H'->
 (J.stop i H'/\Q (.ref D) H')\/(J.go i H'/\ ∃Nx:L2.St->Hp->Prop,(∀σ2 H2,Nx σ2 H2-> ∃m',m'<m/\W (i+1) m' σ2 H2)/\ ∀x H2,J.yld i H' x H2->g x σ' H2 λσ3 H3=>tt σ3 H3 λc H4=>
  if c=true then tem D σ3 H4 Nx else Nx σ3 H4)
def tPut (te:TE)(D:Addr)(σ:L2.St)(H:Hp)(Nx:L2.St->Hp->Prop):Prop:=te σ H λy H5=> ∃ys,H5 D=some (.lst ys)/\ys.length<sizeLine/\Nx σ (upd H5 D<|.lst<|ys++[y])
def putOf (elt:Expr)(acc:Value)(env:Env):Sem Unit:=do let _<-call (.builtin "list.append") [acc,<-eval elt env]
def PEm (X:Cx)(em:Value->Env->Sem Unit)(tem:Addr->L2.St->Hp->(L2.St->Hp->Prop)->Prop):Prop:= ∀(D:Addr) (pins:List (Addr×Obj)) (s:Shared) (σ:L2.St) (H:Hp) (Nx:L2.St->Hp->Prop),Inv X pins σ H s->tem D σ H Nx->X∩(em (.ref D) X.env) (λ_ s'=> ∃σ' H',Inv X pins σ' H' s'/\Nx σ' H') X.xe s
theorem cK4 {X:Cx}{te:TE}(he:PE X elt te):PEm X (putOf elt) (tPut te):=by
 intro D pins s σ H Nx I h;refine a9 (bG (he pins s σ H _ I h) (λv s1 h1=> ?_) λ_ _ z=>z)
 obtain⟨y,H1,I1,r1,ys,e1,z1,q1⟩:=h1;refine a9 (bG (bN9 (X:=X) _ s1 σ H1 (.ref D) [y] (.ref D) [v] (λv H=>v= .non/\Nx σ H) I1 rfl (.cons r1 .nil) ⟨_,ys,y,rfl,rfl,e1,z1,rfl,q1⟩) (λ_ s2 h2=> ?_) λ_ _ z=>z)
 obtain⟨_,H2,I2,_,_,q2⟩:=h2;exact aH ⟨σ,H2,I2,q2⟩
theorem bO5 {X:Cx}{RR:Value->Addr->Result->Shared->Prop}{fS:List Comprehension}{wi:TI}{g:TG}{tt:TT}{tem:Addr->L2.St->Hp->(L2.St->Hp->Prop)->Prop}(hem: ∀it acc env,compTurn (.ListComp elt (⟨tg,iter,ifs,0⟩::fS) scope pos) 0 it acc env=aO0 (.ListComp elt (⟨tg,iter,ifs,0⟩::fS) scope pos) 0 tg iter.pos ifs (em acc env) it acc env)(hc:X.calm=true)(hi:PI X tg iter wi)(S:eM X.env X.N N cap scope)
  (hN: ∀x,N[last]? =some x->scope.names.lookup x=none)
  (hg: ∀cl C s H fp pins,PG (bU X N scope cl C s H fp pins) tg g) (ht: ∀cl C s H fp pins,PTs (bU X N scope cl C s H fp pins) ifs tt) (he: ∀cl C s H fp pins,PEm (bU X N scope cl C s H fp pins) em tem)
  {pins:List (Addr×Obj)} {s:Shared} {σ:L2.St} {H:Hp} {Q:VK} {cl:List (Str×Addr)} (I:Inv X pins σ H s) (h:bA0 cap last wi g tt tem σ H Q) (hcl: ∀x c,cl.lookup x=some c->X.env.cells.lookup x=some c) (hcl2: ∀y∈scope.names,y.2= .free-> ∃c,cl.lookup y.1=some c)
  (fin: ∀(D:Addr) (fp:List Addr) (H3:Hp) (s3:Shared) (σ':L2.St) (H':Hp) (s':Shared),Inv X pins σ H3 s3->(∀b∈fp,aX1 X pins H3 b)->Inv (bU X N scope (cellsFrom (s3.heap.objs.size+1) scope.names cl) s3.heap.objs.size s3 H3 fp pins) [] σ' H' s'->Q (.ref D) H'->RR (.ref D) s3.heap.objs.size (.ok .next) s') :
  X∩(eval iter X.env) (λx s₁=>X∩(pyIter x) (λit s₂=>X∩(newList []) (λacc s₃=>
   X∩(newFunctionEnv scope X.env.globals cl [] X.env.qual none .none<|some X.env) (λcenv s₄=>
    codeAny (model X.prog X.w) X.A (.compStart (.ListComp elt (⟨tg,iter,ifs,0⟩::fS) scope pos) 0 it acc {cenv with scope:=relabel scope X.env}) (RR acc cenv.locals) s₄) X.xe s₃) X.xe s₂) X.xe s₁) X.xe s:=by
 refine thn (hi pins s σ H _ I h) λxv s1 h1=>thn h1 λit s2 h2=> ?_
 obtain⟨ita,fp,tn,J,H2,rfl,I2,T,st2,f2,q⟩:=h2;refine iR ?_ (by show 0<=sizeLine;decide)
 have fD:H2 s2.heap.objs.size=none:=I2.hok.fresh (aG _);obtain⟨W,⟨m0,w0⟩,turn⟩:=q s2.heap.objs.size fD;have I3:Inv X pins σ (upd H2 s2.heap.objs.size<|.lst []) {s2 with heap:=s2.heap.push {cls:= .type "list",data:= .seq ([]:List Value).toArray}}:=I2.lnew (t':=s2.toks) .nil (eW _);have fpne: ∀b∈fp,b≠s2.heap.objs.size:=λb hb=>by
  obtain⟨o,ho,_⟩:=T.obj 0 _ st2 b hb;exact bI (aV ho)
 have f3: ∀b∈fp,aX1 X pins (upd H2 s2.heap.objs.size<|.lst []) b:=λb hb=>⟨by rw[cD<|fpne b hb];exact(f2 b hb).1,(f2 b hb).2⟩
 have k23: ∀b o,s2.heap.get? b=some o->(s2.heap.push {cls:= .type "list",data:= .seq ([]:List Value).toArray}).get? b=some o:=λb o e=>aT _ e
 have st3:tn 0 (s2.heap.push {cls:= .type "list",data:= .seq ([]:List Value).toArray}):=T.keep 0 _ _ st2 λb hb o e=>k23 b o e
 have fps: ∀b∈fp,b< (s2.heap.push {cls:= .type "list",data:= .seq ([]:List Value).toArray}).objs.size:=λb hb=>by
  obtain⟨o,ho,_⟩:=T.obj 0 _ st3 b hb;exact aV ho
 generalize hS3:({s2 with heap:=s2.heap.push {cls:= .type "list",data:= .seq ([]:List Value).toArray}}:Shared)=s3 at I3;have hh3:s3.heap=s2.heap.push {cls:= .type "list",data:= .seq ([]:List Value).toArray}:=by rw[<-hS3]
 rw[<-hh3]at st3 fps;refine bU3 ?_;have sz3:(s3.heap.push {cls:= .type "dict",data:= .dict #[]}).objs.size=s3.heap.objs.size+1:=iU ..;have hns₁:(pushCells (s3.heap.push {cls:= .type "dict",data:= .dict #[]}) scope.names).Ns s3.heap.objs.size (λ_=>none):=(Heap.Ns.new s3.heap<|.type "dict").keeps (aN3 _ _)
 have k34: ∀b o,s3.heap.get? b=some o->(pushCells (s3.heap.push {cls:= .type "dict",data:= .dict #[]}) scope.names).get? b=some o:=λb o e=>aN3 _ _ _ _ (aT _ e)
 have I4:=c20 (tk:=s3.toks) (last:=last) (D:=s2.heap.objs.size) (cl:=cellsFrom (s3.heap.objs.size+1) scope.names cl) S I3 f3 fps hcl hcl2 hN hns₁ k34
  (λx c e=>by
   rw[<-sz3]at e;rcases aX8 _ _ _ e with q| ⟨q1,_,q3⟩
   .exact .inl q
   .exact .inr ⟨ad,q3⟩)
  (aX9 _ _ _ (λx c e=>by
   obtain⟨v,q⟩:=I3.cell x c (hcl x c e);exact kK q.lt) λx y c e1 e2=>I3.ok.inj x y c (hcl x c e1) (hcl y c e2))
  (λx m=>cells_keep _ _ _ λm'=>by
   have h1:=S.owns _ m' rfl;have h2:=S.freeK _ m rfl;rw[h1]at h2;cases h2)
  (λx e=>yV.mp (aK3 _ _ _<|.inl e))
  (λx c e1 e2=>by
   have:=tN scope.names (s3.heap.objs.size+1) cl (.inl<|pL e1) e2
   lia)
 have st4:tn 0 (pushCells (s3.heap.push {cls:= .type "dict",data:= .dict #[]}) scope.names):=T.keep 0 _ _ st3 λb hb o e=>k34 b o e
 generalize hcl':cellsFrom (s3.heap.objs.size+1) scope.names cl=cl' at I4;have loop:codeAny (model X.prog X.w) X.A (.compLoop (.ListComp elt (⟨tg,iter,ifs,0⟩::fS) scope pos) 0 (.ref ita) (.ref s2.heap.objs.size)<|compEnvC scope cl' s3.heap.objs.size X.env)
   (RR (.ref s2.heap.objs.size) s3.heap.objs.size) {s3 with heap:=pushCells (s3.heap.push {cls:= .type "dict",data:= .dict #[]}) scope.names,toks:=s3.toks}:=by
  have stat: ∀{H':Hp},(∀b∈fp,H' b=none)-> ∀b∈fp,aX1 (bU X N scope cl' s3.heap.objs.size s3 (upd H2 s2.heap.objs.size<|.lst []) fp pins) [] H' b:=λ{H'} hn b hb=>by
   refine⟨hn b hb,bI<|fps b hb,λz=> ?_,.inl hb,λx c e=>(I4.ok.exf b hb).2 x c e,λp hp=> ?_⟩
   .rcases aZ.mp (I3.stkSub b z)with z|z
    .exact(f3 b hb).2.1 z
    .exact(f3 b hb).2.2.1 z
   .have:p∈(X.pn++pins)++[]:=hp;exact(f3 b hb).2.2.2.2.2 p (by exists this)
  have hcb:(bU X N scope cl' s3.heap.objs.size s3 (upd H2 s2.heap.objs.size<|.lst []) fp pins).calm=true:=hc;refine a84 (λn s'=> ∃i σ' H',Inv (bU X N scope cl' s3.heap.objs.size s3 (upd H2 s2.heap.objs.size<|.lst []) fp pins) [] σ' H' s'/\tn i s'.heap/\(∀b∈fp,H' b=none)/\W i n σ' H') (hem _ _ _) ?_ m0 ⟨0,_,_,I4,st4,λb hb=>(f3 b hb).1,w0⟩
  rintro n s5 ⟨i,σ5,H5,I5,st5,fr5,w5⟩;rcases turn i n σ5 H5 w5 with⟨stop,qn⟩| ⟨go,Nx,hNx,step⟩
  .refine bG (T.done (bU X N scope cl' s3.heap.objs.size s3 (upd H2 s2.heap.objs.size<|.lst []) fp pins) rfl rfl rfl hcb i [] s5 σ5 H5 (λ_ _=>False) I5 (stat fr5) st5 stop) (λr s6 hr=> ?_) (λ_ _ z=>z.elim)
   obtain⟨rfl,I6⟩:=hr;exact fin _ fp _ s3 σ5 H5 s6 I3 f3 (hcl'▸I6) qn
  .refine bG (T.item (bU X N scope cl' s3.heap.objs.size s3 (upd H2 s2.heap.objs.size<|.lst []) fp pins) rfl rfl rfl hcb i [] s5 σ5 H5 (λ_ _=>False) I5 (stat fr5) st5 go) (λr s6 hr=> ?_) (λ_ _ z=>z.elim)
   obtain⟨u,rfl,h6⟩:=hr;refine bG h6 (λ_ s7 h7=> ?_) (λ_ _ z=>z.elim)
   obtain⟨x,H7,I7,r7,y7,st7,fr7⟩:=h7;have I7':=I7.pinned (stat fr7) (T.obj _ _ st7);refine bG (hg _ _ _ _ _ _ _ s7 σ5 H7 x u _ I7' r7<|step x H7 y7) (λ_ s8 h8=> ?_) (λ_ _ z=>False.elim z)
   obtain⟨σ8,H8,I8,q8⟩:=h8;have again: ∀{σ9:L2.St} {H9:Hp} {s9:Shared},Inv (bU X N scope cl' s3.heap.objs.size s3 (upd H2 s2.heap.objs.size<|.lst []) fp pins) ([]++b88 fp s7.heap) σ9 H9 s9->Nx σ9 H9-> ∃m,m<n/\ ∃i σ' H',Inv (bU X N scope cl' s3.heap.objs.size s3 (upd H2 s2.heap.objs.size<|.lst []) fp pins) [] σ' H' s9/\tn i s9.heap/\(∀b∈fp,H' b=none)/\W i m σ' H':=λ{σ9 H9 s9} I9 n9=>by
    obtain⟨m',hm,w9⟩:=hNx σ9 H9 n9;refine⟨m',hm,i+1,σ9,H9,I9.unpinned,T.keep _ _ _ st7 λb hb o e=>(I9.pin (b,o)<|eU _<|eU _<|a03 hb e).1,λb hb=> ?_,w9⟩
    obtain⟨o,e,d⟩:=T.obj _ _ st7 b hb;exact(I9.pin (b,o)<|eU _<|eU _<|a03 hb e).2.1
   refine bG (ht _ _ _ _ _ _ _ s8 σ8 H8 _ I8 q8) (λc s9 h9=> ?_) (λ_ _ z=>False.elim z)
   obtain⟨H9,I9,q9⟩:=h9;cases c with
   | false=>exact again I9 q9
   | true=>
    rw[aA rfl]at q9⊢;refine bG (he _ _ _ _ _ _ _ _ s9 σ8 H9 _ I9 q9) (λ_ s10 h10=> ?_) (λ_ _ z=>False.elim z)
    obtain⟨σ10,H10,I10,q10⟩:=h10;exact again I10 q10
 exact codeAny_compStart_list loop (T.self _ 0 _ _ _ st4 loop)
theorem aH2 {X:Cx}{σ:L2.St}{H:Hp}(S:eM X.env X.N N cap scope)(I:Inv X pins σ H s) :
  ∃cl,closureFor scope X.env=pure cl/\(∀x c,cl.lookup x=some c->X.env.cells.lookup x=some c)/\ ∀y∈scope.names,y.2= .free-> ∃c,cl.lookup y.1=some c:=by
 obtain⟨cl,h1,h2,_,h4⟩:=a06 (env:=X.env) scope.names (λy hy hf=>I.ok.has y.1 (S.frees y hy hf)) [] (λx c q=>by simp at q)
 refine⟨cl,?_,h2,h4⟩
 have e:closureFor scope X.env=(forIn scope.names [] fun(x:Str×NameKind) r=>(do if(x.2==NameKind.free)=true then do let c<-cellOf X.env x.1;pure (ForInStep.yield ((x.1,c)::r))else pure (ForInStep.yield r)):Sem (List<|Str×Addr)) >>= λr=>pure r:=by
  rfl
 rw[e,h1];rfl
theorem dE5 {X:Cx}{fS:List Comprehension}{wi:TI}{g:TG}{tt:TT}{tem:Addr->L2.St->Hp->(L2.St->Hp->Prop)->Prop}(hem: ∀it acc env,compTurn (.ListComp elt (⟨tg,iter,ifs,0⟩::fS) scope pos) 0 it acc env=aO0 (.ListComp elt (⟨tg,iter,ifs,0⟩::fS) scope pos) 0 tg iter.pos ifs (em acc env) it acc env)(hc:X.calm=true)(hi:PI X tg iter wi)(S:eM X.env X.N N cap scope)
  (hN: ∀x,N[last]? =some x->scope.names.lookup x=none)
  (hg: ∀cl C s H fp pins,PG (bU X N scope cl C s H fp pins) tg g) (ht: ∀cl C s H fp pins,PTs (bU X N scope cl C s H fp pins) ifs tt) (he: ∀cl C s H fp pins,PEm (bU X N scope cl C s H fp pins) em tem)
  (hs: ∀x,foldedSetIterable iter X.env x=pure x:=by intro _;rfl):PE X (.ListComp elt (⟨tg,iter,ifs,0⟩::fS) scope pos) (bA0 cap last wi g tt tem):=by
 intro pins s σ H Q I h;rw[eval_ListComp];obtain⟨cl,hcl0,hcl,hcl2⟩:=aH2 S I;refine wpAny_comprehension_free (use:=none) rfl hs hcl0 S.kind S.names ?_;refine bO5 (RR:=λacc C=>compPost (model X.prog X.w) X.A X.xe none (EP X pins σ Q) acc C) hem hc hi S hN hg ht he I h hcl hcl2 λD fp H3 s3 σ' H' s' I3 f3 I' q=> ?_
 obtain⟨m6,hn6,_⟩:=I'.loc;exact⟨m6,hn6,λh' hs'=>⟨.ref D,H',bO4 I3 f3 (aG _) I' hs',rfl,q⟩⟩
theorem cD8 {X:Cx}{fS:List Comprehension}{wi:TI}{g:TG}{tt:TT}{tem:Addr->L2.St->Hp->(L2.St->Hp->Prop)->Prop}(hem: ∀it acc env,compTurn (.ListComp elt (⟨tg,iter,ifs,0⟩::fS) scope pos) 0 it acc env=aO0 (.ListComp elt (⟨tg,iter,ifs,0⟩::fS) scope pos) 0 tg iter.pos ifs (em acc env) it acc env)(hc:X.calm=true)(hi:PI X tg iter wi)(S:eM X.env X.N N cap scope)
  (hN: ∀x,N[last]? =some x->scope.names.lookup x=none)
  (hg: ∀cl C s H fp pins,PG (bU X N scope cl C s H fp pins) tg g) (ht: ∀cl C s H fp pins,PTs (bU X N scope cl C s H fp pins) ifs tt) (he: ∀cl C s H fp pins,PEm (bU X N scope cl C s H fp pins) em tem)
  (hy:PG X (.Name y py) (a76 i)) (hsw:↥(swapsWith (.ListComp elt (⟨tg,iter,ifs,0⟩::fS) scope pos) (some<|.Name y py) spos.line X.env=pure true))
  (hs: ∀x,foldedSetIterable iter X.env x=pure x:=by intro _;rfl):PS X (.Assign [.Name y py] (.ListComp elt (⟨tg,iter,ifs,0⟩::fS) scope pos) spos) (dB5 (bA0 cap last wi g tt tem)<|a76 i):=by
 intro pins s σ H D I h;rw[exec_Assign_Name_used _ _ _ _ hsw];refine a9 (nJ<|a9 ?_);obtain⟨cl,hcl0,hcl,hcl2⟩:=aH2 S I;show wpAny _ X.A (do let _<-comprehension (.ListComp elt (⟨tg,iter,ifs,0⟩::fS) scope pos) scope X.env _ (newList []) false (eval iter X.env) (some<|assign (.Name y py) X.env)) _ _ s
 refine a9 (bG (wpAny_comprehension_free (use:=some (assign (.Name y py) X.env)) (Q:=λ_ s'=>SP X pins D .next s') rfl hs hcl0 S.kind S.names ?_) (λ_ s' hq=>aH (aH hq)) λ_ _ e=>e)
 refine bO5 (RR:=λacc C=>compPost (model X.prog X.w) X.A X.xe (some<|assign (.Name y py) X.env) (λ_ s'=>SP X pins D .next s') acc C) hem hc hi S hN hg ht he I (show bA0 cap last wi g tt tem σ H (λx H1=>a76 i x σ H1 D.nx)from h) hcl hcl2 λD' fp H3 s3 σ' H' s' I3 f3 I' q=> ?_
 obtain⟨m6,hn6,_⟩:=I'.loc;obtain⟨o6,es6,ep6,ho6,rest6⟩:=id hn6;have J:Inv X pins σ H' s':=bO4 (h2:=s'.heap) I3 f3 (aG _) I' (.refl ..);have fC:H' s3.heap.objs.size=none:=I'.free;have neL:s3.heap.objs.size≠X.env.locals:=pY I3.lt;have neF:s3.heap.objs.size ∉ X.fs:=I3.nofs (aG _);have neC: ∀x c,X.env.cells.lookup x=some c->c≠s3.heap.objs.size:=λx c e z=>by
  obtain⟨v,qq⟩:=I3.cell x c e;exact absurd (b9 qq.lt (by rw[z];exact aG _)) (dF _)
 have neP: ∀p∈X.pn++pins,p.1≠s3.heap.objs.size:=λp hp z=>by
  have:=aV (I3.pin p hp).1;rw[z]at this;exact dF _ this
 have nd: ∀v,o6.data≠ .cell v:=λv z=>by
  have:o6.data= .dict es6 ep6:=rest6.1;rw[this]at z;cases z
 have J':Inv X (pins++[(s3.heap.objs.size,o6)]) σ H' s':=J.pins_of λp hp=>(d4.mp hp).elim (λz=>J.pin p (eU _ z)) λz=>by
  have e:p=(s3.heap.objs.size,o6):=by exists z
  subst e;exact⟨ho6,fC,neL,neF,nd⟩
 show wpAny _ X.A (assign (.Name y py) X.env<|.ref D') _ _ _
 refine thn (hy _ s' σ H' (.ref D') (.ref D') D.nx J' rfl q) λ_ s7 ⟨σ7,H7,I7,q7⟩=> ?_
 obtain⟨e7,n7,_⟩:=I7.pin (s3.heap.objs.size,o6) (eU _<|eU _ ae)
 refine⟨m6,⟨o6,es6,ep6,e7,rest6⟩,λh' hs'=> ?_⟩
 have I8:=I7.unpinned;exact⟨σ7,H7,I8.turned (t':=s7.toks) (λb o hb e=>(hs'.2 b hb).trans e) n7 neL (.inr<|aK I3.sz<|aG _) neC neP,q7⟩
end L2
namespace M
nonrec def dE6:B->B
 | .pu d=> .pu d
 | .ow l=> .bo l
 | .bo l=> .bo l
nonrec def rO (ρ:Ev)(cap:List (Option Nat))(last:Nat):Ev:=(cap.map λc=>c.bind λj=>((ρ[j]?).join).map dE6).set last (some<|.ow [])
nonrec def dE7 (ρ:Ev)(j:Nat):Ev:=match ρ[j]? with
 | some (some<|.ow l)=>ρ.set j (some<|.pu<|.lst l)
 | _=>ρ
nonrec def a07:Ev->List Nat->Ev
 | ρ,[]=>ρ
 | ρ,j::js=>a07 (dE7 ρ j) js
theorem cZ5 (ρ:Ev)(j:Nat):Frz ρ (dE7 ρ j):=by
 unfold dE7;split
 .rename_i l e
  exact .set e
 .exact .refl _
theorem c21: ∀(js:List Nat) (ρ:Ev),Frz ρ (a07 ρ js)
 | [],ρ=> .refl _
 | j::js,ρ=>(cZ5 ρ j).trans (c21 js _)
def eI (js:List Nat)(cap:List (Option Nat))(last:Nat)(ui:UI)(g:UG)(tt:UT)(te:UE):UE:=λρ Q=>ui ρ λn it ρ1=> ∃Pv:Nat->Ev->Prop,Pv 0 (rO (a07 ρ1 js) cap last)/\
 (∀i ρ',i<n->Pv i ρ'->g (.pu<|it i) ρ' λρ2=>tt ρ2 λc ρ3=>if c=true then te ρ3 λb ρ4=>mM ρ4 last λl=>l.length<sizeLine/\Pv (i+1) (ρ4.set last<|some<|.ow<|l++[b.d])else Pv (i+1) ρ3)/\
 ∀ρ',Pv n ρ'->mM ρ' last λl=>Q (.ow l) (a07 ρ1 js)
def cD9 (js:List Nat)(cap:List (Option Nat))(last:Nat)(ui:UI)(g:UG)(tt:UT)(uem:(Ev->Prop)->Ev->Prop):UE:=λρ Q=>ui ρ λn it ρ1=> ∃Pv:Nat->Ev->Prop,Pv 0 (rO (a07 ρ1 js) cap last)/\
 (∀i ρ',i<n->Pv i ρ'->g (.pu<|it i) ρ' λρ2=>tt ρ2 λc ρ3=>if c=true then uem (Pv<|i+1) ρ3 else Pv (i+1) ρ3)/\
 ∀ρ',Pv n ρ'->mM ρ' last λl=>Q (.ow l) (a07 ρ1 js)
def uPut (last:Nat)(te:UE)(Nx:Ev->Prop)(ρ:Ev):Prop:=te ρ λb ρ4=>mM ρ4 last λl=>l.length<sizeLine/\Nx (ρ4.set last<|some<|.ow<|l++[b.d])
def dE8 (K:PySem.W.Frag)(last:Nat)(uem:(Ev->Prop)->Ev->Prop)(tem:Addr->L2.St->Hp->(L2.St->Hp->Prop)->Prop):Prop:= ∀(C:C0) (ρ:Ev) (σ:L2.St) (H:Hp) (Dn:Addr) (Nx:Ev->Prop) (NX:L2.St->Hp->Prop),EOk K C ρ σ H->σ[last]? =some (some<|.ref Dn)->uem Nx ρ->(∀ρ2 σ2 H2,EOk K C ρ2 σ2 H2->σ2[last]? =some (some<|.ref Dn)->Nx ρ2->NX σ2 H2)->tem Dn σ H NX
section
variable {X:Cx}{K:PySem.W.Frag}{C:C0}{ρ ρ':Ev}{σ σ':L2.St}{H H':Hp}
theorem cap_ok {Dn:Addr}(I:EOk K C ρ σ H)(hl:last<cap.length)(n:H Dn=none) :
  EOk K ⟨H,Av C ρ σ⟩ (rO ρ cap last) (wC σ cap last Dn) (upd H Dn<|.lst []):=by
 have pu: ∀(i:Nat) (z:B),last≠i->(rO ρ cap last)[i]? =some (some z)-> ∃(j:Nat) (z':B),cap[i]? =some (some j)/\z=dE6 z'/\ρ[j]? =some (some z'):=λi z ne h=>by
  unfold rO at h;rw[get_set_ne ne,bP]at h;cases e4:cap[i]? with
  | none=>rw[e4]at h;cases h
  | some c=>
   rw[e4]at h;cases c with
   | none=>cases h
   | some j=>
    have h':((ρ[j]?).join).map dE6=some z:=by exists h
    cases q:ρ[j]? with
    | none=>rw[q]at h';cases h'
    | some w=>
     rw[q]at h';cases w with
     | none=>cases h'
     | some w'=>cases h';exact⟨j,w',rfl,rfl,q⟩
 have sgm: ∀(i j:Nat) (v:V),last≠i->cap[i]? =some (some j)->σ[j]? =some (some v)->(wC σ cap last Dn)[i]? =some (some v):=λi j v e e1 h1=>by
  unfold wC;rw[get_set_ne e,bP,e1];show some ((σ[j]?).join)=_;rw[h1];rfl
 have atl:(rO ρ cap last)[last]? =some (some<|.ow []):=by
  unfold rO;exact hZ (by rw[aJ];exact hl)
 have sal:(wC σ cap last Dn)[last]? =some (some<|.ref Dn):=by
  unfold wC;exact hZ (by rw[aJ];exact hl)
 have noOw: ∀(i:Nat) (l:List D),last≠i->(rO ρ cap last)[i]? ≠some (some<|.ow l):=λi l e h=>by
  obtain⟨j,z',_,z,_⟩:=pu i _ e h;cases z'<;>cases z
 have own: ∀a,Own (rO ρ cap last) (wC σ cap last Dn) a->a=Dn:=λa ⟨i,l,h1,h2⟩=>by
  by_cases e:last=i
  .subst e;rw[sal]at h2;cases h2;rfl
  .exact absurd h1 (noOw i l e)
 have P:mC (Av C ρ σ) H (Av ⟨H,Av C ρ σ⟩ (rO ρ cap last)<|wC σ cap last Dn) (upd H Dn<|.lst []):=λb o nb e=>by
  have ne:b≠Dn:=λz=>by subst z;rw[n]at e;cases e
  refine⟨?_,by rw[cD ne];exact e⟩
  rintro(z|z)
  .exact nb z
  .exact ne (own b z)
 refine⟨by unfold rO wC;rw[dL,dL,aJ,aJ],λi d h=> ?_,λi l h=> ?_,λi j l l' a h1 h2 h3 h4=> ?_,λi l h=> ?_,eB n _,λa z=>I.avSome z⟩
 .by_cases e:last=i
  .subst e;rw[atl]at h;cases h
  .obtain⟨j,z',e1,z,e2⟩:=pu i _ e h;cases z' with
   | pu d'=>
    cases z;obtain⟨v,h1,h2⟩:=I.pu j d e2;exact⟨v,sgm i j v e e1 h1,h2.mono P⟩
   | ow l=>cases z
   | bo l=>cases z
 .by_cases e:last=i
  .subst e;rw[atl]at h;cases h;exact⟨Dn,[],sal,iJ,n,.nil⟩
  .exact absurd h (noOw i l e)
 .have e1:last=i:=aJ4 λe=>absurd h1 (noOw i l e)
  have e2:last=j:=aJ4 λe=>absurd h2 (noOw j l' e)
  exact e1.symm.trans e2
 .by_cases e:last=i
  .subst e;rw[atl]at h;cases h
  .obtain⟨j,z',e1,z,e2⟩:=pu i _ e h;cases z' with
   | pu d'=>cases z
   | ow l'=>
    cases z;obtain⟨a,vs,h1,h2,h3,h4⟩:=I.ow j l e2;exact⟨a,vs,sgm i j _ e e1 h1,.inr ⟨j,l,e2,h1⟩,h2,h4.mono P⟩
   | bo l'=>
    cases z;obtain⟨a,vs,h1,h2,h3,h4⟩:=I.bo j l e2;exact⟨a,vs,sgm i j _ e e1 h1,.inl h2,I.ext _ _ h3,h4.mono P⟩
theorem cZ6 {te:UE}:dE8 K last (uPut last te) (tPut<|lE K te):=λC ρ σ H Dn Nx NX J l3 q nx=>⟨C,ρ,_,J,q,λb ρ5 v H5 q5 f5 s5 r5=>by
 have J5:=(J.frz f5).same s5;obtain⟨l,hl5,hz,q5⟩:=lK q5;obtain⟨a,vs,g1,g2,g3,g4⟩:=J5.ow last l hl5;rw[l3]at g1;cases g1;exact⟨vs,g2,by rw[<-g4.length];exact hz,nx _ _ _ (J5.write hl5 l3<|g4.append<|.cons (r5.rep λa z=>J.avF f5 z) .nil) l3 q5⟩⟩
theorem dN4 {ui:UI}{g:UG}{T:List Nat}{tt:UT}{uem:(Ev->Prop)->Ev->Prop}{tem:Addr->L2.St->Hp->(L2.St->Hp->Prop)->Prop}(em:dE8 K last uem tem)(hl:last<cap.length)(hT:last ∉ T)(σ:L2.St)(H:Hp)(Q:VK)(h:lE K (cD9 js cap last ui g tt uem) σ H Q) :
  bA0 cap last (lI K ui) (lG K T g) (lT K tt) tem σ H Q:=by
 obtain⟨C,ρ,Q0,I,h,k⟩:=h;refine⟨C,ρ,_,I,h,λn it ρ1 J H1 q f s ok Dn nD=> ?_⟩
 obtain⟨Pv,p0,turn,fin⟩:=q;have fz:=c21 js ρ1;have I1:EOk K C (a07 ρ1 js) σ H1:=((I.frz f).same s).frz fz;generalize a07 ρ1 js=ρ2 at fz I1 p0 fin;have P12: ∀{A':AS} {H':Hp},mC (Av C ρ2 σ) H1 A' H'->mC (Av C ρ1 σ) H1 A' H':=λp b o nb e=>p b o (λz=>nb (fz.av z)) e
 have I2:=cap_ok I1 hl nD;have own0: ∀{ρ':Ev} {σ':L2.St} {H':Hp},EOk K ⟨H1,Av C ρ2 σ⟩ ρ' σ' H'->mC (Av C ρ2 σ) H1 (Av ⟨H1,Av C ρ2 σ⟩ ρ' σ') H':=λ{ρ' σ' H'} J' b o nb e=>by
  refine⟨?_,J'.ext b o e⟩
  rintro(z| ⟨i,l,h1,h2⟩)
  .exact nb z
  .obtain⟨a,vs,h3,h4,h5,_⟩:=J'.ow i l h1;rw[h2]at h3;cases h3;have e':(⟨H1,Av C ρ2 σ⟩:C0).H0 b=some o:=e;rw[h5]at e';cases e'
 have sal:(wC σ cap last Dn)[last]? =some (some<|.ref Dn):=by
  unfold wC;exact hZ (by rw[aJ];exact hl)
 refine⟨λi m σ' H'=>m=n-i/\i<=n/\σ'[last]? =some (some<|.ref Dn)/\ ∃ρ',EOk K ⟨H1,Av C ρ2 σ⟩ ρ' σ' H'/\Pv i ρ',⟨n,rfl,eW _,sal,_,I2,p0⟩,?_⟩
 rintro i m σ' H' ⟨rfl,hi,hlast,ρ',J',p'⟩;have P:=P12 (own0 J')
 by_cases hlt:i<n
 .refine .inr ⟨ok.go _ _ i P hlt,λσ2 H2=>σ2[last]? =some (some<|.ref Dn)/\ ∃ρ3,EOk K ⟨H1,Av C ρ2 σ⟩ ρ3 σ2 H2/\Pv (i+1) ρ3,λσ2 H2 z=>⟨n-(i+1),aa,rfl,hlt,z⟩,λx H2 y=> ?_⟩
  obtain⟨s2,r2⟩:=ok.yld _ _ i x H2 P (λa z=>J'.avSome z) hlt y
  refine⟨_,ρ',.pu<|it i,H',_,J',s2,r2,turn i ρ' hlt p',λρ3 σ3 H3 q3 J3 same3=> ?_⟩
  have l3:σ3[last]? =some (some<|.ref Dn):=(same3 last hT).trans hlast;refine⟨_,ρ3,_,J3,q3,λc ρ4 H4 q4 f4 s4=> ?_⟩
  have J4:=(J3.frz f4).same s4;cases c with
  | false=>
   dsimp only at q4⊢;rw[a8 bH]at q4⊢;exact⟨l3,ρ4,J4,q4⟩
  | true=>
   dsimp only at q4⊢;rw[aA rfl]at q4⊢;exact em _ ρ4 _ _ Dn _ _ J4 l3 q4 λρ5 σ5 H5 J5 l5 q5=>⟨l5,ρ5,J5,q5⟩
 .have e:i=n:=aa
  subst e;obtain⟨l,hl5,q5⟩:=lK (fin ρ' p');obtain⟨a,vs,g1,g2,g3,g4⟩:=J'.ow last l hl5;rw[hlast]at g1;cases g1;refine .inl ⟨ok.stop _ _ P,k _ _ _ _ q5 (f.trans fz) (s.trans J'.ext) ⟨Dn,vs,rfl,s.free nD,g2,?_⟩⟩;refine g4.mono λb o nb e=>⟨?_,e⟩
  rintro(z|z)
  .exact nb (.inl z)
  .subst z;exact nb (.inr ⟨last,l,hl5,hlast⟩)
theorem eG: ∀{X:Cx},PTs X [] (lT X.K λρ Q=>Q true ρ):=λ{X} pins s σ H Q I ⟨C,ρ,Q0,J,h,k⟩=>dE3 pins s σ H Q I (k _ ρ H h (.refl _)<|.refl _)
theorem dE9 {t:UT}(h:PUT X c t):PTs X [c] (lT X.K t):=dE4 h
theorem cZ7 {fS:List Comprehension}{ui:UI}{g:UG}{T:List Nat}{tt:UT}{uem:(Ev->Prop)->Ev->Prop}{tem:Addr->L2.St->Hp->(L2.St->Hp->Prop)->Prop}(ek:dE8 X.K last uem tem)(hem: ∀it acc env,compTurn (.ListComp elt (⟨tg,iter,ifs,0⟩::fS) scope pos) 0 it acc env=aO0 (.ListComp elt (⟨tg,iter,ifs,0⟩::fS) scope pos) 0 tg iter.pos ifs (em acc env) it acc env)(hc:X.calm=true)(hi:PUI X tg iter ui)(S:eM X.env X.N N cap scope)
  (hN: ∀x,N[last]? =some x->scope.names.lookup x=none) (hl:last<cap.length) (hT:last ∉ T)
  (hg: ∀cl C s H fp pins,PUG (bU X N scope cl C s H fp pins) tg T g) (ht: ∀cl C s H fp pins,PTs (bU X N scope cl C s H fp pins) ifs<|lT X.K tt) (he: ∀cl C s H fp pins,PEm (bU X N scope cl C s H fp pins) em tem)
  (hs: ∀x,foldedSetIterable iter X.env x=pure x:=by intro _;rfl):PU X (.ListComp elt (⟨tg,iter,ifs,0⟩::fS) scope pos) (cD9 js cap last ui g tt uem):=
 gR (dE5 (g:=lG X.K T g) (tt:=lT X.K tt) hem hc hi S hN hg ht he hs) (dN4 ek hl hT)
theorem dF0 {ui:UI}{g:UG}{T:List Nat}{tt:UT}{te:UE}(hc:X.calm=true)(hi:PUI X tg iter ui)(S:eM X.env X.N N cap scope)
  (hN: ∀x,N[last]? =some x->scope.names.lookup x=none) (hl:last<cap.length) (hT:last ∉ T)
  (hg: ∀cl C s H fp pins,PUG (bU X N scope cl C s H fp pins) tg T g) (ht: ∀cl C s H fp pins,PTs (bU X N scope cl C s H fp pins) ifs<|lT X.K tt) (he: ∀cl C s H fp pins,PU (bU X N scope cl C s H fp pins) elt te)
  (hs: ∀x,foldedSetIterable iter X.env x=pure x:=by intro _;rfl):PU X (.ListComp elt [⟨tg,iter,ifs,0⟩] scope pos) (eI js cap last ui g tt te):=
 cZ7 (js:=js) (cZ6 (te:=te)) (λ_ _ _=>rfl) hc hi S hN hl hT hg ht (λcl C s H fp pins=>cK4 (he cl C s H fp pins)) hs
theorem c22 {fS:List Comprehension}{ui:UI}{g:UG}{T:List Nat}{tt:UT}{uem:(Ev->Prop)->Ev->Prop}{tem:Addr->L2.St->Hp->(L2.St->Hp->Prop)->Prop}(i:Nat)(ek:dE8 X.K last uem tem)(hem: ∀it acc env,compTurn (.ListComp elt (⟨tg,iter,ifs,0⟩::fS) scope pos) 0 it acc env=aO0 (.ListComp elt (⟨tg,iter,ifs,0⟩::fS) scope pos) 0 tg iter.pos ifs (em acc env) it acc env)(hc:X.calm=true)(hi:PUI X tg iter ui)(S:eM X.env X.N N cap scope)
  (hN: ∀x,N[last]? =some x->scope.names.lookup x=none) (hl:last<cap.length) (hT:last ∉ T)
  (hg: ∀cl C s H fp pins,PUG (bU X N scope cl C s H fp pins) tg T g) (ht: ∀cl C s H fp pins,PTs (bU X N scope cl C s H fp pins) ifs<|lT X.K tt) (he: ∀cl C s H fp pins,PEm (bU X N scope cl C s H fp pins) em tem)
  (hy:PG X (.Name y py) (a76 i)) (hi': ∀pins σ H s,Inv X pins σ H s->i<σ.length) (hsw:↥(swapsWith (.ListComp elt (⟨tg,iter,ifs,0⟩::fS) scope pos) (some<|.Name y py) spos.line X.env=pure true))
  (hs: ∀x,foldedSetIterable iter X.env x=pure x:=by intro _;rfl):PUS X (.Assign [.Name y py] (.ListComp elt (⟨tg,iter,ifs,0⟩::fS) scope pos) spos) (bF i<|cD9 js cap last ui g tt uem):=by
 intro pins s σ H D I q;refine cD8 (g:=lG X.K T g) (tt:=lT X.K tt) hem hc hi S hN hg ht he hy hsw hs pins s σ H D I ?_;obtain⟨C,ρ,D0,J,h,k⟩:=q;exact dN4 ek hl hT σ H _ ⟨C,ρ,_,J,h,λb ρ1 v H1 q f s1 r=>k.nx _ _ _ q ((J.frz f).store s1 r<|hi' pins σ H s I)⟩
theorem cE0 {ui:UI}{g:UG}{T:List Nat}{tt:UT}{te:UE}(i:Nat)(hc:X.calm=true)(hi:PUI X tg iter ui)(S:eM X.env X.N N cap scope)
  (hN: ∀x,N[last]? =some x->scope.names.lookup x=none) (hl:last<cap.length) (hT:last ∉ T)
  (hg: ∀cl C s H fp pins,PUG (bU X N scope cl C s H fp pins) tg T g) (ht: ∀cl C s H fp pins,PTs (bU X N scope cl C s H fp pins) ifs<|lT X.K tt) (he: ∀cl C s H fp pins,PU (bU X N scope cl C s H fp pins) elt te)
  (hy:PG X (.Name y py) (a76 i)) (hi': ∀pins σ H s,Inv X pins σ H s->i<σ.length) (hsw:↥(swapsWith (.ListComp elt [⟨tg,iter,ifs,0⟩] scope pos) (some<|.Name y py) spos.line X.env=pure true))
  (hs: ∀x,foldedSetIterable iter X.env x=pure x:=by intro _;rfl):PUS X (.Assign [.Name y py] (.ListComp elt [⟨tg,iter,ifs,0⟩] scope pos) spos) (bF i<|eI js cap last ui g tt te):=
 c22 (js:=js) i (cZ6 (te:=te)) (λ_ _ _=>rfl) hc hi S hN hl hT hg ht (λcl C s H fp pins=>cK4 (he cl C s H fp pins)) hy hi' hsw hs
end
end M
end
section
namespace L2
section
variable {X:Cx}
theorem dF1 {bs:List Bool}: ∀{its:List Value},Vals (bs.map V.bl) its->LSm.BoolsAre its bs:=by
 induction bs with
 | nil=>intro its r;cases r;exact .nil
 | cons b bs ih=>
  intro its r;cases r with
  | cons r1 r2=>
   cases r1;exact .cons b (ih r2)
theorem cE1 (hc:X.calm=true):sY X (.builtin "all") (λxs H Q=> ∃(p:Addr) (bs:List Bool),xs=[.ref p]/\SqL X.K H p (bs.map V.bl)/\Q (.bl<|bs.all id) H):=by
 intro pins s σ H xs us Q I r h;obtain⟨p,bs,rfl,hq,q⟩:=h;obtain⟨u,rfl,rx⟩:=vals1 r;cases rx;obtain⟨its,rv,pl,hz⟩:=I.list hq;have ba:=dF1 rv;refine call_all_walk (aM5 pl.isList ?_);have hne:p≠s.heap.objs.size:=by
  obtain⟨o,n,e,_⟩:=pl;exact bI (aV e)
 refine⟨s.heap.objs.size,_,_,_,_,_,λi=>(bs[i]?).getD true,rfl,Walks.list (A:=X.A.in1) (I.ok.hd hc) s.heap.objs.size p (λz=>hne z) its.toArray,⟨⟨_,bZ _ rfl,rfl,rfl⟩,pl.isList.push _⟩,?_,λh' tk hk=> ?_⟩
 .intro i v s' Q' E' hP hQ;obtain⟨b,hb,rfl⟩:=ba.get i v (by exists hP)
  refine pQ ?_
  have e:(λi=>(bs[i]?).getD true) i=b:=by simp[hb]
  dsimp only at hQ;rw[hb]at hQ;exact hQ
 .have e:=LSm.range_all bs;have hl:=ba.length;have e2:its.toArray.size=bs.length:=by rw[bD,hl]
  rw[e2,e];exact⟨.bl<|bs.all id,H,I.kept λb o e=>hk b o (by simpa using bI (aV e)) (aT _ e),rfl,q⟩
theorem cE2 (hc:X.calm=true):sY X (.builtin "sum") (λxs H Q=> ∃(p:Addr) (ns:List Int),xs=[.ref p]/\SqL X.K H p (ns.map V.int)/\Q (.int ns.sum) H):=by
 intro pins s σ H xs us Q I r h;obtain⟨p,ns,rfl,hq,q⟩:=h;obtain⟨u,rfl,rx⟩:=vals1 r;cases rx;obtain⟨its,rv,pl,hz⟩:=I.list hq;have hi:IntsAre its ns:=by simpa using intsAre_of rv
 obtain⟨xs,hx⟩:=hi.allInts.items;have hl':s.heap.IsList p (intItems xs):=hx▸pl.isList;refine sum_intListG (I.ok.hd hc) hl' λh' tk t' hk=> ?_
 have e1:ns=xs.toList.map (·.1):=by
  rw[<-nums_intItems,<-hx];exact(show numsOf its.toArray.toList=ns from hi.numsOf).symm
 have e2:preSum (numAt xs) xs.size=ns.sum:=by
  rw[preSum_eq,List.take_of_length_le ae,e1]
 rw[e2];exact⟨.int ns.sum,H,I.kept hk,⟨_,rfl⟩,q⟩
nonrec def xX (esc:List (Str×NameKind))(XN N:List Str)(cap:List (Option Nat))(scope:Scope)(last:Nat):Bool:=
 (scope.kind== .function)&&scope.names.all (λy=>y.2 != .cell||scope.names.lookup y.1==some .cell)&&scope.names.all (λy=>y.2 != .free||scope.names.lookup y.1==some .free)&&scope.names.all (λy=>y.2 != .local||scope.names.lookup y.1==some .local)&&
 scope.names.all (λy=>y.2 != .free||esc.lookup y.1==some .cell||esc.lookup y.1==some .free)&&
 (N.zip cap).all (λz=>match z.2 with|none=>true|some j=>XN[j]? ==some z.1&&scope.names.contains (z.1,.free)&&scope.names.lookup z.1==some .free)&&
 (cap.length==N.length)&&(match N[last]? with|some x=>(scope.names.lookup x).isNone|none=>true)
theorem eM.of {env:Env}(he:env.scope.names=esc)(h:xX esc XN N cap scope last=true) :
  eM env XN N cap scope/\ ∀x,N[last]? =some x->scope.names.lookup x=none:=by
 unfold xX at h;simp only[cZ,dD,eX]at h;obtain⟨⟨⟨⟨⟨⟨⟨h1,h2⟩,h2'⟩,h3⟩,h4⟩,h5⟩,h6⟩,h7⟩:=h;have hk: ∀x,env.kindOf x=esc.lookup x:=λx=>by unfold Env.kindOf;rw[he]
 refine⟨⟨h1,λy hy hl=>by have:=h2 y hy;rw[hl]at this;simpa using this,λy hy hl=>by have:=h2' y hy;rw[hl]at this;simpa using this,λy hy hl=> ?_,λy hy hf=> ?_,λi j x e1 e2=> ?_,h6⟩,λx e=> ?_⟩
 .have:=h3 y hy;rw[hl]at this
  exists this
 .have:=h4 y hy;rw[hf]at this;rw[hk]
  exists this
 .have hm:(x,some j)∈N.zip cap:=by
   refine aL0 (i:=i) ?_
   rw[List.getElem?_zip_eq_some];exact⟨e1,e2⟩
  have:=h5 _ hm;simp only[cZ,eX]at this;obtain⟨⟨a,b⟩,c⟩:=this;exact⟨a,by simpa using b,c⟩
 .rw[e]at h7
  exists h7
end
end L2
namespace M
section
variable {X:Cx}{K:PySem.W.Frag}{A:AS}{H:Hp}
nonrec def a85:List D->Option (List Bool)
 | []=>some []
 | .bl b::r=>(a85 r).map (b::·)
 | _=>none
nonrec def b20:List D->Option (List Int)
 | []=>some []
 | .int b::r=>(b20 r).map (b::·)
 | _=>none
theorem bA1 (bs:List Bool):a85 (bs.map .bl)=some bs:=by
 induction bs with
 | nil=>rfl
 | cons b bs ih=>rw[d5];show(a85<|bs.map .bl).map _=_;rw[ih];rfl
theorem cP9 (bs:List Int):b20 (bs.map .int)=some bs:=by
 induction bs with
 | nil=>rfl
 | cons b bs ih=>rw[d5];show(b20<|bs.map .int).map _=_;rw[ih];rfl
theorem bA2: ∀{l:List D} {bs:List Bool} {vs:List V},a85 l=some bs->bQ K A H l vs->vs=bs.map V.bl
 | [],bs,vs,h,r=>by cases h;exact r.unnil
 | d::r,bs,vs,h,q=>by
  obtain⟨v,vr,rfl,rv,rr⟩:=q.uncons;cases d with
  | bl b=>
   have h':(a85 r).map (b::·)=some bs:=h;cases e:a85 r with
   | none=>rw[e]at h';cases h'
   | some bs'=>
    rw[e]at h';cases h';rw[a05 rv,bA2 e rr];rfl
  | _=>cases h
theorem bO6: ∀{l:List D} {bs:List Int} {vs:List V},b20 l=some bs->bQ K A H l vs->vs=bs.map V.int
 | [],bs,vs,h,r=>by cases h;exact r.unnil
 | d::r,bs,vs,h,q=>by
  obtain⟨v,vr,rfl,rv,rr⟩:=q.uncons;cases d with
  | int b=>
   have h':(b20 r).map (b::·)=some bs:=h;cases e:b20 r with
   | none=>rw[e]at h';cases h'
   | some bs'=>
    rw[e]at h';cases h';rw[bS rv,bO6 e rr];rfl
  | _=>cases h
nonrec def dF2:List D->(B->Prop)->Prop:=g1 λd Q=>match d with
 | .lst l=>(match a85 l with
  | some bs=>Q (.pu<|.bl<|bs.all id)
  | none=>False)
 | _=>False
theorem cZ8 (hc:X.calm=true):wB X (.builtin "all") dF2:=by
 intro A H ds vs Q0 Q hA r g k;obtain⟨d,v,rfl,rfl,rv,g⟩:=aN9 g r;cases d with
 | lst l=>
  dsimp only at g;cases e:a85 l with
  | none=>rw[e]at g;exact g.elim
  | some bs=>
   rw[e]at g;simp only[Rep]at rv;obtain⟨a,vs,rfl,n,c,rs⟩:=rv;rw[bA2 e rs]at c;exact⟨_,cE1 hc,a,bs,rfl,SqL.of c,k _ _ H g (.refl _) nQ⟩
 | _=>exact(show False from g).elim
nonrec def gSum:List D->(B->Prop)->Prop:=g1 λd Q=>match d with
 | .lst l=>(match b20 l with
  | some ns=>Q (.pu<|.int ns.sum)
  | none=>False)
 | _=>False
theorem cu_sum (hc:X.calm=true):wB X (.builtin "sum") gSum:=by
 intro A H ds vs Q0 Q hA r g k;obtain⟨d,v,rfl,rfl,rv,g⟩:=aN9 g r;cases d with
 | lst l=>
  dsimp only at g;cases e:b20 l with
  | none=>rw[e]at g;exact g.elim
  | some bs=>
   rw[e]at g;simp only[Rep]at rv;obtain⟨a,vs,rfl,n,c,rs⟩:=rv;rw[bO6 e rs]at c;exact⟨_,cE2 hc,a,bs,rfl,SqL.of c,k _ _ H g (.refl _) aG4⟩
 | _=>exact(show False from g).elim
theorem cK5 {i:Int}{t:Tok}(hg:Gl X x)(hm:X.mg x=some (.int i t))(hd:⇑(x∪0)):PU X (.Name x p) (uC<|.int i):=
 b66 (bS8 (v:= .int i) hg hm ⟨t,rfl⟩ hd) λA H=>by simp only[Rep]
theorem cZ9:bootBuiltins "all"=some (.builtin "all"):=af
theorem bt_sum:bootBuiltins "sum"=some (.builtin "sum"):=af
theorem a86 {ui:UI}{g:UG}{T:List Nat}{tt:UT}{te:UE}(he0:X.env.scope.names=esc)(hx0:X.N=XN)(lk:xX esc XN N cap scope last=true)(hl:last<cap.length)(hT:last ∉ T)(hc:X.calm=true)(hi:PUI X tg iter ui)
  (hg: ∀cl C s H fp pins,PUG (bU X N scope cl C s H fp pins) tg T g) (ht: ∀cl C s H fp pins,PTs (bU X N scope cl C s H fp pins) ifs<|lT X.K tt) (he: ∀cl C s H fp pins,PU (bU X N scope cl C s H fp pins) elt te)
  (hs: ∀x,foldedSetIterable iter X.env x=pure x:=by intro _;rfl):PU X (.ListComp elt [⟨tg,iter,ifs,0⟩] scope pos) (eI js cap last ui g tt te):=
 dF0 hc hi (eM.of he0<|hx0▸lk).1 (eM.of he0<|hx0▸lk).2 hl hT hg ht he hs
theorem rP {ui:UI}{g:UG}{T:List Nat}{tt:UT}{te:UE}(i:Nat)(he0:X.env.scope.names=esc)(hx0:X.N=XN)(lk:xX esc XN N cap scope last=true)(hl:last<cap.length)(hT:last ∉ T)(hc:X.calm=true)(hi:PUI X tg iter ui)
  (hg: ∀cl C s H fp pins,PUG (bU X N scope cl C s H fp pins) tg T g) (ht: ∀cl C s H fp pins,PTs (bU X N scope cl C s H fp pins) ifs<|lT X.K tt) (he: ∀cl C s H fp pins,PU (bU X N scope cl C s H fp pins) elt te)
  (hy:PG X (.Name y py) (a76 i)) (hi': ∀pins σ H s,Inv X pins σ H s->i<σ.length) (hsw:↥(swapsWith (.ListComp elt [⟨tg,iter,ifs,0⟩] scope pos) (some<|.Name y py) spos.line X.env=pure true))
  (hs: ∀x,foldedSetIterable iter X.env x=pure x:=by intro _;rfl):PUS X (.Assign [.Name y py] (.ListComp elt [⟨tg,iter,ifs,0⟩] scope pos) spos) (bF i<|eI js cap last ui g tt te):=
 cE0 i hc hi (eM.of he0<|hx0▸lk).1 (eM.of he0<|hx0▸lk).2 hl hT hg ht he hy hi' hsw hs
def kU (te:UE):US:=λD ρ=>te ρ λ_ ρ1=>D.nx ρ1
theorem tI {te:UE}(he:PU X e te)(hs:↥(swapsWith e none pos.line X.env=pure false)):PUS X (.Expr e pos) (kU te):=
 sZ (bT0 he hs) λD σ H ⟨C,ρ,D0,I,h,k⟩=>⟨C,ρ,_,I,h,λb ρ1 v H1 q f s r=>k.nx _ _ _ q ((I.frz f).same s)⟩
theorem kW: ∀ds ρ Q,rM ds ρ Q->ds.length=0:=λds ρ Q h=>by rw[h.1];rfl
theorem cT {u:UGs}(h: ∀ds ρ Q,u ds ρ Q->ds.length=n): ∀ds ρ Q,eC i u ds ρ Q->ds.length=n+1:=λds ρ Q q=>by
 cases ds with
 | nil=>exact(show False from q).elim
 | cons d r=>rw[dC,h r _ Q q.2]
end
theorem Fn.void {ps:List Str}(F:Fun K x qual st f fd)(m:mg x=some (.ref f))(b:Binds K fd ps [])(h: ∀ds Q,¬φ ds Q):Fn<$>x ps 1 φ:=
 ⟨f,fd,⟨λvs H Q E ⟨_,ds,Q0,_,_,z,_⟩=>absurd z (h ds Q0),λA outer s H args us vs Q E _ _ _ _ ⟨_,ds,Q0,_,_,z,_⟩=>absurd z (h ds Q0)⟩,b,F.kp,m⟩
end M
end
section
namespace HT
open PySem PyProof.Rows
end HT
namespace L2
end L2
namespace M
section
variable {X:Cx}{K:PySem.W.Frag}{A:AS}{H:Hp}{e e3:Expr}{t3:UE}{pos p2:Pos}
def gIn (neg:Bool)(d e:D)(Q:B->Prop):Prop:= ∃(i:Int) (js:List Int),d= .int i/\(e= .tup (js.map D.int)\/e= .lst (js.map D.int)\/e= .rol (js.map D.int))/\Q (.pu<|.bl<|neg ^^ decide (i∈js))
theorem bQ.unints: ∀{js:List Int} {vs:List V},bQ K A H (js.map D.int) vs->vs=js.map V.int
 | [],_,h=>by simp only[jQ,bQ]at h;exact h
 | j::js,vs,h=>by
  simp only[d5,bQ]at h;obtain⟨v,vr,rfl,r,rs⟩:=h;rw[bS r,bQ.unints rs];rfl
theorem d00 (i:Int)(js:List Int):inV (.int i) (js.map V.int)=decide (i∈js):=by
 unfold inV
 induction js with
 | nil=>rfl
 | cons j js ih=>
  rw[d5,any_cons,ih];show((j==i)||decide (i∈js))=decide (i∈j::js)
  by_cases h:j=i
  .subst h;simp
  .have h': ¬i=j:=λz=>h z.symm
   simp[h,h']
theorem aY0 (js:List Int):(js.map V.int).all aR6=true:=by
 induction js with
 | nil=>rfl
 | cons j js ih=>rw[d5,all_cons,ih];rfl
theorem ou_inG {neg:Bool}{op:Value->Value->Sem Value}(ho:OpR X op (rIn X.K neg)):OpU X op (gIn neg):=by
 intro A H d e v w Q0 Q hA r1 r2 g k;obtain⟨i,js,rfl,he,g⟩:=g;have e1:=bS r1;subst e1;have fin:Q (.bl<|if neg=true then !inV (.int i) (js.map V.int)else inV (.int i) (js.map V.int)) H:=by
  rw[d00];refine k _ _ H g (.refl _) ?_;cases neg
  .rw[a8 ac,nI];exact nQ
  .rw[aA rfl,pW];exact nQ
 rcases he with rfl|rfl|rfl
 .simp only[Rep]at r2;obtain⟨a,vs,rfl,c,rs⟩:=r2;have:=rs.unints;subst this;exact⟨_,ho,a,_,rfl,.inr<|c.imp cJ id,rfl,aY0 js,fin⟩
 .simp only[Rep]at r2;obtain⟨a,vs,rfl,n,c,rs⟩:=r2;have:=rs.unints;subst this;exact⟨_,ho,a,_,rfl,.inl<|SqL.of c,rfl,aY0 js,fin⟩
 .simp only[Rep]at r2;obtain⟨a,vs,rfl,c,rs⟩:=r2;have:=rs.unints;subst this;exact⟨_,ho,a,_,rfl,.inl<|c.imp cJ id,rfl,aY0 js,fin⟩
theorem d01:OpU X (compareOp .NotIn) (gIn true):=ou_inG bT5
end
end M
end
section
namespace L2
nonrec def Itd (lo:Int)(n:Nat):It:={go:=λi _=>i<n,yld:=λi H x H'=>H'=H/\x=V.int (lo-(i:Int)),stop:=λi _=>n<=i}
theorem bO7 (it:Addr)(lo:Int)(n:Nat):c02 P w K tg (Itd lo n) [it] it (λi h=>IsRangeIter h it (lo+(i:Nat)*(-1)) ((n:Int)-(i:Nat)) (-1)) where
 mem:=ae
 obj:=λi h st b hb=>by
  have e:b=it:=by exists hb
  subst e;exact⟨_,st,λv z=>by
   have z':Data.fields _=Data.cell v:=z;cases z'⟩
 keep:=λi h h' st k=>k it ae _ st
 item:=by
  intro X hP hw hK hc i pins s σ H E I hf st hg;subst hP hw hK;obtain⟨f0,f1,f2,f3,f4,f5⟩:=hf it ae
  have W:=Walks.range (prog:=X.prog) (w:=X.w) (I.ok.hd hc) it lo (-1) n;refine W.item i s _ _ hg st λv h' tk hv st' kk=> ?_
  obtain⟨t,rfl⟩:=hv;have I1:Inv X pins σ H {s with heap:=h',toks:=tk}:=I.turned (λb o hb e=>kk b o (by exists hb) e) f0 f1 f3 f4 f5
  refine⟨_,rfl,c03 (s:={s with heap:=h',toks:=tk}) (n:="range_iterator") st' rfl rfl ac ⟨.int<|lo-i,H,I1,⟨t,?_⟩,⟨rfl,rfl⟩,st',λb hb=>(hf b hb).1⟩⟩
  rw[show lo+((i:Nat):Int)*(-1)=lo-(i:Int)by lia]
 done:=by
  intro X hP hw hK hc i pins s σ H E I hf st hg;subst hP hw hK;obtain⟨f0,f1,f2,f3,f4,f5⟩:=hf it ae
  exact wpAny_pyNext_range_end (I.ok.hd hc) st (by have:n<=i:=hg;lia) λh' eb=>⟨rfl,I.turned (t':=s.toks) (λb o hb e=>eb b o hb e) f0 f1 f3 f4 f5⟩
 self:=λ_ _ _ _ _ st h=>aK2 st h
section
variable {X:Cx}{tg:Expr}
theorem bO8 (a b:Int):Builtin.Range.rangeSize a b (-1)=(((a-b).toNat:Nat):Int):=by
 unfold Builtin.Range.rangeSize;rw[a8 ac]
 split<;>simp<;>lia
theorem small_down {a b:Int}(h1: -(2^31)<=a)(h2:a<2^31)(h3: -(2^31)<=b)(h4:b<2^31):Builtin.Range.small a b (-1)=true:=by
 unfold Builtin.Range.small;rw[bO8];simp[Builtin.Range.rangeFitsLong];omega
theorem cE3 {σ:St}{H:Hp}{R:It->Hp->Prop}{hi:Int}{t u v:Tok}(I:Inv X pins σ H s)(h1: -(2^31)<=lo)(h2:lo<2^31)(h3: -(2^31)<=hi)(h4:hi<2^31)
  (q:R (Itd lo (lo-hi).toNat) H):X∩(pyIter<|.ref s.heap.objs.size) (PIE X pins σ tg R) E {s with heap:=s.heap.push {cls:= .type "range",data:= .fields #[.int lo t,.int hi u,.int (-1) v]},toks:=tk}:=by
 refine wpAny_pyIter_range (IsRange.new ..) (small_down h1 h2 h3 h4) ?_
 have I1:Inv X pins σ H {s with heap:=s.heap.push {cls:= .type "range",data:= .fields #[.int lo t,.int hi u,.int (-1) v]},toks:=tk}:=I.kept λb o e=>aT _ e
 refine⟨(s.heap.push {cls:= .type "range",data:= .fields #[.int lo t,.int hi u,.int (-1) v]}).objs.size,[(s.heap.push {cls:= .type "range",data:= .fields #[.int lo t,.int hi u,.int (-1) v]}).objs.size],_,_,H,rfl,
  I1.kept (t':=tk) λb o e=>aT _ e,bO7 _ lo (lo-hi).toNat,?_,λb hb=> ?_,q⟩
 .have e1:lo+((0:Nat):Int)*(-1)=lo:=ae
  have e2:(((lo-hi).toNat:Nat):Int)-((0:Nat):Int)=Builtin.Range.rangeSize lo hi (-1):=by rw[bO8];simp
  show IsRangeIter _ _ (lo+((0:Nat):Int)*(-1)) ((((lo-hi).toNat:Nat):Int)-((0:Nat):Int)) (-1)
  rw[e1,e2];exact bZ _ rfl
 .have e:b=(s.heap.push {cls:= .type "range",data:= .fields #[.int lo t,.int hi u,.int (-1) v]}).objs.size:=by exists hb
  subst e;exact I1.fpOk (aG _) (I1.hok.fresh<|aG _)
def iRngD (ta:TA):TI:=λσ H R=>ta σ H λvs H1=> ∃i j:Int,vs=[.int i,.int j,.int<|-1]/\(-(2^31)<=i/\i<2^31/\ -(2^31)<=j/\j<2^31)/\R (Itd i (i-j).toNat) H1
theorem cQ0 {a b:Expr}{ta:TA}(hg:Gl X "range")(hm:X.mg "range"=none)(ha:PA X [a,b,c] ta)(hs:↥(starEach [a,b,c] X.env=[(false,eval a X.env),(false,eval b X.env),(false,eval c X.env)]))(hs2:↥(starEach [b,c] X.env=[(false,eval b X.env),(false,eval c X.env)])) :
  PI X tg (.Call (.Name "range" p) [a,b,c] [] pos) (iRngD ta):=by
 intro pins s σ H R I h;refine Call_ (uK I hg hm boot_range<|jJ (thn (ha pos pins s σ H _ I h) λus s1 ⟨vs,H1,I1,r1,q1⟩=> ?_) (by rw[hs,hs2]) (by rw[hs2];rfl))
 obtain⟨i,j,e,⟨q1,q2,q3,q4⟩,q⟩:=q1;subst e;cases r1 with
 | cons r rr=>
  cases rr with
  | cons r' rr=>
   cases rr with
   | cons r'' rr=>
    cases rr;obtain⟨t,rfl⟩:=r;obtain⟨t',rfl⟩:=r';obtain⟨t'',rfl⟩:=r'';exact call_range_3 ac (cE3 I1 q1 q2 q3 q4 q) (.inl (by
     unfold Builtin.divisionGoesByPylong;simp;intro hz;have:Nat.log2 1=0:=ac
     lia))
end
end L2
namespace M
section
variable {X:Cx}{K:PySem.W.Frag}{H:Hp}{pos:Pos}
theorem bO9 {A:AS}:c18 K A H (Itd lo n) n (λi=> .int (lo-i)):=
 ⟨λ_ _ _ _ h=>h,λ_ _ i x H'' _ _ _ ⟨e,y⟩=>by subst e;subst y;exact⟨.refl _,by simp only[Rep]⟩,λ_ _ _=>aG n⟩
def bA3 (ta:UA):UI:=λρ Q=>ta ρ λds ρ1=>match ds with
 | [.int i,.int j,.int m]=>m= -1/\(-(2^31)<=i/\i<2^31/\ -(2^31)<=j/\j<2^31)/\Q (i-j).toNat (λk=> .int (i-k)) ρ1
 | _=>False
theorem aE4 {a b:Expr}{ta:UA}(hg:Gl X "range")(hm:X.mg "range"=none)(ha:PUA X [a,b,c] ta)(hs:↥(starEach [a,b,c] X.env=[(false,eval a X.env),(false,eval b X.env),(false,eval c X.env)]))(hs2:↥(starEach [b,c] X.env=[(false,eval b X.env),(false,eval c X.env)])) :
  PUI X tg (.Call (.Name "range" p) [a,b,c] [] pos) (bA3 ta):=
 b19 (cQ0 hg hm ha hs hs2) λσ H R ⟨C,ρ,Q0,I,h,k⟩=>⟨C,ρ,_,I,h,λds ρ1 vs H1 q f s r=>by
  split at q
  .rename_i i j m
   obtain⟨v,vr,rfl,rv,rr⟩:=r.uncons;obtain⟨w,wr,rfl,rw',rr'⟩:=rr.uncons;obtain⟨z,zr,rfl,rz,rr''⟩:=rr'.uncons;have:=rr''.unnil;subst this;have:=bS rv;subst this;have:=bS rw';subst this;have:=bS rz;subst this;obtain⟨hm,hb,q⟩:=q;subst hm;exact⟨i,j,rfl,hb,k _ _ ρ1 _ H1 q f s bO9⟩
  .exact q.elim⟩
end
end M
end
section
namespace L2
section
variable {X:Cx}{pins:List (Addr×Obj)}{σ:St}{H:Hp}{s:Shared}{h':Heap}
theorem Inv.turnedNew {o:HO}(I:Inv X pins σ H s)(k: ∀b u,b ∉ ch->s.heap.get? b=some u->h'.get? b=some u)(hf: ∀b∈ch,aX1 X pins H b)
  (hp:s.heap.objs.size<=a) (new:rL X.prog X.w (upd H a o) h' a o):Inv X pins σ (upd H a o) {s with heap:=h',toks:=t'}:=by
 have hn:H a=none:=I.hok.fresh hp;have nch: ∀b u,H b=some u->b ∉ ch:=λb u e z=>by have:=(hf b z).1;rw[e]at this;cases this
 refine I.step (g':=s.gens) (d':=s.drawn) (ch:=ch) (λb hb=>⟨(hf b hb).2.2.2.1,(hf b hb).2.1,(hf b hb).2.2.2.2.1,(hf b hb).2.2.2.2.2⟩) (λb u _ _ hc e _=>k b u hc e) (λb u _ _ hc e _=>⟨u.slots,k b u hc e⟩)
  (λb u _ e n=>by rw[cD<|bI<|b9 (aV e) hp];exact n) (λb u hc e=>⟨u,k b u hc e⟩)
  (λb xs e=>by rw[cD<|cQ e hn];exact e) (λb ob u e=>by rw[cD<|cQ e hn];exact e) (λb ps e=>⟨#[],by rw[cD<|cQ e hn,e];simp⟩) (λm hm=> ?_) (λb u e=> ?_) I.bare
 .obtain⟨ob,es,ep,ho,r⟩:=hm;exact⟨ob,es,ep,k _ ob (λz=>(hf _ z).2.1 rfl) ho,r⟩
 .by_cases hb:b=a
  .subst hb;rw[iJ]at e;cases e;exact new
  .rw[cD hb]at e;refine(I.hok b u e).stay (λc v hc q=>k c v ?_ q) (λc q=>by rw[cD<|cQ q hn];exact q) λc xs q=>by rw[cD<|cQ q hn];exact q
   rcases hc with z|z
   .rw[z];exact nch b u e
   .exact nch c _ z
theorem Inv.turnedL (I:Inv X pins σ H s)(k: ∀b u,b ∉ ch->s.heap.get? b=some u->h'.get? b=some u)(hf: ∀b∈ch,aX1 X pins H b):Inv X pins σ H {s with heap:=h',toks:=t'}:=by
 have nch: ∀b u,H b=some u->b ∉ ch:=λb u e z=>by have:=(hf b z).1;rw[e]at this;cases this
 refine I.step (g':=s.gens) (d':=s.drawn) (ch:=ch) (λb hb=>⟨(hf b hb).2.2.2.1,(hf b hb).2.1,(hf b hb).2.2.2.2.1,(hf b hb).2.2.2.2.2⟩) (λb u _ _ hc e _=>k b u hc e) (λb u _ _ hc e _=>⟨u.slots,k b u hc e⟩)
  (λb u _ e n=>n) (λb u hc e=>⟨u,k b u hc e⟩) (λb xs e=>e) (λb ob u e=>e) (λb ps e=>⟨#[],by rw[e];simp⟩) (λm hm=> ?_) (λb u e=> ?_) I.bare
 .obtain⟨ob,es,ep,ho,r⟩:=hm;exact⟨ob,es,ep,k _ ob (λz=>(hf _ z).2.1 rfl) ho,r⟩
 .refine(I.hok b u e).stay (λc v hc q=>k c v ?_ q) (λc q=>q) λc xs q=>q
  rcases hc with z|z
  .rw[z];exact nch b u e
  .exact nch c _ z
end
def w8 (T:Bool)(h:Heap)(a:Addr)(xs:Array Value):Prop:=match T with
 | false=>h.IsList a xs
 | true=>h.IsTuple a xs
def wA (T:Bool)(h:Heap)(it a:Addr)(i:Nat):Prop:=match T with
 | false=>h.IsListIter it a i
 | true=>h.IsTupleIter it a i
nonrec def a87 (T:Bool)(a:Addr):Obj:=match T with
 | false=>{cls:= .type "list_iterator",data:= .fields #[.ref a,.int 0 0]}
 | true=>{cls:= .type "tuple_iterator",data:= .fields #[.ref a,.int 0 0]}
def SqV (K:PySem.W.Frag)(T:Bool)(H:Hp)(a:Addr)(xs:List V):Prop:=match T with
 | false=>SqL K H a xs
 | true=>SqT K H a xs
theorem w8.at (x:w8 T h a xs)(e: ∀o,h.get? a=some o->h'.get? a=some o):w8 T h' a xs:=by
 cases T<;>(obtain⟨o,ho,r⟩:=x;exact⟨o,e o ho,r⟩)
theorem wA.at (x:wA T h it a i)(e: ∀o,h.get? it=some o->h'.get? it=some o):wA T h' it a i:=by
 cases T<;>(obtain⟨o,ho,r⟩:=x;exact⟨o,e o ho,r⟩)
theorem w8.lt (x:w8 T h a xs):a<h.objs.size:=by
 cases T<;>(obtain⟨o,ho,r⟩:=x;exact aV ho)
theorem wA.rec' (x:wA T h it a i): ∃o,h.get? it=some o/\ ∀v,o.data≠ .cell v:=by
 cases T<;>(obtain⟨o,ho,hc,hd⟩:=x;exact⟨o,ho,λv z=>by rw[hd]at z;cases z⟩)
theorem wA.new (h:Heap)(a:Addr):wA T (h.push<|a87 T a) h.objs.size a 0:=by
 cases T<;>exact⟨_,bZ _ rfl,rfl,rfl⟩
section
variable {X:Cx}{pins:List (Addr×Obj)}{σ:St}{H:Hp}{s:Shared}
theorem Inv.sq {xs:List V}(I:Inv X pins σ H s)(h:SqV X.K T H a xs): ∃its:List Value,Vals xs its/\w8 T s.heap a its.toArray/\xs.length<=sizeLine:=by
 cases T with
 | false=>obtain⟨its,rv,p,hz⟩:=I.list h;exact⟨its,rv,p.isList,hz⟩
 | true=>obtain⟨its,rv,p,hz⟩:=I.tuple h;exact⟨its,rv,p,hz⟩
theorem Inv.sq_inj {xs ys:List V}(I:Inv X pins σ H s)(h:SqV X.K T H a xs)(h':SqV X.K T H a ys):xs=ys:=by
 cases T with
 | false=>exact I.list_inj h h'
 | true=>exact I.tuple_inj h h'
end
section
variable {prog:Program}{w:World}{A:Around}{E:Value->Shared->Prop}{s:Shared}
theorem aE5 (hl:w8 T s.heap a xs)(hQ:Q (.ref s.heap.objs.size) {s with heap:=s.heap.push (a87 T a)}) :
  wpAny (model prog w) A (pyIter<|.ref a) Q E s:=by
 cases T with
 | false=>exact aM5 hl hQ
 | true=>exact wpAny_pyIter_tuple hl hQ
theorem d02 {x:Value}(hit:s.heap.IsTupleIter it t i)(ht:s.heap.IsTuple t items)(hx:items[i]? =some x)
  (hQ: ∀h',h'.IsTupleIter it t (i+1)->SameBut it s.heap h'->Q x {s with heap:=h'}):wpAny (model prog w) A (Builtin.SmallTypes.nextOf<|.ref it) Q E s:=by
 obtain⟨oi,hoi,hci,hdi⟩:=id hit;obtain⟨ot,hot,_,nt,hdt⟩:=ht;unfold Builtin.SmallTypes.nextOf;refine a9 (kH (name:=Str.ofString "__next__") hit.typeIs yR<|iS yR hit.typeIs PySem.F.entry_tuple_iterator_next ?_<|PySem.F.args_tuple_iterator_next_1 _);show wpAny _ _ (field (.ref it) 0 >>= _) _ _ s;refine a9 (cP hoi hdi (x:= .ref t) rfl ?_)
 show wpAny _ _ (if(Value.ref t==Value.none)=true then _ else _) _ _ s;rw[a8<|show ¬((Value.ref t==Value.none)=true)from bH]
 show wpAny _ _ (field (.ref it) 1 >>= _) _ _ s;refine a9 (cP hoi hdi (x:= .int i 0) rfl ?_)
 show wpAny _ _ (seqItems? (.ref t) >>= _) _ _ s;refine a9 (kN hot hdt ?_)
 simp only[bW,hx];refine a9 (uB hoi hdi ae<|aH ⟨x,rfl,aH<|hQ _ ⟨_,pG _ hoi<|aK8<|pN hdi _,(Obj.cls_mapFields ..).trans hci,?_⟩<|u6 ..⟩)
 rw[pN hdi];simp[rawInt]
theorem cQ1 (hh:A.handled=none)(hit:s.heap.IsTupleIter it t i)(ht:s.heap.IsTuple t items)(hx:items[i]? =none)
  (hE: ∀h' e,ExtBut it s.heap h'->(∃o,h'.get? e=some o/\o.cls= .type "StopIteration")->E (.ref e) {s with heap:=h'}):wpAny (model prog w) A (Builtin.SmallTypes.nextOf<|.ref it) Q E s:=by
 obtain⟨oi,hoi,hci,hdi⟩:=id hit;obtain⟨ot,hot,_,nt,hdt⟩:=ht;unfold Builtin.SmallTypes.nextOf;refine a9 (kH (name:=Str.ofString "__next__") hit.typeIs yR<|iS yR hit.typeIs PySem.F.entry_tuple_iterator_next ?_<|PySem.F.args_tuple_iterator_next_1 _);show wpAny _ _ (field (.ref it) 0 >>= _) _ _ s;refine a9 (cP hoi hdi (x:= .ref t) rfl ?_)
 show wpAny _ _ (if(Value.ref t==Value.none)=true then _ else _) _ _ s;rw[a8<|show ¬((Value.ref t==Value.none)=true)from bH]
 show wpAny _ _ (field (.ref it) 1 >>= _) _ _ s;refine a9 (cP hoi hdi (x:= .int i 0) rfl ?_)
 show wpAny _ _ (seqItems? (.ref t) >>= _) _ _ s;refine a9 (kN hot hdt ?_)
 simp only[bW,hx];refine a9 (nO<|a9<|uB hoi hdi ae ?_)
 show wpAny _ _ (newExc (.type "StopIteration") [] >>= _) _ _ _;refine a9 ?_;simp only[newExc,newTuple];refine a9 (iR ?_<|by size_fits)
 refine a9 (m:=firstArgMember _ _) (jR (a:=Value.none) (by first|rfl| (simp only[firstArgMember];rfl)) ?_);refine iR ?_ (by size_fits)
 simp only[raiseNew];refine a9 (wpAny_handled ?_);first|rw[show A.in1.handled=none from hh]|rw[hh]
 exact a9 (aH<|wpAny_throw<|hE _ _ (((u6 ..).extBut.push _).push _) ⟨_,bZ _ rfl,rfl⟩)
theorem b67 {T:Bool}{it a:Addr}{i:Nat}{xs:Array Value}{x:Value}{Q:Value->Shared->Prop}(hit:wA T s.heap it a i)(hl:w8 T s.heap a xs)(hx:xs[i]? =some x)
  (hQ: ∀h',wA T h' it a (i+1)->SameBut it s.heap h'->Q x {s with heap:=h'}):wpAny (model prog w) A (Builtin.SmallTypes.nextOf<|.ref it) Q E s:=by
 cases T with
 | false=>exact wpAny_nextOf_list_item hit hl hx hQ
 | true=>exact d02 hit hl hx hQ
theorem bA4 {T:Bool}{it a:Addr}{i:Nat}{xs:Array Value}{Q:Value->Shared->Prop}(hh:A.handled=none)(hit:wA T s.heap it a i)(hl:w8 T s.heap a xs)(hx:xs[i]? =none)
  (hE: ∀h' e,ExtBut it s.heap h'->(∃o,h'.get? e=some o/\o.cls= .type "StopIteration")->E (.ref e) {s with heap:=h'}):wpAny (model prog w) A (Builtin.SmallTypes.nextOf<|.ref it) Q E s:=by
 cases T with
 | false=>exact wpAny_nextOf_list_end hh hit hl hx hE
 | true=>exact cQ1 hh hit hl hx hE
end
structure ZSt (T1 T2:Bool)(z TI TO i1 i2 l1 l2:Addr)(f0:Value)(i:Nat)(h:Heap):Prop where
 hz:IsZip h z TI TO f0
 hI:IsPair h TI (.ref i1) (.ref i2)
 hO: ∃a b,IsPair h TO a b
 h1:wA T1 h i1 l1 i
 h2:wA T2 h i2 l2 i
structure ZAp (z TI TO i1 i2:Addr):Prop where
 a:TI≠z
 b:TO≠z
 c:i1≠z
 d:i2≠z
 e:TI≠TO
 f:TI≠i1
 g:TI≠i2
 h:TO≠i1
 i:TO≠i2
 j:i1≠i2
section
variable {prog:Program}{w:World}{A:Around}{E:Value->Shared->Prop}{s:Shared}{T1 T2:Bool}{z TI TO i1 i2 l1 l2:Addr}{k:Nat}{xs ys:Array Value}
theorem d03 {x y:Value}(D:ZAp z TI TO i1 i2)(n1:l1 ∉ [z,TI,TO,i1,i2])(n2:l2 ∉ [z,TI,TO,i1,i2])(st:ZSt T1 T2 z TI TO i1 i2 l1 l2 .none k s.heap)
  (hl1:w8 T1 s.heap l1 xs) (hl2:w8 T2 s.heap l2 ys) (hx:xs[k]? =some x) (hy:ys[k]? =some y)
  (hQ: ∀h',ZSt T1 T2 z TI TO i1 i2 l1 l2 (rawInt s.heap.objs.size) (k+1) h'->IsPair h' s.heap.objs.size x y->(∀c o,c ∉ [z,TI,TO,i1,i2]->s.heap.get? c=some o->h'.get? c=some o)->Q (.ref s.heap.objs.size) {s with heap:=h'}) :
  wpAny (model prog w) A (Builtin.«zip.__next__» ⟨[.ref z],[]⟩) (λfin s'=> ∃v,fin= .done (.ret v)/\Q v s') E s:=by
 obtain⟨hz,hI,⟨a0,b0,hO⟩,h1,h2⟩:=st;simp only[aZ,dE,dG,not_or]at n1 n2;show wpAny _ _ (field (.ref z) 2 >>= _) _ _ _;refine a9 (cP hz rfl (x:= .bool false) rfl ?_);show wpAny _ _ (field (.ref z) 3 >>= _) _ _ _;refine a9 (cP hz rfl (x:= .ref TI) rfl ?_);refine a9 (kN hI rfl ?_);show wpAny _ _ (Builtin.SmallTypes.ownedTupleIsFree (.ref z) >>= _) _ _ _
 refine a9 ?_;unfold Builtin.SmallTypes.ownedTupleIsFree;refine a9 (cP hz rfl (x:= .none) rfl (aH ?_))
 simp only[hX];refine a9 (nO ?_);refine a9 (cP hz rfl (x:= .ref TO) rfl ?_);refine a9 (pO hz ae λg1 z1 m1=> ?_);replace z1:IsZip g1 z TI TO .ellipsis:=z1
 refine a9 ?_;simp only[List.zipIdx_cons,List.zipIdx_nil,zO,forIn_nil]
 refine a9 (a9<|zT ?_);show wpAny _ _ (Builtin.SmallTypes.nextOf (.ref i1) >>= _) _ _ _
 refine a9 (b67 (s:={s with heap:=g1}) (h1.at λo e=>m1.extBut _ _ D.c e) (hl1.at λo e=>m1.extBut _ _ n1.1 e) hx λg2 p2 m2=>aH ?_)
 have o2:IsPair g2 TO a0 b0:=m2.extBut _ _ D.h (m1.extBut _ _ D.b hO);refine a9 (kN o2 rfl ?_);refine a9 (aL2 o2 λg3 o3 m3=> ?_);replace o3:IsPair g3 TO x b0:=o3
 refine a9 (wpAny_letGo<|aH ?_)
 refine a9 (a9<|zT ?_);show wpAny _ _ (Builtin.SmallTypes.nextOf (.ref i2) >>= _) _ _ _
 refine a9 (b67 (s:={s with heap:=g3}) (h2.at λo e=>m3.extBut _ _ D.i.symm (m2.extBut _ _ D.j.symm<|m1.extBut _ _ D.d e)) (hl2.at λo e=>m3.extBut _ _ n2.2.2.1 (m2.extBut _ _ n2.2.2.2.1<|m1.extBut _ _ n2.1 e)) hy λg4 p4 m4=>aH ?_)
 have o4:IsPair g4 TO x b0:=m4.extBut _ _ D.i o3;refine a9 (kN o4 rfl ?_);refine a9 (aL2 o4 λg5 o5 m5=> ?_);replace o5:IsPair g5 TO x y:=o5
 refine a9 (wpAny_letGo<|aH<|aH ?_)
 refine a9 (kN o5 rfl ?_);refine a9 (wpAny_newTuple ?_)
 have sz:g5.objs.size=s.heap.objs.size:=by rw[m5.1,m4.1,m3.1,m2.1,m1.1]
 have z5:IsZip g5 z TI TO .ellipsis:=m5.extBut _ _ D.b.symm (m4.extBut _ _ D.d.symm<|m3.extBut _ _ D.b.symm<|m2.extBut _ _ D.c.symm z1);have keep5: ∀c o,c≠z->c≠TO->c≠i1->c≠i2->s.heap.get? c=some o->g5.get? c=some o:=λc o c1 c2 c3 c4 e=>m5.extBut _ _ c2 (m4.extBut _ _ c4<|m3.extBut _ _ c2<|m2.extBut _ _ c3<|m1.extBut _ _ c1 e)
 have q1:wA T1 g5 i1 l1 (k+1):=p2.at λo e=>m5.extBut _ _ D.h.symm (m4.extBut _ _ D.j<|m3.extBut _ _ D.h.symm e)
 have q2:wA T2 g5 i2 l2 (k+1):=p4.at λo e=>m5.extBut _ _ D.i.symm e
 have zl:z<g5.objs.size:=aV z5;show wpAny _ _ (Builtin.SmallTypes.ownedTupleHandOut (.ref z) (.ref g5.objs.size) >>= _) _ _ _;refine a9 ?_;unfold Builtin.SmallTypes.ownedTupleHandOut;have z6:IsZip (g5.push {cls:= .type "tuple",data:= .seq #[x,y]}) z TI TO .ellipsis:=aT _ z5;refine a9 (pO z6 ae λg7 z7 m7=> ?_);replace z7:IsZip g7 z TI TO (rawInt g5.objs.size):=z7
 refine pO z7 ae λg8 z8 m8=> ?_;replace z8:IsZip g8 z TI TO (rawInt g5.objs.size):=z8
 have up: ∀c o,c≠z->g5.get? c=some o->g8.get? c=some o:=λc o c1 e=>m8.extBut _ _ c1 (m7.extBut _ _ c1<|aT _ e)
 have t8:IsPair g8 g5.objs.size x y:=m8.extBut _ _ (pY zl) (m7.extBut _ _ (pY zl)<|bZ _ rfl);rw[sz]at z8 t8;refine aH ⟨_,rfl,?_⟩;show Q (.ref g5.objs.size) _;rw[sz];refine hQ g8 ⟨z8,up _ _ D.a<|keep5 _ _ D.a D.e D.f D.g hI,⟨x,y,up _ _ D.b o5⟩,q1.at λo e=>up _ _ D.c e,q2.at λo e=>up _ _ D.d e⟩ t8 λc o nc e=> ?_
 simp only[aZ,dE,dG,not_or]at nc;exact up c o nc.1 (keep5 c o nc.1 nc.2.2.1 nc.2.2.2.1 nc.2.2.2.2 e)
theorem cQ2 {Q:Fin->Shared->Prop}(hh:A.handled=none)(D:ZAp z TI TO i1 i2)(n1:l1 ∉ [z,TI,TO,i1,i2])(n2:l2 ∉ [z,TI,TO,i1,i2])(st:ZSt T1 T2 z TI TO i1 i2 l1 l2 .none k s.heap)
  (hl1:w8 T1 s.heap l1 xs) (hl2:w8 T2 s.heap l2 ys) (hend:xs[k]? =none\/ys[k]? =none)
  (hE: ∀h' e,(∀c o,c ∉ [z,TI,TO,i1,i2]->s.heap.get? c=some o->h'.get? c=some o)->(∃o,h'.get? e=some o/\o.cls= .type "StopIteration")->E (.ref e) {s with heap:=h'}) :
  wpAny (model prog w) A (Builtin.«zip.__next__» ⟨[.ref z],[]⟩) Q E s:=by
 obtain⟨hz,hI,⟨a0,b0,hO⟩,h1,h2⟩:=st;simp only[aZ,dE,dG,not_or]at n1 n2;have nin: ∀c,c ∉ [z,TI,TO,i1,i2]->c≠z/\c≠TI/\c≠TO/\c≠i1/\c≠i2:=λc h=>by simpa only[aZ,dE,dG,not_or]using h
 show wpAny _ _ (field (.ref z) 2 >>= _) _ _ _;refine a9 (cP hz rfl (x:= .bool false) rfl ?_)
 show wpAny _ _ (field (.ref z) 3 >>= _) _ _ _;refine a9 (cP hz rfl (x:= .ref TI) rfl ?_)
 refine a9 (kN hI rfl ?_);show wpAny _ _ (Builtin.SmallTypes.ownedTupleIsFree (.ref z) >>= _) _ _ _
 refine a9 ?_;unfold Builtin.SmallTypes.ownedTupleIsFree;refine a9 (cP hz rfl (x:= .none) rfl (aH ?_))
 simp only[hX];refine a9 (nO ?_);refine a9 (cP hz rfl (x:= .ref TO) rfl ?_);refine a9 (pO hz ae λg1 z1 m1=> ?_);replace z1:IsZip g1 z TI TO .ellipsis:=z1
 refine a9 ?_;simp only[List.zipIdx_cons,List.zipIdx_nil,zO,forIn_nil]
 refine a9 (a9<|zT ?_);show wpAny _ _ (Builtin.SmallTypes.nextOf (.ref i1) >>= _) _ _ _
 cases hx:xs[k]? with
 | none=>
  refine a9 (bA4 (s:={s with heap:=g1}) hh (h1.at λo e=>m1.extBut _ _ D.c e) (hl1.at λo e=>m1.extBut _ _ n1.1 e) hx λg2 e m2 he=> ?_)
  obtain⟨oe,hoe,hce⟩:=he;have z2:IsZip g2 z TI TO .ellipsis:=m2 _ _ D.c.symm z1;have ez:e≠z:=λq=>by subst q;rw[z2]at hoe;cases hoe;simp at hce
  refine pO z2 ae λg3 _ m3=>hE g3 e (λc o nc q=> ?_) ⟨oe,m3.extBut _ _ ez hoe,hce⟩
  obtain⟨c1,c2,c3,c4,c5⟩:=nin c nc;exact m3.extBut _ _ c1 (m2 _ _ c4<|m1.extBut _ _ c1 q)
 | some x=>
  have hy:ys[k]? =none:=by rcases hend with q|q;(rw[hx]at q;cases q);exact q
  refine a9 (b67 (s:={s with heap:=g1}) (h1.at λo e=>m1.extBut _ _ D.c e) (hl1.at λo e=>m1.extBut _ _ n1.1 e) hx λg2 p2 m2=>aH ?_)
  have o2:IsPair g2 TO a0 b0:=m2.extBut _ _ D.h (m1.extBut _ _ D.b hO);refine a9 (kN o2 rfl ?_);refine a9 (aL2 o2 λg3 o3 m3=> ?_)
  refine a9 (wpAny_letGo<|aH ?_);refine a9 (a9<|zT ?_);show wpAny _ _ (Builtin.SmallTypes.nextOf (.ref i2) >>= _) _ _ _
  refine a9 (bA4 (s:={s with heap:=g3}) hh (h2.at λo e=>m3.extBut _ _ D.i.symm (m2.extBut _ _ D.j.symm<|m1.extBut _ _ D.d e)) (hl2.at λo e=>m3.extBut _ _ n2.2.2.1 (m2.extBut _ _ n2.2.2.2.1<|m1.extBut _ _ n2.1 e)) hy λg4 e m4 he=> ?_)
  obtain⟨oe,hoe,hce⟩:=he;have z4:IsZip g4 z TI TO .ellipsis:=m4 _ _ D.d.symm (m3.extBut _ _ D.b.symm<|m2.extBut _ _ D.c.symm z1);have ez:e≠z:=λq=>by subst q;rw[z4]at hoe;cases hoe;simp at hce
  refine pO z4 ae λg5 _ m5=>hE g5 e (λc o nc q=> ?_) ⟨oe,m5.extBut _ _ ez hoe,hce⟩
  obtain⟨c1,c2,c3,c4,c5⟩:=nin c nc;exact m5.extBut _ _ c1 (m4 _ _ c5<|m3.extBut _ _ c3<|m2.extBut _ _ c4<|m1.extBut _ _ c1 q)
end
nonrec def Itz (K:PySem.W.Frag)(T1 T2:Bool)(l1 l2:Addr):It where
 go:=λi H=> ∃xs ys x y,SqV K T1 H l1 xs/\SqV K T2 H l2 ys/\xs[i]? =some x/\ys[i]? =some y
 yld:=λi H v H'=> ∃T x y,v= .ref T/\H T=none/\H'=upd H T (.tup [x,y])/\(∀xs,SqV K T1 H l1 xs->xs[i]? =some x)/\ ∀ys,SqV K T2 H l2 ys->ys[i]? =some y
 stop:=λi H=> ∃xs ys,SqV K T1 H l1 xs/\SqV K T2 H l2 ys/\(xs.length<=i\/ys.length<=i)
theorem ZSt.objs {z TI TO i1 i2:Addr}{f0:Value}(st:ZSt T1 T2 z TI TO i1 i2 l1 l2 f0 i h): ∀b∈[z,TI,TO,i1,i2],∃o,h.get? b=some o/\ ∀v,o.data≠ .cell v:=λb hb=>by
 obtain⟨hz,hI,⟨a,c,hO⟩,h1,h2⟩:=st;simp only[aZ,dE,dG]at hb;rcases hb with rfl|rfl|rfl|rfl|rfl
 .exact⟨_,hz,λv q=>by cases q⟩
 .exact⟨_,hI,λv q=>by cases q⟩
 .exact⟨_,hO,λv q=>by cases q⟩
 .exact h1.rec'
 .exact h2.rec'
theorem c23:2<=sizeLine:=ac
theorem d04 {z TI TO i1 i2:Addr}(D:ZAp z TI TO i1 i2)(n1:l1 ∉ [z,TI,TO,i1,i2])(n2:l2 ∉ [z,TI,TO,i1,i2]) :
  c02 P w K (.Tuple elts kt tp) (Itz K T1 T2 l1 l2) [z,TI,TO,i1,i2] z (ZSt T1 T2 z TI TO i1 i2 l1 l2 .none) where
 mem:=ae
 obj:=λi h st b hb=>st.objs b hb
 keep:=λi h h' st k=>by
  obtain⟨hz,hI,⟨a,c,hO⟩,h1,h2⟩:=st;exact⟨k z ae _ hz,k TI ae _ hI,⟨a,c,k TO ae _ hO⟩,h1.at λo e=>k i1 ae o e,h2.at λo e=>k i2 ae o e⟩
 item:=by
  intro X hP hw hK hc i pins s σ H E I hf st hg;subst hP hw hK;obtain⟨xs,ys,x,y,q1,q2,e1,e2⟩:=hg;obtain⟨is1,r1,p1,_⟩:=I.sq q1;obtain⟨is2,r2,p2,_⟩:=I.sq q2;obtain⟨u1,hu1,ru1⟩:=r1.get e1;obtain⟨u2,hu2,ru2⟩:=r2.get e2;have hT:s.TypeIs (.ref z) "zip":=⟨_,st.hz,rfl⟩;unfold pyNext
  refine a9 (nK<|kH (name:=Str.ofString "__next__") hT yX<|iS yX hT PySem.F.entry_zip_next (d03 D n1 n2 st p1 p2 (by exists hu1) (by exists hu2) λh' st' ht k=>aH ?_)<|PySem.F.args_zip_next_1 _)
  refine⟨_,rfl,wpAny_letOwnedTupleGo_zip st'.hz λh2 hz2 m=> ?_⟩
  have kk: ∀b u,b ∉ [z,TI,TO,i1,i2]->s.heap.get? b=some u->h2.get? b=some u:=λb u nb e=>m.extBut _ _ (λq=>nb (by simp[q])) (k b u nb e)
  have hne:s.heap.objs.size≠z:=pY (aV st.hz);have ht2:IsPair h2 s.heap.objs.size u1 u2:=m.extBut _ _ hne ht;obtain⟨a',c',hO'⟩:=st'.hO;refine⟨.ref s.heap.objs.size,upd H s.heap.objs.size<|.tup [x,y],I.turnedNew (t':=s.toks) kk hf (aG _) ⟨c23,[u1,u2],.cons ru1<|.cons ru2 .nil,⟨_,ht2,rfl,_,rfl⟩⟩,rfl,
   ⟨_,x,y,rfl,I.hok.fresh<|aG _,rfl,λxs' q=>by rw[I.sq_inj q q1];exact e1,λys' q=>by rw[I.sq_inj q q2];exact e2⟩,⟨hz2,m.extBut _ _ D.a st'.hI,⟨a',c',m.extBut _ _ D.b hO'⟩,st'.h1.at λo e=>m.extBut _ _ D.c e,st'.h2.at λo e=>m.extBut _ _ D.d e⟩,λb hb=> ?_⟩
  obtain⟨o,ho,_⟩:=st.objs b hb;rw[cD<|bI<|aV ho];exact(hf b hb).1
 done:=by
  intro X hP hw hK hc i pins s σ H E I hf st hg;subst hP hw hK;obtain⟨xs,ys,q1,q2,hs⟩:=hg;obtain⟨is1,r1,p1,_⟩:=I.sq q1;obtain⟨is2,r2,p2,_⟩:=I.sq q2;have l1':=r1.length;have l2':=r2.length;have hT:s.TypeIs (.ref z) "zip":=⟨_,st.hz,rfl⟩;unfold pyNext
  refine a9 (nK<|kH (name:=Str.ofString "__next__") hT yX<|iS yX hT PySem.F.entry_zip_next (cQ2 (I.ok.hd hc) D n1 n2 st p1 p2 (by simp;omega) λh' e k he=> ?_)<|PySem.F.args_zip_next_1 _)
  obtain⟨o,ho,hc'⟩:=he;exact a9 (wpAny_isInstance (T:="StopIteration") (b:=true) ⟨o,ho,hc'⟩ isSubtype_stop<|aH ⟨rfl,I.turnedL (t':=s.toks) k hf⟩)
 self:=λ_ _ _ _ _ st h=>wpAny_pyIter_zip st.hz h
noncomputable abbrev zg1 (T1:Bool)(h:Heap)(l1:Addr):Heap:=h.push (a87 T1 l1)
noncomputable abbrev zg2 (T1 T2:Bool)(h:Heap)(l1 l2:Addr):Heap:=(zg1 T1 h l1).push (a87 T2 l2)
noncomputable abbrev zg3 (T1 T2:Bool)(h:Heap)(l1 l2:Addr):Heap:=(zg2 T1 T2 h l1 l2).push {cls:= .type "tuple",data:= .seq #[.ref h.objs.size,.ref (zg1 T1 h l1).objs.size]}
noncomputable abbrev zg4 (T1 T2:Bool)(h:Heap)(l1 l2:Addr):Heap:=(zg3 T1 T2 h l1 l2).push {cls:= .type "tuple",data:= .seq #[.none,.none]}
noncomputable abbrev zg5 (T1 T2:Bool)(h:Heap)(l1 l2:Addr):Heap:=(zg4 T1 T2 h l1 l2).push {cls:= .type "zip",data:= .fields #[.none,.bool false,.bool false,.ref (zg2 T1 T2 h l1 l2).objs.size,.ref (zg3 T1 T2 h l1 l2).objs.size]}
theorem dF3 (T1 T2:Bool)(l1 l2:Addr)(xs ys:Array Value):Meets (Builtin.«zip.__new__» ⟨[.type "zip",.ref l1,.ref l2],[]⟩) (λ_ R s=>w8 T1 s.heap l1 xs/\w8 T2 s.heap l2 ys/\
  R (.ok<|.ret<|.ref (zg4 T1 T2 s.heap l1 l2).objs.size) {s with heap:=zg5 T1 T2 s.heap l1 l2}):= .of_wp λprog w A R s h=>by
 obtain⟨hp,g,d,tk,os⟩:=s;obtain⟨hl1,hl2,h⟩:=h;have hsub:=sub_zip;have e1:w8 T1 (Shared.heap ⟨hp,g,d,tk,os⟩) l1 xs:=hl1;have e2:w8 T2 (Shared.heap ⟨hp.push<|a87 T1 l1,g,d,tk,os⟩) l2 ys:=hl2.at λo e=>aT _ e
 wp_walk using aE5 e1,aE5 e2
 exact⟨_,rfl,h⟩
section
variable {prog:Program}{w:World}{A:Around}{E:Value->Shared->Prop}{s:Shared}
theorem d05 {ys:Array Value}(hl1:w8 T1 s.heap l1 xs)(hl2:w8 T2 s.heap l2 ys)
  (h: ∀h' z TI TO i1 i2,ZAp z TI TO i1 i2->(∀b∈[z,TI,TO,i1,i2],s.heap.objs.size<=b)->ZSt T1 T2 z TI TO i1 i2 l1 l2 .none 0 h'->(∀c o,s.heap.get? c=some o->h'.get? c=some o)->Q (.ref z) {s with heap:=h'}) :
  wpAny (model prog w) A (call (.type "zip") [.ref l1,.ref l2]) Q E s:=by
 refine callType_new PySem.F.called_zip ac (PySem.F.typeCall_zip_2 _ _) (PySem.F.newCall_zip_2 _ _) (λobj=>PySem.F.args_object_init_3 obj _ _) PySem.F.entry_zip_new (dF3 T1 T2 l1 l2 xs ys) ⟨hl1,hl2,?_⟩
 have z1:(zg1 T1 s.heap l1).objs.size=s.heap.objs.size+1:=iU ..;have z2:(zg2 T1 T2 s.heap l1 l2).objs.size=s.heap.objs.size+2:=by rw[iU,z1]
 have z3:(zg3 T1 T2 s.heap l1 l2).objs.size=s.heap.objs.size+3:=by rw[iU,z2]
 have z4:(zg4 T1 T2 s.heap l1 l2).objs.size=s.heap.objs.size+4:=by rw[iU,z3]
 have g5:(zg5 T1 T2 s.heap l1 l2).get? (zg4 T1 T2 s.heap l1 l2).objs.size=some _:=bZ _ rfl;have g4:(zg5 T1 T2 s.heap l1 l2).get? (zg3 T1 T2 s.heap l1 l2).objs.size=some _:=aT _ (bZ _ rfl);have g3:(zg5 T1 T2 s.heap l1 l2).get? (zg2 T1 T2 s.heap l1 l2).objs.size=some _:=aT _ (aT _<|bZ _ rfl)
 have s2:wA T2 (zg5 T1 T2 s.heap l1 l2) (zg1 T1 s.heap l1).objs.size l2 0:=(wA.new (zg1 T1 s.heap l1) l2).at λo e=>aT _ (aT _<|aT _ e)
 have s1:wA T1 (zg5 T1 T2 s.heap l1 l2) s.heap.objs.size l1 0:=(wA.new s.heap l1).at λo e=>aT _ (aT _<|aT _<|aT _ e)
 have ap:ZAp (zg4 T1 T2 s.heap l1 l2).objs.size (zg2 T1 T2 s.heap l1 l2).objs.size (zg3 T1 T2 s.heap l1 l2).objs.size s.heap.objs.size (zg1 T1 s.heap l1).objs.size:=by
  rw[z1,z2,z3,z4];have k: ∀n a b:Nat,a≠b->n+a≠n+b:=λn a b h=>aa
  exact⟨k _ 2 4 ac,k _ 3 4 ac,k _ 0 4 ac,k _ 1 4 ac,k _ 2 3 ac,k _ 2 0 ac,k _ 2 1 ac,k _ 3 0 ac,k _ 3 1 ac,k _ 0 1 ac⟩
 refine⟨⟨_,g5,rfl⟩,h _ _ _ _ _ _ ap (λb hb=> ?_) ⟨g5,g3,⟨_,_,g4⟩,s1,s2⟩ λc o e=>aT _ (aT _<|aT _<|aT _<|aT _ e)⟩
 rw[z1,z2,z3,z4]at hb;simp only[aZ,dE,dG]at hb;rcases hb with rfl|rfl|rfl|rfl|rfl<;>omega
end
section
variable {X:Cx}
def iZip (K:PySem.W.Frag)(ta:TA):TI:=λσ H R=>ta σ H λvs H1=> ∃l1 l2 T1 T2 xs ys,vs=[.ref l1,.ref l2]/\SqV K T1 H1 l1 xs/\SqV K T2 H1 l2 ys/\R (Itz K T1 T2 l1 l2) H1
theorem pi_zip {a b:Expr}{ta:TA}(hg:Gl X "zip")(hm:X.mg "zip"=none)(ha:PA X [a,b] ta)(hs:↥(starEach [a,b] X.env=[(false,eval a X.env),(false,eval b X.env)]))(hs2:↥(starEach [b] X.env=[(false,eval b X.env)])) :
  PI X (.Tuple elts kt tp) (.Call (.Name "zip" p) [a,b] [] pos) (iZip X.K ta):=by
 intro pins s σ H R I h;refine Call_ (uK I hg hm PyProof.Rows.boot_zip<|jJ (thn (ha pos pins s σ H _ I h) λus s1 ⟨vs,H1,I1,r1,q1⟩=> ?_) (by rw[hs,hs2]) (by rw[hs2];rfl))
 obtain⟨l1,l2,T1,T2,xs,ys,e,q1,q2,q⟩:=q1;subst e;obtain⟨u,v,rfl,r,r'⟩:=Vals.two r1;cases r;cases r';obtain⟨is1,_,p1,_⟩:=I1.sq q1;obtain⟨is2,_,p2,_⟩:=I1.sq q2;refine d05 p1 p2 λh' z TI TO i1 i2 ap fr st k=>wpAny_pyIter_zip st.hz ?_
 have nl: ∀l,l<s1.heap.objs.size->l ∉ [z,TI,TO,i1,i2]:=λl hl hb=>absurd (b9 hl<|fr l hb) (dF _)
 exact⟨z,[z,TI,TO,i1,i2],_,_,H1,rfl,I1.kept (t':=s1.toks) k,d04 ap (nl l1 p1.lt)<|nl l2 p2.lt,st,λb hb=>I1.fpOk (fr b hb) (I1.hok.fresh<|fr b hb),q⟩
end
theorem c24 {prog:Program}(hh:A.handled=none)(it a:Addr)(hne:a≠it)(xs:Array Value):Draws prog w A it [it,a] xs.size (λi v=>xs[i]? =some v) (λi h=>wA T h it a i/\w8 T h a xs) where
 live:=λ_ _ st=>let ⟨o,ho,_⟩:=st.1.rec';⟨o,ho⟩
 frame:=λ_ _ _ st k=>⟨st.1.at λo e=>k it ae o e,st.2.at λo e=>k a ae o e⟩
 item:=λi s Q E hi st hQ=>b67 st.1 st.2 (x:=xs[i]) (by simp[hi]) λh' hit' m=>hQ _ h' s.toks (by simp[hi]) ⟨hit',st.2.at λo e=>m.extBut _ _ hne e⟩ m
 done:=λs Q E st hE=>bA4 hh st.1 st.2 ae hE
nonrec def Ite (K:PySem.W.Frag)(T:Bool)(l:Addr):It where
 go:=λi H=> ∃xs x,SqV K T H l xs/\xs[i]? =some x
 yld:=λi H v H'=> ∃Tn x,v= .ref Tn/\H Tn=none/\H'=upd H Tn (.tup [.int (i:Int),x])/\ ∀xs,SqV K T H l xs->xs[i]? =some x
 stop:=λi H=> ∃xs,SqV K T H l xs/\xs.length=i
def ESt (T:Bool)(e it l:Addr)(i:Nat)(h:Heap):Prop:=(∃old,IsEnum h e it i old)/\wA T h it l i
theorem ESt.objs {e:Addr}(st:ESt T e it l i h): ∀b∈[e,it],∃o,h.get? b=some o/\ ∀v,o.data≠ .cell v:=λb hb=>by
 obtain⟨⟨old,he⟩,h1⟩:=st;simp only[aZ,dE,dG]at hb;rcases hb with rfl|rfl
 .exact⟨_,he,λv q=>by cases q⟩
 .exact h1.rec'
theorem cQ3 {e:Addr}(hei:e≠it)(nl:l ∉ [e,it]):c02 P w K (.Tuple elts kt tp) (Ite K T l) [e,it] e (ESt T e it l) where
 mem:=ae
 obj:=λi h st b hb=>st.objs b hb
 keep:=λi h h' st k=>by
  obtain⟨⟨old,he⟩,h1⟩:=st;exact⟨⟨old,k e ae _ he⟩,h1.at λo q=>k it ae o q⟩
 item:=by
  intro X hP hw hK hc i pins s σ H E I hf st hg;subst hP hw hK;obtain⟨xs,x,q1,e1⟩:=hg;obtain⟨is1,r1,p1,_⟩:=I.sq q1;obtain⟨u1,hu1,ru1⟩:=r1.get e1;simp only[aZ,dE,dG,not_or]at nl;obtain⟨⟨old,he⟩,h1⟩:=id st;have hi:i<is1.toArray.size:=by rw[bD];exact(jK.mp hu1).1
  have D:=c24 (prog:=X.prog) (w:=X.w) (A:=X.A.in1) (T:=T) (I.ok.hd hc) it l nl.2 is1.toArray;refine wpAny_pyNext_enum_itemD D he ⟨h1,p1⟩ hi hei (by simp[hei,Ne.symm nl.1]) λv h' tk hv ho hs' ht hsz k=>⟨_,rfl,wpAny_letOwnedTupleGo_enum ho λh2 he2 m=> ?_⟩
  have ev:v=u1:=by
   have:is1.toArray[i]? =some u1:=by exists hu1
   rw[this]at hv;cases hv;rfl
  subst ev;have hne:s.heap.objs.size≠e:=pY (aV he);have kk: ∀b u,b ∉ [e,it]->s.heap.get? b=some u->h2.get? b=some u:=λb u nb q=>by
   simp only[aZ,dE,dG,not_or]at nb;exact m.extBut _ _ nb.1 (k b u nb.1 nb.2 q)
  have ht2:h2.get? s.heap.objs.size=some {cls:= .type "tuple",data:= .seq #[.int i tk,v]}:=m.extBut _ _ hne ht;refine⟨.ref s.heap.objs.size,upd H s.heap.objs.size<|.tup [.int (i:Int),x],I.turnedNew (t':=tk+1) kk hf (aG _) ⟨c23,[.int i tk,v],.cons ⟨tk,rfl⟩<|.cons ru1 .nil,⟨_,ht2,rfl,_,rfl⟩⟩,rfl,
   ⟨_,x,rfl,I.hok.fresh<|aG _,rfl,λxs' q=>by rw[I.sq_inj q q1];exact e1⟩,⟨⟨_,by exists he2⟩,hs'.1.at λo q=>m.extBut _ _ (Ne.symm hei) q⟩,λb hb=> ?_⟩
  obtain⟨o,ho',_⟩:=st.objs b hb;rw[cD<|bI<|aV ho'];exact(hf b hb).1
 done:=by
  intro X hP hw hK hc i pins s σ H E I hf st hg;subst hP hw hK;obtain⟨xs,q1,hl⟩:=hg;obtain⟨is1,r1,p1,_⟩:=I.sq q1;have l1':=r1.length;simp only[aZ,dE,dG,not_or]at nl;obtain⟨⟨old,he⟩,h1⟩:=id st;have D:=c24 (prog:=X.prog) (w:=X.w) (A:=X.A.in1) (T:=T) (I.ok.hd hc) it l nl.2 is1.toArray
  refine wpAny_pyNext_enum_endD D he ⟨by rw[bD,<-l1',hl];exact h1,p1⟩ λh' ex=>⟨rfl,I.turnedL (t':=s.toks) (λb u nb q=>ex b u (λz=>nb (by simp[z])) q) hf⟩
 self:=λ_ _ _ _ _ st h=>by
  obtain⟨⟨old,he⟩,_⟩:=st;exact wpAny_pyIter_enum he h
theorem cQ4 (l:Addr)(xs:Array Value):Meets (Builtin.«enumerate.__new__» ⟨[.type "enumerate",.ref l],[]⟩) (λ_ R s=>s.heap.IsTuple l xs/\
  R (.ok<|.ret<|.ref (s.heap.push<|a87 true l).objs.size) {s with heap:=(s.heap.push<|a87 true l).push {cls:= .type "enumerate",data:= .fields #[.none,.bool false,.ref s.heap.objs.size,rawInt 0,.none,.none]}}):= .of_wp λprog w A R s h=>by
 obtain⟨hp,g,d,tk,os⟩:=s;obtain⟨hl,h⟩:=h;obtain⟨⟨c,dct,dt,sl⟩,hg,hc,n,hd⟩:=id hl
 replace hc:c= .type "tuple":=hc
 replace hd:dt= .seq xs n:=hd
 subst hc hd;have hsub:=sub_enumerate;have e1:w8 true (Shared.heap ⟨hp,g,d,tk,os⟩) l xs:=hl
 wp_walk using aJ6 hg
 refine wpAny_stack_any λst=>aH ?_
 split
 .rename_i c _ _ _ _ _
  cases (c==Value.type "enumerate")<;>(wp_walk using aJ6 hg,aE5 e1;exact⟨_,rfl,h⟩)
 .wp_walk using aJ6 hg,aE5 e1
  exact⟨_,rfl,h⟩
section
variable {prog:Program}{w:World}{A:Around}{E:Value->Shared->Prop}{s:Shared}
theorem cQ5 {T:Bool}{l:Addr}{xs:Array Value}{Q:Value->Shared->Prop}(hl:w8 T s.heap l xs)
  (h: ∀h' e it,e≠it->s.heap.objs.size<=e->s.heap.objs.size<=it->ESt T e it l 0 h'->(∀c o,s.heap.get? c=some o->h'.get? c=some o)->Q (.ref e) {s with heap:=h'}) :
  wpAny (model prog w) A (call (.type "enumerate") [.ref l]) Q E s:=by
 cases T with
 | false=>exact call_enumerate_list hl λh' he hit hsz k=>h h' _ _ aa aa aa ⟨⟨_,he⟩,hit⟩ k
 | true=>
  refine callType_new PySem.F.called_enumerate ac (PySem.F.typeCall_enumerate_1 _) (PySem.F.newCall_enumerate_1 _) (λobj=>PySem.F.args_object_init_2 obj _) PySem.F.entry_enumerate_new (cQ4 l xs) ⟨hl,?_⟩
  have z1:(s.heap.push<|a87 true l).objs.size=s.heap.objs.size+1:=iU ..;have he:IsEnum ((s.heap.push<|a87 true l).push {cls:= .type "enumerate",data:= .fields #[.none,.bool false,.ref s.heap.objs.size,rawInt 0,.none,.none]}) (s.heap.push<|a87 true l).objs.size s.heap.objs.size 0 .none:=bZ _ rfl
  have hi:wA true ((s.heap.push<|a87 true l).push {cls:= .type "enumerate",data:= .fields #[.none,.bool false,.ref s.heap.objs.size,rawInt 0,.none,.none]}) s.heap.objs.size l 0:=(wA.new (T:=true) s.heap l).at λo e=>aT _ e
  exact⟨⟨_,he,rfl⟩,h _ _ _ (by rw[z1];omega) (by rw[z1];omega) (aG _) ⟨⟨_,he⟩,hi⟩ λc o e=>aT _ (aT _ e)⟩
end
section
variable {X:Cx}
def iEnum (K:PySem.W.Frag)(ta:TA):TI:=λσ H R=>ta σ H λvs H1=> ∃l T xs,vs=[.ref l]/\SqV K T H1 l xs/\R (Ite K T l) H1
theorem dF4 {a:Expr}{ta:TA}(hg:Gl X "enumerate")(hm:X.mg "enumerate"=none)(ha:PA X [a] ta)(hs:↥(starEach [a] X.env=[(false,eval a X.env)])) :
  PI X (.Tuple elts kt tp) (.Call (.Name "enumerate" p) [a] [] pos) (iEnum X.K ta):=by
 intro pins s σ H R I h;refine Call_ (uK I hg hm PyProof.Rows.boot_enumerate<|jJ (thn (ha pos pins s σ H _ I h) λus s1 ⟨vs,H1,I1,r1,q1⟩=> ?_) hs rfl)
 obtain⟨l,T,xs,e,q1,q⟩:=q1;subst e;obtain⟨u,rfl,r⟩:=vals1 r1;cases r;obtain⟨is1,_,p1,_⟩:=I1.sq q1;refine cQ5 p1 λh' e it ne f1 f2 st k=> ?_
 obtain⟨⟨old,he⟩,_⟩:=id st;refine wpAny_pyIter_enum he ?_;have lt:=p1.lt;have fr: ∀b∈[e,it],s1.heap.objs.size<=b:=λb hb=>by
  simp only[aZ,dE,dG]at hb;rcases hb with rfl|rfl
  .exact f1
  .exact f2
 exact⟨e,[e,it],_,_,H1,rfl,I1.kept (t':=s1.toks) k,cQ3 ne λhb=>absurd (b9 lt<|fr l hb) (dF _),st,λb hb=>I1.fpOk (fr b hb) (I1.hok.fresh<|fr b hb),q⟩
end
theorem b40:isSubtype (.type "range_iterator") (.type "reversed")=pure false:=by rw[pV];kernel_rfl
theorem aY1 {n:Int}(h1: -(2^31)<=n)(h2:n<2^31):Builtin.Range.rangeFitsLong n=true:=by
 simp[Builtin.Range.rangeFitsLong]
 lia
nonrec def aS0 (n:Int):Obj:={cls:= .type "range_iterator",data:= .fields #[rawInt<|(n.toNat:Int)-1,rawInt (n.toNat:Int),rawInt<|-1]}
theorem bJ7 (r:Addr)(a b c:Int)(t u v:Tok)(hc0: ¬(!(Builtin.Range.rangeFitsLong a&&Builtin.Range.rangeFitsLong b&&Builtin.Range.rangeFitsLong c&&Builtin.Range.rangeFitsLong (-c)&&Builtin.Range.rangeFitsLong (a-c)&&Builtin.Range.rangeFitsLong (Builtin.Range.rangeSize a b c)))=true) :
  Meets (Builtin.«range.__reversed__» ⟨[.ref r],[]⟩) (λ_ R s=>s.heap.get? r=some {cls:= .type "range",dict:=none,data:= .fields #[.int a t,.int b u,.int c v],slots:= #[]}/\
  R (.ok<|.ret<|Value.ref s.heap.objs.size) {s with heap:=s.heap.push {cls:=Value.type (if(Builtin.Range.rangeFitsLong a&&Builtin.Range.rangeFitsLong b&&Builtin.Range.rangeFitsLong c&&Builtin.Range.rangeFitsLong (-c)&&Builtin.Range.rangeFitsLong (a-c)&&Builtin.Range.rangeFitsLong (Builtin.Range.rangeSize a b c))=true then "range_iterator" else "longrange_iterator"),data:=Data.fields #[rawInt<|a+(Builtin.Range.rangeSize a b c-1)*c,rawInt<|Builtin.Range.rangeSize a b c,rawInt<|-c]},toks:=s.toks}):= .of_wp λprog w A R s h=>by
 obtain⟨hp,g,d,tk,os⟩:=s;obtain⟨hl,h⟩:=h
 wp_walk
 exact⟨_,rfl,h⟩
theorem b41 (r:Addr)(n:Int)(t u v:Tok)(h1: -(2^31)<=n)(h2:n<2^31):Meets (Builtin.«range.__reversed__» ⟨[.ref r],[]⟩) (λ_ R s=>IsRange s.heap r 0 n 1 t u v/\
  R (.ok<|.ret<|.ref s.heap.objs.size) {s with heap:=s.heap.push (aS0 n)}):=by
 have e0:Builtin.Range.rangeSize 0 n 1=(n.toNat:Int):=by rw[rangeSize_one];split<;>lia
 have sm:(Builtin.Range.rangeFitsLong 0&&Builtin.Range.rangeFitsLong n&&Builtin.Range.rangeFitsLong 1&&Builtin.Range.rangeFitsLong (-1)&&Builtin.Range.rangeFitsLong (0-1)&&Builtin.Range.rangeFitsLong (Builtin.Range.rangeSize 0 n 1))=true:=by
  rw[e0,aY1 h1 h2,aY1 (n:=0) ac ac,aY1 (n:=1) ac ac,aY1 (n:= -1) ac ac,aY1 (n:=0-1) ac ac,aY1 (n:=(n.toNat:Int)) ad ad]
  rfl
 have G:=bJ7 r 0 n 1 t u v (by rw[sm];decide)
 intro prog w A R s h;refine G prog w A R s ⟨h.1,?_⟩;rw[sm,aA rfl,e0];have e1:(0:Int)+((n.toNat:Int)-1)*1=(n.toNat:Int)-1:=ad
 rw[e1];exact h.2
section
variable {prog:Program}{w:World}{A:Around}{E:Value->Shared->Prop}{s:Shared}
theorem c25 {r:Addr}{n:Int}{t u v:Tok}{Q₁:Value->Shared->Prop}(hr:IsRange s.heap r 0 n 1 t u v)(h1: -(2^31)<=n)(h2:n<2^31)
  (h:Q₁ (.ref s.heap.objs.size) {s with heap:=s.heap.push (aS0 n)}) :
  codeAny (model prog w) A (.call (.builtin "reversed.__new__") ⟨[.type "reversed",.ref r],[]⟩) (wants Q₁ E) s:=by
 have hT:s.TypeIs (.ref r) "range":=⟨_,hr,rfl⟩;refine codeAny_of_tree ?_;show wpAny _ A.in1 (do checkBuiltinCall "reversed.__new__" ⟨[.type "reversed",.ref r],[]⟩;again (.builtin "reversed.__new__" ⟨[.type "reversed",.ref r],[]⟩)) _ _ s;refine a9 (jR (PySem.F.newCall_reversed_1 _)<|aH ⟨plainId_quiet PySem.F.plain_reversed_new _,codeAny_builtin PySem.F.entry_reversed_new ?_⟩)
 rw[Around.under_plainId PySem.F.plain_reversed_new _];unfold Builtin.«reversed.__new__»;refine a9 (jR (newClass_reversed _) ?_);try right
 refine a9 (jR (a:=()) (by first|rfl|kernel_rfl) ?_);refine a9 (jR (a:=()) (by first|rfl|kernel_rfl) ?_);try right
 refine a9 (wpAny_specialOf hT PySem.F.slot_range_reversed.lookup ?_);try right
 refine a9 (jR (PySem.F.slot_range_reversed.bind _) ?_);try right
 first
 | rw[a8<|show ¬((Value.builtin "range.__reversed__"==Value.none)=true)from bH]
 | (show wpAny _ _ (if(Value.builtin "range.__reversed__"==Value.none)=true then _ else _) _ _ _;rw[a8<|show ¬((Value.builtin "range.__reversed__"==Value.none)=true)from bH])
 refine a9 (nO ?_)
 refine a9 (m:=runValue (.call (.builtin "range.__reversed__") ⟨[.ref r],[]⟩)) (show wpAny _ _ (call (.builtin "range.__reversed__") [.ref r]) _ _ _ from kQ PySem.F.slot_range_reversed hT PySem.F.entry_range_reversed (PySem.F.args_range_reversed_1 _) (b41 r n t u v h1 h2) ⟨hr,?_⟩)
 first
 | exact aH h
 | exact a9 (aH<|aH h)
theorem dF5 {r:Addr}{n:Int}{t u v:Tok}(hr:IsRange s.heap r 0 n 1 t u v)(h1: -(2^31)<=n)(h2:n<2^31)(h:Q (.ref s.heap.objs.size) {s with heap:=s.heap.push (aS0 n)}) :
  wpAny (model prog w) A (call (.type "reversed") [.ref r]) Q E s:=by
 refine callType_other (U:="range_iterator") (Q₁:=λobj s₁=>obj= .ref s.heap.objs.size/\s₁={s with heap:=s.heap.push (aS0 n)}) af PySem.F.create_reversed ⟨_,_,PySem.F.mro_reversed⟩ PySem.F.made_reversed b40 (PySem.F.typeCall_reversed_1 _) (c25 hr h1 h2 ⟨rfl,rfl⟩) ?_
 rintro obj s₁ ⟨rfl,rfl⟩;exact⟨⟨_,bZ _ rfl,rfl⟩,h⟩
end
section
variable {X:Cx}{tg:Expr}
def iRevR (ta:TA):TI:=λσ H R=>ta σ H λvs H1=> ∃j:Int,vs=[.int j]/\ -(2^31)<=j/\j<2^31/\R (Itd ((j.toNat:Int)-1) j.toNat) H1
theorem c26 {a:Expr}{ta:TA}{pos2:Pos}(hg:Gl X "reversed")(hm:X.mg "reversed"=none)(hg2:Gl X "range")(hm2:X.mg "range"=none)(ha:PA X [a] ta)(hs:↥(starEach [a] X.env=[(false,eval a X.env)]))
  (hs2:↥(starEach [.Call (.Name "range" p2) [a] [] pos2] X.env=[(false,eval (.Call (.Name "range" p2) [a] [] pos2) X.env)])) :
  PI X tg (.Call (.Name "reversed" p) [.Call (.Name "range" p2) [a] [] pos2] [] pos) (iRevR ta):=by
 intro pins s σ H R I h;refine Call_ (uK I hg hm PyProof.Rows.boot_reversed<|jJ ?_ hs2 rfl);rw[hs2];show wpAny _ _ (spliced ((false,eval (.Call (.Name "range" p2) [a] [] pos2) X.env)::[])) _ _ s;refine Calls.spliced_cons (Call_<|uK I hg2 hm2 boot_range<|jJ (thn (ha pos2 pins s σ H _ I h) λus s1 ⟨vs,H1,I1,r1,q1⟩=> ?_) hs rfl)
 obtain⟨j,e,q1,q2,q⟩:=q1;subst e;obtain⟨u,rfl,t,rfl⟩:=vals1 r1;refine call_range_1 (Calls.spliced_nil ?_);have I2:Inv X pins σ H1 {s1 with heap:=s1.heap.push {cls:= .type "range",data:= .fields #[.int 0 s1.toks,.int j t,.int 1<|s1.toks+1]},toks:=s1.toks+1+1}:=I1.kept λb o e=>aT _ e
 refine dF5 (IsRange.new ..) q1 q2 ?_
 have hi:IsRangeIter (((s1.heap.push {cls:= .type "range",data:= .fields #[.int 0 s1.toks,.int j t,.int 1<|s1.toks+1]})).push<|aS0 j) (s1.heap.push {cls:= .type "range",data:= .fields #[.int 0 s1.toks,.int j t,.int 1<|s1.toks+1]}).objs.size ((j.toNat:Int)-1) (j.toNat:Int) (-1):=bZ _ rfl;refine aK2 hi ?_
 refine⟨_,[(s1.heap.push {cls:= .type "range",data:= .fields #[.int 0 s1.toks,.int j t,.int 1<|s1.toks+1]}).objs.size],_,_,H1,rfl,I2.kept (t':=s1.toks+1+1) λb o e=>aT _ e,bO7 _ ((j.toNat:Int)-1) j.toNat,?_,λb hb=> ?_,q⟩
 .show IsRangeIter _ _ (((j.toNat:Int)-1)+((0:Nat):Int)*(-1)) ((j.toNat:Int)-((0:Nat):Int)) (-1)
  have e1:((j.toNat:Int)-1)+((0:Nat):Int)*(-1)=(j.toNat:Int)-1:=ae
  have e2:(j.toNat:Int)-((0:Nat):Int)=(j.toNat:Int):=ae
  rw[e1,e2];exact hi
 .have e:b=(s1.heap.push {cls:= .type "range",data:= .fields #[.int 0 s1.toks,.int j t,.int 1<|s1.toks+1]}).objs.size:=by exists hb
  subst e;exact I2.fpOk (aG _) (I2.hok.fresh<|aG _)
theorem d06:PGet X (rIxL X.K):=by
 intro pins s σ H o i ov iv Q I ro ri h;obtain⟨p,xs,k,z,rfl,rfl,hq,he,q⟩:=h;cases ro;obtain⟨t,rfl⟩:=ri;obtain⟨its,r,pl,hz⟩:=I.list hq;obtain⟨j,h1,h2,h3,h4,h5⟩:=b64 he;obtain⟨w,ew,rw'⟩:=r.get h2;have hl:=r.length;have hn:=aX3;have fin:EP X pins σ Q w s:=⟨z,H,I,rw',q⟩
 by_cases h0:0<=k
 .have hj:k.toNat=j:=by
   rw[a02 h0 h5]at h1;exact hU h1
  exact wpAny_getItem_list pl.isList h0 ad (by rw[hj];exists ew) fin
 .have hj:(k+(its.toArray.size:Int)).toNat=j:=by
   rw[zX ad h4]at h1
   rw[bD,<-hl];exact hU h1
  exact wpAny_getItem_list_neg pl.isList ad (by rw[bD]<;>lia) ad (by rw[hj];exists ew) fin
end
end L2
namespace HT
open PySem PyProof.Rows
section
variable {prog:Program}{w:World}{A:Around}{E:Value->Shared->Prop}{s:Shared}
theorem getItem_tuple_whole {lo:Option Int}(ht:IsTup s.heap t items)(hs:s.heap.IsSliceOf sl vl vu .none)(pl:IsPart vl lo)(pu:IsPart vu hi)
  (hw:sIx items.size 0 lo=0/\sIx items.size items.size hi=items.size) (h:Q (.ref t) s):wpAny (model prog w) A (getItem (.ref t)<|.ref sl) Q E s:=by
 obtain⟨os,hos,hcs,hds⟩:=id hs;have hTs:s.TypeIs (.ref sl) "slice":=⟨os,hos,hcs⟩;unfold getItem;try with_reducible refine gH ?_
 first|refine a9 (aH ?_)|skip
 refine a9 (wpAny_sequenceKey ht.typeIs ac ?_)
 refine a9 (kH (name:=Str.ofString "__getitem__") ht.typeIs yS<|iS yS ht.typeIs entry_tuple_getitem ?_<|args_tuple_getitem _ _)
 show wpAny _ _ (Builtin.Tuple.tupleItemsOf (.ref t) >>= _) _ _ s
 refine a9 (tupleItemsOf_ ht ?_)
 refine a9 (zW hTs ?_)
 rw[aA ac]
 refine a9 (xW hs pl pu ?_)
 have hyes:(((sIx items.size 0 lo:Nat):Int)==0&&(1:Int)==1&&(sIx items.size items.size hi-sIx items.size 0 lo)==items.size)=true:=by
  rw[hw.1,hw.2];simp
 show wpAny _ _ (if(((sIx items.size 0 lo:Nat):Int)==0&&(1:Int)==1&&(sIx items.size items.size hi-sIx items.size 0 lo)==items.size)=true then _ else _) _ _ s
 rw[aA hyes];show wpAny _ _ (Builtin.Tuple.tupleIsExact (.ref t) >>= _) _ _ s;unfold Builtin.Tuple.tupleIsExact;refine a9 (a9<|zW ht.typeIs<|aH ?_);show wpAny _ _ (if(Value.type "tuple"==Value.type "tuple")=true then _ else _) _ _ s;rw[aA ac]
 refine a9 (nO ?_)
 first
  | exact aH ⟨_,rfl,aH h⟩
  | exact a9 (aH<|aH ⟨_,rfl,aH h⟩)
  | exact a9 (aH ⟨_,rfl,aH h⟩)
end
end HT
namespace L2
section
variable {X:Cx}
def rSlW (K:PySem.W.Frag):V->Option Int->Option Int->Hp->VK->Prop:=λx lo hi H Q=> ∃a xs,x= .ref a/\SqT K H a xs/\(HT.sIx xs.length 0 lo=0/\HT.sIx xs.length xs.length hi=xs.length)/\Q (.ref a) H
theorem d07:SlR X (rSlW X.K):=by
 intro pins s σ H x v vl vu lo hi sl Q I rx hs pl pu h;obtain⟨a,xs,rfl,hx,hw,q⟩:=h;cases rx;obtain⟨its,r,ht,hz⟩:=I.tuple hx;have hlen:its.toArray.size=xs.length:=by rw[bD];exact r.length.symm
 exact⟨"tuple",_,PyProof.Rows.slot_tuple_getitem.lookup,ht.typeIs,HT.getItem_tuple_whole ht hs pl pu (by rw[hlen];exact hw) ⟨.ref a,H,I,rfl,q⟩⟩
end
end L2
namespace M
section
variable {X:Cx}{K:PySem.W.Frag}{A:AS}{H:Hp}{e a b:Expr}{te ti:UE}{pos p2:Pos}{C:C0}{ρ ρ':Ev}{σ:L2.St}
def gSlT (d:D)(lo hi:Option Int)(Q:B->Prop):Prop:=match d with
 | .tup l=>Q (.pu<|.tup<|cutD l lo hi)
 | .lst l=>Q (.ow<|cutD l lo hi)
 | .rol l=>Q (.ow<|cutD l lo hi)
 | _=>False
def d08 (t:UE)(tl th:UO):UE:=λρ Q=>t ρ λb0 ρ1=>tl ρ1 λlo ρ2=>th ρ2 λhi ρ3=>gSlT b0.d lo hi λb=>Q b ρ3
theorem cQ6 (l:List D)(lo hi:Option Int)(h:HT.sIx l.length 0 lo=0/\HT.sIx l.length l.length hi=l.length):cutD l lo hi=l:=by
 unfold cutD;rw[h.1,h.2];simp
theorem aY2 {tl th:UO}{lo hi:Option Expr}(he:PU X e te)(hl:PUO X lo tl)(hu:PUO X hi th):PU X (.Subscript e (.Slice lo hi none p2) pos) (d08 te tl th):=
 gR (c08 ((cJ7.or cX3).or d07) he hl hu) λσ H Q ⟨C,ρ,Q0,I,h,k⟩=>⟨C,ρ,_,I,h,λb0 ρ1 v H1 q f s r=>by
  have I1:=(I.frz f).same s;have rr:=r.rep λa z=>I.avF f z
  refine⟨C,ρ1,_,I1,q,λl2 ρ2 H2 q2 f2 s2=> ?_⟩
  have I2:=(I1.frz f2).same s2;refine⟨C,ρ2,_,I2,q2,λh3 ρ3 H3 q3 f3 s3=> ?_⟩
  have I3:=(I2.frz f3).same s3;have s13:=s2.trans s3;have sAll:=s.trans s13;have fAll:=f.trans (f2.trans f3);have r':Rep X.K (Av C ρ3 σ) H3 b0.d v:=rr.mono (.sub s13 λa z=>f2.av (f3.av z))
  generalize b0.d=d at r' q3;cases d with
  | tup l=>
   have r2:=r';simp only[Rep]at r';obtain⟨a,vs,rfl,c,rs⟩:=r';have hlen:=rs.length
   by_cases hw:HT.sIx l.length 0 l2=0/\HT.sIx l.length l.length h3=l.length
   .refine .inr ⟨a,vs,rfl,c.imp cJ id,by rw[<-hlen];exact hw,k _ ρ3 _ _ q3 fAll sAll ?_⟩
    show Rep _ _ _ (.tup<|cutD l l2 h3) _
    rw[cQ6 l l2 h3 hw];exact r2
   .exact .inl (.inr ⟨a,vs,rfl,c.imp cJ id,by rw[<-hlen];exact hw,λp n=>k _ ρ3 _ _ q3 fAll (sAll.trans<|eB n _) (iK (λa z=>I3.avSome z) n<|rs.cut l2 h3)⟩)
  | lst l=>
   simp only[Rep]at r';obtain⟨a,vs,rfl,n0,c,rs⟩:=r';exact .inl (.inl ⟨a,vs,rfl,SqL.of c,λp n=>k _ ρ3 _ _ q3 fAll (sAll.trans<|eB n _) (gS sAll n<|rs.cut l2 h3)⟩)
  | rol l=>
   simp only[Rep]at r';obtain⟨a,vs,rfl,c,rs⟩:=r';exact .inl (.inl ⟨a,vs,rfl,c.imp cJ id,λp n=>k _ ρ3 _ _ q3 fAll (sAll.trans<|eB n _) (gS sAll n<|rs.cut l2 h3)⟩)
  | _=>exact(show False from q3).elim⟩
def d09 (i:Nat)(f:Int->Int->Int)(ti te:UE):US:=λD ρ=>mM ρ i λ_=>ti ρ λj ρ1=>mM ρ1 i λl1=> ∃k n x,j.d= .int k/\ixN l1.length k=some n/\l1[n]? =some (.int x)/\
 te ρ1 λb ρ2=>mM ρ2 i λl=> ∃y,b.d= .int y/\D.nx (ρ2.set i<|some<|.ow<|l.set n<|.int<|f x y)
theorem dF6 {op:Operator}{f:Int->Int->Int}(i:Nat)(hx:PE X (.Name x p) (a75 i))(hi:PU X ix ti)(he:PU X e te)(hp:PIp X op (ipI f))
  (ha: ∀ov iv new,augStore ix ov iv new=(do holding [new,ov,iv] (setItem ov iv new);release [new,ov,iv] [];pure .next):=by intros;rfl):PUS X (.AugAssign (.Subscript (.Name x p) ix tpos) op e pos) (d09 i f ti te):=
 sZ (dB6 hx hi d06 he hp c12 ha) λD σ H ⟨C,ρ,D0,I,h,k⟩=>by
  obtain⟨l,hl,h⟩:=lK h;obtain⟨a,vs,h1,h2,h3,h4⟩:=I.ow i l hl;refine⟨.ref a,h1,C,ρ,_,I,h,λj ρ1 w H1 q f1 s1 r1=> ?_⟩
  obtain⟨l1,hl1,kk,n,x0,ej,en,ex,q⟩:=lK q;have e1:=f1.ow hl1;rw[hl]at e1;cases e1;have I1:=(I.frz f1).same s1;obtain⟨a1,vs1,g1,g2,g3,g4⟩:=I1.ow i l hl1;rw[h1]at g1;cases g1;have rj:=r1.rep λa z=>I.avF f1 z
  rw[ej]at rj;have:=bS rj;subst this;obtain⟨v0,ev0,rv0⟩:=g4.get ex;have:=bS rv0;subst this;have hat:L2.atI vs1 kk=some (.int x0):=by unfold L2.atI;rw[<-g4.length,en];exact ev0
  refine⟨a,vs1,kk,_,rfl,rfl,SqL.of g2,hat,C,ρ1,_,I1,q,λb ρ2 w2 H2 q2 f2 s2 r2=> ?_⟩
  obtain⟨l2,hl2,y,eb,q2⟩:=lK q2;have e2:=f2.ow hl2;rw[hl1]at e2;cases e2;have I2:=(I1.frz f2).same s2;obtain⟨a2,vs2,k1,k2,k3,k4⟩:=I2.ow i l hl2;rw[h1]at k1;cases k1;have rb:=r2.rep λa z=>I1.avF f2 z
  rw[eb]at rb;have:=bS rb;subst this;exact⟨x0,y,rfl,rfl,a,vs2,kk,n,rfl,rfl,k2,by rw[<-k4.length];exact en,k.nx _ _ _ q2<|I2.write hl2 h1<|k4.set n<|show Rep _ _ _ _ _ by simp only[Rep]⟩
mutual
noncomputable def pd:D->Option PyData
 | .non=>some .none
 | .bl b=>some (.bool b)
 | .int i=>some (.int i)
 | .tup l=>(pdL l).map .tuple
 | .lst l=>(pdL l).map .list
 | .rol l=>(pdL l).map .list
 | .str s=>if PyData.canLay0 (.str s)=true then some (.str s)else none
 | .ty _=>none
 | .obj _ _ _=>none
 | .adr _=>none
 | .xob _ _ _ _=>none
noncomputable def pdL:List D->Option (List PyData)
 | []=>some []
 | d::r=>(pd d).bind λx=>(pdL r).map (x::·)
end
theorem c27 {d:D}{r:List D}{xs:List PyData}(h:pdL (d::r)=some xs): ∃x ys,xs=x::ys/\pd d=some x/\pdL r=some ys:=by
 simp only[pdL]at h;cases e:pd d with
 | none=>rw[e]at h;cases h
 | some x=>
  rw[e]at h;cases e2:pdL r with
  | none=>rw[e2]at h;cases h
  | some ys=>rw[e2]at h;cases h;exact⟨x,ys,rfl,rfl,rfl⟩
theorem tO {α β:Type}{o:Option α}{f:α->β}{y:β}(h:o.map f=some y): ∃x,o=some x/\y=f x:=by
 cases o with
 | none=>cases h
 | some x=>cases h;exact⟨x,rfl,rfl⟩
mutual
theorem cE4: ∀(d:D) {x:PyData},pd d=some x->x.canLay0=true
 | .non,x,h=>by simp only[pd]at h;cases h;rfl
 | .bl b,x,h=>by simp only[pd]at h;cases h;rfl
 | .int i,x,h=>by simp only[pd]at h;cases h;rfl
 | .tup l,x,h=>by simp only[pd]at h;obtain⟨xs,e,rfl⟩:=tO h;simp only[PyData.canLay0];exact b68 l e
 | .lst l,x,h=>by simp only[pd]at h;obtain⟨xs,e,rfl⟩:=tO h;simp only[PyData.canLay0];exact b68 l e
 | .rol l,x,h=>by simp only[pd]at h;obtain⟨xs,e,rfl⟩:=tO h;simp only[PyData.canLay0];exact b68 l e
 | .str s,x,h=>by simp only[pd]at h;split at h;(rename_i c;cases h;exact c);cases h
 | .ty _,x,h=>by simp only[pd]at h;cases h
 | .obj _ _ _,x,h=>by simp only[pd]at h;cases h
 | .adr _,x,h=>by simp only[pd]at h;cases h
 | .xob _ _ _ _,x,h=>by simp only[pd]at h;cases h
theorem b68: ∀(l:List D) {xs:List PyData},pdL l=some xs->PyData.canLayAll0 xs=true
 | [],xs,h=>by simp only[pdL]at h;cases h;rfl
 | d::r,xs,h=>by
  obtain⟨x,ys,rfl,e1,e2⟩:=c27 h;simp only[PyData.canLayAll0,cZ];exact⟨cE4 d e1,b68 r e2⟩
end
section
variable {pins:List (Addr×Obj)}{s:Shared}
mutual
theorem aY3 (I:Inv X pins σ H s): ∀(d:D) {x:PyData} {v:V} {u:Value},pd d=some x->Rep X.K A H d v->RelV v u-> ∃as,Reads s.heap u x as
 | .non,x,v,u,h,r,q=>by simp only[pd]at h;cases h;simp only[Rep]at r;subst r;cases q;exact⟨_,.none⟩
 | .bl b,x,v,u,h,r,q=>by simp only[pd]at h;cases h;simp only[Rep]at r;subst r;cases q;exact⟨_,.bool b⟩
 | .int i,x,v,u,h,r,q=>by simp only[pd]at h;cases h;simp only[Rep]at r;subst r;obtain⟨t,rfl⟩:=q;exact⟨_,.int i t⟩
 | .tup l,x,v,u,h,r,q=>by
  simp only[pd]at h;obtain⟨xs,e,rfl⟩:=tO h;simp only[Rep]at r;obtain⟨a,vs,rfl,c,rs⟩:=r;cases q;obtain⟨its,rv,⟨o,ho,hc,n,hd⟩,hz⟩:=I.tuple (c.imp cJ id);obtain⟨as,ra⟩:=a08 I l e rs rv;exact⟨_,.tuple ho hc hd<|by exists ra⟩
 | .lst l,x,v,u,h,r,q=>by
  simp only[pd]at h;obtain⟨xs,e,rfl⟩:=tO h;simp only[Rep]at r;obtain⟨a,vs,rfl,n0,c,rs⟩:=r;cases q;obtain⟨its,rv,p,hz⟩:=I.list (SqL.of c);obtain⟨o,ho,hc,n,hd⟩:=p.isList;obtain⟨as,ra⟩:=a08 I l e rs rv;exact⟨_,.list ho hc hd<|by exists ra⟩
 | .rol l,x,v,u,h,r,q=>by
  simp only[pd]at h;obtain⟨xs,e,rfl⟩:=tO h;simp only[Rep]at r;obtain⟨a,vs,rfl,c,rs⟩:=r;cases q;obtain⟨its,rv,p,hz⟩:=I.list (c.imp cJ id);obtain⟨o,ho,hc,n,hd⟩:=p.isList;obtain⟨as,ra⟩:=a08 I l e rs rv;exact⟨_,.list ho hc hd<|by exists ra⟩
 | .str i,x,v,u,h,r,q=>by simp only[pd]at h;split at h<;>cases h;simp only[Rep]at r;subst r;obtain⟨t,rfl⟩:=q;exact⟨_,.str i t⟩
 | .ty _,x,v,u,h,r,q=>by simp only[pd]at h;cases h
 | .obj _ _ _,x,v,u,h,r,q=>by simp only[pd]at h;cases h
 | .adr _,x,v,u,h,r,q=>by simp only[pd]at h;cases h
 | .xob _ _ _ _,x,v,u,h,r,q=>by simp only[pd]at h;cases h
theorem a08 (I:Inv X pins σ H s): ∀(l:List D) {xs:List PyData} {vs:List V} {us:List Value},pdL l=some xs->bQ X.K A H l vs->Vals vs us-> ∃as,ReadsAll s.heap us xs as
 | [],xs,vs,us,h,r,q=>by simp only[pdL]at h;cases h;have:=r.unnil;subst this;cases q;exact⟨_,.nil⟩
 | d::l,xs,vs,us,h,r,q=>by
  obtain⟨x,ys,rfl,e1,e2⟩:=c27 h;obtain⟨v,vr,rfl,r1,rs⟩:=r.uncons;cases q with
  | cons q1 q2=>
   obtain⟨as,h1⟩:=aY3 I d e1 r1 q1;obtain⟨bs,h2⟩:=a08 I l e2 rs q2;exact⟨_,.cons h1 h2⟩
end
end
def dF7 (neg:Bool)(d e:D)(Q:B->Prop):Prop:= ∃p q,pd d=some p/\pd e=some q/\p.depth<=60/\Q (.pu<|.bl<|neg ^^ p.eqv q)
theorem d10 (hu:X.A.units+64<cLine):OpU X (compareOp .Eq) (dF7 false):=by
 intro A H d e v w Q0 Q hA r1 r2 g k;obtain⟨p,q,e1,e2,hd,g⟩:=g;refine⟨λx y H Q=> ∃(A:AS) (d e:D) (p q:PyData),Rep X.K A H d x/\Rep X.K A H e y/\pd d=some p/\pd e=some q/\p.depth<=60/\Q (.bl<|p.eqv q) H,?_,A,d,e,p,q,r1,r2,e1,e2,hd,k _ _ H g (.refl _) (by rw[nI];exact nQ)⟩
 rintro pins s σ H x y v u Q I rx ry ⟨A,d,e,p,q,r1,r2,e1,e2,hd,h⟩;obtain⟨as,ra⟩:=aY3 I d e1 r1 rx;obtain⟨bs,rb⟩:=aY3 I e e2 r2 ry;exact SeqAt.compareEq_reads ra rb (cE4 d e1) (cE4 e e2) ad ⟨.bl _,H,I,rfl,h⟩
def SqA (K:PySem.W.Frag)(A:AS)(H:Hp)(T:Bool)(a:Addr)(vs:List V):Prop:=match T with
 | false=>(¬A a/\Rd H a (.lst vs))\/KL K a vs
 | true=>(¬A a/\Rd H a (.tup vs))\/KT K a vs
theorem SqA.sqv {a':Addr}{vs:List V}{A':AS}{H':Hp}(c:SqA K A H T a' vs)(P:mC A H A' H'):SqV K T H' a' vs:=by
 cases T<;>(rcases c with⟨n,c⟩|c;exact .inl (Rd.pres P n c).2;exact .inr c)
theorem mC.self:mC A H A H:=λ_ _ n e=>⟨n,e⟩
theorem Rep.sq {d:D}{v:V}{l:List D}(r:Rep K A H d v)(h:oY d=some l): ∃T a vs,v= .ref a/\SqA K A H T a vs/\bQ K A H l vs:=by
 cases d with
 | tup l'=>cases h;simp only[Rep]at r;obtain⟨a,vs,e,c,r⟩:=r;exact⟨true,a,vs,e,c,r⟩
 | lst l'=>cases h;simp only[Rep]at r;obtain⟨a,vs,e,n,c,r⟩:=r;exact⟨false,a,vs,e,.inl ⟨n,.inl c⟩,r⟩
 | rol l'=>cases h;simp only[Rep]at r;obtain⟨a,vs,e,c,r⟩:=r;exact⟨false,a,vs,e,c,r⟩
 | _=>cases h
theorem bQ.at {l:List D}{vs:List V}(r:bQ K A H l vs)(hi:i<l.length): ∃x,vs[i]? =some x/\Rep K A H (l.getD i .non) x:=r.get (by rw[aR,aU hi];rfl)
theorem d11 {vs ws:List V}{l m:List D}(c1:SqA K A H T1 l1 vs)(c2:SqA K A H T2 l2 ws)(r1:bQ K A H l vs)(r2:bQ K A H m ws) :
  c18 K A H (Itz K T1 T2 l1 l2) (min l.length m.length) (λi=> .tup [l.getD i .non,m.getD i .non]):=by
 have k1:=r1.length;have k2:=r2.length;refine⟨λA' H' i P hi=> ?_,λA' H' i x H'' P hA hi y=> ?_,λA' H' P=>⟨vs,ws,c1.sqv P,c2.sqv P,ad⟩⟩
 .obtain⟨x,e1,_⟩:=r1.at (i:=i) ad
  obtain⟨y,e2,_⟩:=r2.at (i:=i) ad
  exact⟨vs,ws,x,y,c1.sqv P,c2.sqv P,e1,e2⟩
 .obtain⟨x1,e1,q1⟩:=r1.at (i:=i) ad
  obtain⟨y1,e2,q2⟩:=r2.at (i:=i) ad
  obtain⟨T,a,b,rfl,hT,rfl,ha,hb⟩:=y;have ea:=ha vs (c1.sqv P);have eb:=hb ws (c2.sqv P);rw[e1]at ea;cases ea;rw[e2]at eb;cases eb;exact⟨eB hT _,iK hA hT<|.cons (q1.mono P)<|.cons (q2.mono P) .nil⟩
theorem cQ7 {vs:List V}{l:List D}(c1:SqA K A H T l1 vs)(r1:bQ K A H l vs):c18 K A H (Ite K T l1) l.length (λi=> .tup [.int (i:Int),l.getD i .non]):=by
 have k1:=r1.length;refine⟨λA' H' i P hi=> ?_,λA' H' i x H'' P hA hi y=> ?_,λA' H' P=>⟨vs,c1.sqv P,k1.symm⟩⟩
 .obtain⟨x,e1,_⟩:=r1.at hi;exact⟨vs,x,c1.sqv P,e1⟩
 .obtain⟨x1,e1,q1⟩:=r1.at hi;obtain⟨T,a,rfl,hT,rfl,ha⟩:=y;have ea:=ha vs (c1.sqv P);rw[e1]at ea;cases ea;exact⟨eB hT _,iK hA hT<|.cons (show Rep _ _ _ _ _ by simp only[Rep])<|.cons (q1.mono P) .nil⟩
def d12 (ta:UA):UI:=λρ Q=>ta ρ λds ρ1=>match ds with
 | [d,e]=>(match oY d,oY e with
  | some l,some m=>Q (min l.length m.length) (λi=> .tup [l.getD i .non,m.getD i .non]) ρ1
  | _,_=>False)
 | _=>False
theorem cE5 {ta:UA}(hg:Gl X "zip")(hm:X.mg "zip"=none)(ha:PUA X [a,b] ta)(hs:↥(starEach [a,b] X.env=[(false,eval a X.env),(false,eval b X.env)]))(hs2:↥(starEach [b] X.env=[(false,eval b X.env)])) :
  PUI X (.Tuple elts kt tp) (.Call (.Name "zip" p) [a,b] [] pos) (d12 ta):=
 b19 (pi_zip hg hm ha hs hs2) λσ H R ⟨C,ρ,Q0,I,h,k⟩=>⟨C,ρ,_,I,h,λds ρ1 vs H1 q f s r=>by
  split at q
  .rename_i d e
   obtain⟨v,vr,rfl,rv,rr⟩:=r.uncons;obtain⟨w,wr,rfl,rw',rr'⟩:=rr.uncons;have:=rr'.unnil;subst this;split at q
   .rename_i l m e1 e2
    obtain⟨T1,a1,us,rfl,c1,s1⟩:=rv.sq e1;obtain⟨T2,a2,ws,rfl,c2,s2⟩:=rw'.sq e2;exact⟨a1,a2,T1,T2,us,ws,rfl,c1.sqv .self,c2.sqv .self,k _ _ ρ1 _ H1 q f s<|d11 c1 c2 s1 s2⟩
   .exact q.elim
  .exact q.elim⟩
def cK6 (ta:UA):UI:=λρ Q=>ta ρ λds ρ1=>match ds with
 | [d]=>(match oY d with
  | some l=>Q l.length (λi=> .tup [.int (i:Int),l.getD i .non]) ρ1
  | none=>False)
 | _=>False
theorem cK7 {ta:UA}(hg:Gl X "enumerate")(hm:X.mg "enumerate"=none)(ha:PUA X [a] ta)(hs:↥(starEach [a] X.env=[(false,eval a X.env)])) :
  PUI X (.Tuple elts kt tp) (.Call (.Name "enumerate" p) [a] [] pos) (cK6 ta):=
 b19 (dF4 hg hm ha hs) λσ H R ⟨C,ρ,Q0,I,h,k⟩=>⟨C,ρ,_,I,h,λds ρ1 vs H1 q f s r=>by
  split at q
  .rename_i d
   obtain⟨v,vr,rfl,rv,rr⟩:=r.uncons;have:=rr.unnil;subst this;split at q
   .rename_i l e1
    obtain⟨T1,a1,us,rfl,c1,s1⟩:=rv.sq e1;exact⟨a1,T1,us,rfl,c1.sqv .self,k _ _ ρ1 _ H1 q f s<|cQ7 c1 s1⟩
   .exact q.elim
  .exact q.elim⟩
def cK8 (ta:UA):UI:=λρ Q=>ta ρ λds ρ1=>match ds with
 | [.int j]=>(-(2^31)<=j/\j<2^31)/\Q j.toNat (λk=> .int ((j.toNat:Int)-1-k)) ρ1
 | _=>False
theorem cK9 {ta:UA}{q2 pos2:Pos}(hg:Gl X "reversed")(hm:X.mg "reversed"=none)(hg2:Gl X "range")(hm2:X.mg "range"=none)(ha:PUA X [a] ta)(hs:↥(starEach [a] X.env=[(false,eval a X.env)]))
  (hs2:↥(starEach [.Call (.Name "range" q2) [a] [] pos2] X.env=[(false,eval (.Call (.Name "range" q2) [a] [] pos2) X.env)])) :
  PUI X tg (.Call (.Name "reversed" p) [.Call (.Name "range" q2) [a] [] pos2] [] pos) (cK8 ta):=
 b19 (c26 hg hm hg2 hm2 ha hs hs2) λσ H R ⟨C,ρ,Q0,I,h,k⟩=>⟨C,ρ,_,I,h,λds ρ1 vs H1 q f s r=>by
  split at q
  .rename_i j
   obtain⟨v,vr,rfl,rv,rr⟩:=r.uncons;have:=rr.unnil;subst this;have:=bS rv;subst this;obtain⟨⟨h1,h2⟩,q⟩:=q;exact⟨j,rfl,h1,h2,k _ _ ρ1 _ H1 q f s bO9⟩
  .exact q.elim⟩
end
end M
end
section
namespace L2
theorem aY4:fillsNumberSlot (.type "tuple") "mul"=pure false:=
 PySem.fillsNumberSlot_seq (id:="tuple.__mul__") (r:=some (.builtin "tuple.__rmul__")) PySem.F.slot_tuple_mul.lookup af PySem.F.slot_tuple_rmul.lookup af
theorem bU4:seqRepeat? (.type "tuple")=pure (some<|.builtin "tuple.__mul__"):=by
 unfold seqRepeat?;rw[PySem.seqSlot_of (T:="tuple") (name:="__mul__") (id:="tuple.__mul__") PySem.F.slot_tuple_mul.lookup af,PySem.seqSlot_of (T:="tuple") (name:="__rmul__") (id:="tuple.__rmul__") PySem.F.slot_tuple_rmul.lookup af]
 rfl
theorem bA5 (a:Int)(t:Tok)(l:Addr)(items:Array Value)(n:Nat)(dd:Option Addr)(sl:Array (Option Value)) :
  Meets (Builtin.«int.__rmul__» ⟨[.int a t,.ref l],[]⟩) (λ_ R s=>s.heap.get? l=some {cls:= .type "tuple",dict:=dd,data:= .seq items n,slots:=sl}/\R (.ok<|.ret Value.notImplemented) s):=
 .of_wp λprog w A R s h=>by obtain⟨hp,g,d,tk,os⟩:=s;obtain⟨hl,h⟩:=h;wp_walk using jO hl;exact⟨_,rfl,h⟩
theorem d13 (l:Addr)(items:Array Value)(n:Nat)(dd:Option Addr)(sl:Array (Option Value))(u:Tok) :
  Meets (Builtin.«tuple.__mul__» ⟨[.ref l,.int 1 u],[]⟩) (λ_ R s=>s.heap.get? l=some {cls:= .type "tuple",dict:=dd,data:= .seq items n,slots:=sl}/\R (.ok<|.ret<|.ref l) s):=
 .of_wp λprog w A R s h=>by
  obtain⟨hp,g,d,tk,os⟩:=s;obtain⟨hl,h⟩:=h;have f1:=aN1
  wp_walk using jO hl
  exact⟨_,rfl,h⟩
theorem d14 (l:Addr)(items:Array Value)(n:Nat)(dd:Option Addr)(sl:Array (Option Value))(k:Int)(u:Tok)(h1: ¬(k< -(2^63)||k≥2^63)=true)(hne: ¬(items.isEmpty||k==1)=true)(h0:(k<=0||items.isEmpty)=true) :
  Meets (Builtin.«tuple.__mul__» ⟨[.ref l,.int k u],[]⟩) (λ_ R s=>s.heap.get? l=some {cls:= .type "tuple",dict:=dd,data:= .seq items n,slots:=sl}/\R (.ok<|.ret<|.ref s.heap.objs.size) {s with heap:=s.heap.push {cls:= .type "tuple",data:= .seq #[]}}):=
 .of_wp λprog w A R s h=>by
  obtain⟨hp,g,d,tk,os⟩:=s;obtain⟨hl,h⟩:=h;have f1:=aN1
  wp_walk using jO hl
  rw[a8 h1]
  wp_walk using jO hl
  exact⟨_,rfl,h⟩
theorem d15 (l:Addr)(items:Array Value)(n:Nat)(dd:Option Addr)(sl:Array (Option Value))(k:Int)(u:Tok)(h1: ¬(k< -(2^63)||k≥2^63)=true)(hne: ¬(items.isEmpty||k==1)=true)(h0: ¬(k<=0||items.isEmpty)=true)
  (h2: ¬items.size*k>(2^63-1)/8) (h3: ¬Builtin.Tuple.tupleTooMany (items.size*k)=true) (hz:(foldl (λx1 x2=>x1++x2) #[] (replicate k.toNat items)).size<=sizeLine) :
  Meets (Builtin.«tuple.__mul__» ⟨[.ref l,.int k u],[]⟩) (λ_ R s=>s.heap.get? l=some {cls:= .type "tuple",dict:=dd,data:= .seq items n,slots:=sl}/\R (.ok<|.ret<|.ref s.heap.objs.size) {s with heap:=s.heap.push {cls:= .type "tuple",data:= .seq (foldl (λx1 x2=>x1++x2) #[] (replicate k.toNat items))}}):=
 .of_wp λprog w A R s h=>by
  obtain⟨hp,g,d,tk,os⟩:=s;obtain⟨hl,h⟩:=h;have f1:=aN1
  wp_walk using jO hl
  rw[a8 h1]
  wp_walk using jO hl
  rw[a8 h2]
  wp_walk using jO hl
  all_goals first
   | exact⟨_,rfl,h⟩
   | (refine wpAny_ite_false (fM<|Nat.not_lt.mpr hz) ?_
      wp_walk using jO hl
      exact⟨_,rfl,h⟩)
section
variable {X:Cx}
theorem dF8:OpR X (binaryOp .Mult) (λx y H Q=> ∃a k xs,x= .ref a/\y= .int k/\SqT X.K H a xs/\xs≠[]/\ -(2^63)<=k/\k<2^63/\xs.length*k.toNat<=sizeLine/\(k=1->Q (.ref a) H)/\(k≠1-> ∀p,H p=none->Q (.ref p) (upd H p<|.tup (replicate k.toNat xs).flatten))):=by
 intro pins s σ H x y v u Q I rx ry h;obtain⟨a,k,xs,rfl,rfl,ha,hn,h1,h2,hz,q1,q2⟩:=h;cases rx;obtain⟨t,rfl⟩:=ry;obtain⟨its,r,p1,_⟩:=I.tuple ha;have hl:=r.length;obtain⟨⟨cls,dd,data,sl⟩,ho,hc,n,hd⟩:=id p1;simp only at hc hd;subst hc hd;have ne:its≠[]:=λz=>hn (u4.mp (by rw[hl,z];rfl))
 have ne2:its.toArray.isEmpty=false:=by cases its with
  | nil=>exact absurd rfl ne
  | cons b r'=>rfl
 have hb: ¬(decide (k< -(2^63))||decide (k≥2^63))=true:=by simp;omega
 have f0: ∀m:Nat,foldl (λx1 x2=>x1++x2) #[] (replicate m its.toArray)=(replicate m its).flatten.toArray:=λm=>by
  have:=foldl_rep its m [];rw[nF]at this;exact this
 refine wpAny_binaryOp_repeat_ref (T:="tuple") (U:="int") ac ⟨_,ho,rfl⟩ (λs'=>uI s' k t) aY4 PySem.F.fills_int_mul PySem.F.slot_int_rmul bU4 PySem.F.slot_int_index.lookup
  (kQ PySem.F.slot_int_rmul (uI s k t) PySem.F.entry_int_rmul (PySem.F.args_int_rmul_2 _ _) (bA5 k t a its.toArray n dd sl) ⟨ho,rfl,⟨_,ho,rfl⟩,?_⟩)
 by_cases k1:k=1
 .subst k1;exact kQ aK6 ⟨_,ho,rfl⟩ aK0 (aJ7 _ _) (d13 a its.toArray n dd sl t) ⟨ho,.ref a,H,I,rfl,q1 rfl⟩
 have hne: ¬(its.toArray.isEmpty||k==1)=true:=by rw[ne2];exists k1
 by_cases k0:k<=0
 .have e0:k.toNat=0:=aa
  refine kQ aK6 ⟨_,ho,rfl⟩ aK0 (aJ7 _ _) (d14 a its.toArray n dd sl k t hb hne<|by simp[k0]) ⟨ho,?_⟩
  have q:=q2 k1;rw[e0]at q;exact⟨.ref _,_,I.laid (t':=s.toks) (o:= .tup []) (λb ob q=>aT _ q) (aG _) ⟨eW _,_,.nil,qC _ _⟩,rfl,q _ I.fresh⟩
 .have ek:k=(k.toNat:Int):=aa
  have em:(its.toArray.size:Int)*k=((its.toArray.size*k.toNat:Nat):Int):=by rw[aN4,<-ek]
  have hs:its.toArray.size*k.toNat<=sizeLine:=by rw[bD,<-hl];exact hz
  have hcap:(sizeLine:Nat)<=(2^63-1)/8:=ac
  refine kQ aK6 ⟨_,ho,rfl⟩ aK0 (aJ7 _ _) (d15 a its.toArray n dd sl k t hb hne (by rw[ne2];simp;omega) (by rw[em];omega) (by rw[em];unfold Builtin.Tuple.tupleTooMany;rw[gE];omega) (by rw[f0,bD,bT8,mul_comm];exists hs)) ⟨ho,?_⟩
  rw[f0];exact⟨.ref _,_,I.laid (t':=s.toks) (o:= .tup (replicate k.toNat xs).flatten) (λb ob q=>aT _ q) (aG _) ⟨by rw[bT8,mul_comm];exact hz,_,r.rep k.toNat,qC _ _⟩,rfl,q2 k1 _ I.fresh⟩
end
theorem d16:typeLookup (.type "tuple") "__reversed__"=pure none:=by rw[zP,yY];kernel_rfl
theorem sub_tuple_dict:isSubtype (.type "tuple") (.type "dict")=pure false:=by rw[pV];kernel_rfl
theorem bP0:Manifest.owners.lookup (String.ofList ['d','e','s','r','e','v','e','r'].reverse)=some Manifest.sig_reversed:=by kernel_rfl
theorem mP:Slot "reversed" "__next__" "reversed.__next__":=
 .of (owner:="reversed") (n:="__next__") (by rw[zP,yY];kernel_rfl) af af af
  (by first|exact .inl af|exact .inr af) (by rw[pV];kernel_rfl)
theorem a88:entryFor table "reversed.__next__"=some Builtin.«reversed.__next__» :=entryFor_of_tree (by kernel_rfl)
theorem a58 (a:Value):argsOk "reversed.__next__" ⟨[a],[]⟩:=by
 unfold argsOk;rw[signature?_of (id:="reversed.__next__") (n:=['_','_','t','x','e','n','_','_']) (o:=['d','e','s','r','e','v','e','r']) (by kernel_rfl) bP0];kernel_rfl
theorem aH3:Slot "reversed" "__iter__" "reversed.__iter__":=
 .of (owner:="reversed") (n:="__iter__") (by rw[zP,yY];kernel_rfl) af af af
  (by first|exact .inl af|exact .inr af) (by rw[pV];kernel_rfl)
theorem b42 (a:Value):argsOk "reversed.__iter__" ⟨[a],[]⟩:=by
 unfold argsOk;rw[signature?_of (id:="reversed.__iter__") (n:=['_','_','r','e','t','i','_','_']) (o:=['d','e','s','r','e','v','e','r']) (by kernel_rfl) bP0];kernel_rfl
theorem bA6:entryFor table "reversed.__iter__"=some Builtin.«dict_keyiterator.__iter__» :=
 entryFor_alias (id':="dict_keyiterator.__iter__") (by kernel_rfl) (by first|rfl|decide +kernel| (unfold String.splitOn;simp +decide [String.splitOnAux])) af (by kernel_rfl)
theorem bJ8:Slot "reversed" "__init__" "object.__init__":=
 .of (owner:="object") (n:="__init__") (by rw[zP,yY];kernel_rfl) af af af
  (by first|exact .inl af|exact .inr af) (by rw[pV];kernel_rfl)
theorem cE6:TypeCalled "reversed" "reversed.__new__" "object.__init__":=
 ⟨af,af,⟨_,_,PySem.F.mro_reversed⟩,PySem.F.made_reversed,af,by rw[pV];kernel_rfl,bJ8⟩
theorem dF9 (l:Addr)(items:Array Value)(hfit:(items.size:Int)<2^63) :
  Meets (Builtin.«reversed.__new__» ⟨[.type "reversed",.ref l],[]⟩) (λ_ R s=>s.heap.IsTuple l items/\R (.ok<|.ret<|.ref s.heap.objs.size) {s with heap:=s.heap.push {cls:= .type "reversed",data:= .fields #[.ref l,rawInt<|(items.size:Int)-1]},toks:=s.toks+1+1}):=
 .of_wp λprog w A R s h=>by
  obtain⟨hp,g,d,tk,os⟩:=s;obtain⟨ht,h⟩:=h;obtain⟨⟨c,dct,dt,sl⟩,hl,hc,n,hd⟩:=id ht
  replace hc:c= .type "tuple":=hc
  replace hd:dt= .seq items n:=hd
  subst hc hd;have f1:=PySem.F.sub_reversed_self;have f2:=d16;have f4:=PySem.F.slot_tuple_getitem.lookup;have f5:=sub_tuple_dict;have e1:IsTup (Shared.heap ⟨hp,g,d,tk,os⟩) l items:=ht
  wp_walk using jO hl,PyProof.Rows.len_tuple e1 hfit
  exact⟨_,rfl,h⟩
def uN (h:Heap)(a l:Addr)(i:Int):Prop:= ∃o,h.get? a=some o/\o.cls= .type "reversed"/\o.data= .fields #[.ref l,rawInt i]
theorem uN.at {i:Int}(x:uN h a l i)(e: ∀o,h.get? a=some o->h'.get? a=some o):uN h' a l i:=let ⟨o,ho,r⟩:=x;⟨o,e _ ho,r⟩
section
variable {prog:Program}{w:World}{A:Around}{E:Value->Shared->Prop}{s:Shared}
theorem uN.typeIs {i:Int}(x:uN s.heap a l i):s.TypeIs (.ref a) "reversed":=let ⟨o,ho,hc,_⟩:=x;⟨o,ho,hc⟩
theorem d17 (hl:s.heap.IsTuple l items)(hfit:(items.size:Int)<2^63)
  (h:Q (.ref s.heap.objs.size) {s with heap:=s.heap.push {cls:= .type "reversed",data:= .fields #[.ref l,rawInt<|(items.size:Int)-1]},toks:=s.toks+1+1}) :
  wpAny (model prog w) A (call (.type "reversed") [.ref l]) Q E s:=
 callType_new cE6 ac (PySem.F.typeCall_reversed_1 _) (PySem.F.newCall_reversed_1 _) (λobj=>PySem.F.args_object_init_2 obj _) PySem.F.entry_reversed_new (dF9 l items hfit) ⟨hl,⟨_,bZ _ rfl,rfl⟩,h⟩
theorem bA7 {i:Int}(hit:uN s.heap it l i)(h:Q (.ref it) s):wpAny (model prog w) A (pyIter<|.ref it) Q E s:=by
 refine wpAny_pyIter_slot hit.typeIs aH3 (iS aH3 hit.typeIs bA6 ?_<|b42 _)
 show wpAny _ _ (ret<|.ref it) _ _ s
 exact aH ⟨_,rfl,"reversed",_,hit.typeIs,mP.lookup,h⟩
theorem d18 {x:Value}{Q:Option Value->Shared->Prop}(hit:uN s.heap it l (i:Int))(hl:s.heap.IsTuple l items)(hx:items[i]? =some x)(hfit:(i:Int)<2^63)
  (hQ: ∀h' tk,uN h' it l ((i:Int)-1)->SameBut it s.heap h'->Q (some x) {s with heap:=h',toks:=tk}):wpAny (model prog w) A (pyNext<|.ref it) Q E s:=by
 obtain⟨o,ho,hc,hd⟩:=id hit;have hlt:i<items.size:=(Array.getElem?_eq_some_iff.mp hx).1;have hi:seqIndex? (i:Int) items.size=some i:=by
  unfold seqIndex?;simp
  lia
 have tl:s.TypeIs (.ref l) "tuple":=hl.typeIs;unfold pyNext;refine a9 (nK (kH (name:=Str.ofString "__next__") hit.typeIs mP
  (iS mP hit.typeIs a88 ?_<|a58 _)))
 unfold Builtin.«reversed.__next__»;refine a9 (jR (a:=(Value.ref it,[])) rfl ?_);try right
 refine a9 (cP ho hd (x:= .ref l) rfl ?_)
 refine a9 (cP ho hd (x:=rawInt (i:Int)) rfl ?_)
 show wpAny _ _ (if(i:Int)<0 then _ else _) _ _ s
 rw[a8 ad]
 try right
 refine a9 (wpAny_specialOf tl PySem.F.slot_tuple_getitem.lookup ?_)
 try right
 rw[a8 ae]
 refine a9 (wpAny_mkInt ?_)
 have ht:IsTup s.heap l items:=hl;refine a9 (nK<|PyProof.Rows.getItem_tuple (s:={s with toks:=s.toks+1}) ht ad hfit hi hx ?_)
 try right
 refine a9 (cP ho hd (x:=rawInt (i:Int)) rfl ?_)
 show wpAny _ _ (setField (.ref it) 1 (rawInt<|(i:Int)-1) >>= _) _ _ _
 refine a9 (uB ho hd ae ?_)
 refine aH ⟨x,rfl,aH<|hQ _ _ ?_<|u6 ..⟩
 exact⟨_,pG _ ho<|aK8<|pN hd _,(Obj.cls_mapFields ..).trans hc,by
  rw[pN hd];simp⟩
theorem dG0 {it l:Addr}{Q:Option Value->Shared->Prop}(hh:A.handled=none)(hit:uN s.heap it l (-1))
  (hQ: ∀h',ExtBut it s.heap h'->Q none {s with heap:=h'}):wpAny (model prog w) A (pyNext<|.ref it) Q E s:=by
 obtain⟨o,ho,hc,hd⟩:=id hit;unfold pyNext;refine a9 (nK (kH (name:=Str.ofString "__next__") hit.typeIs mP
  (iS mP hit.typeIs a88 ?_<|a58 _)))
 unfold Builtin.«reversed.__next__»;refine a9 (jR (a:=(Value.ref it,[])) rfl ?_);try right
 refine a9 (cP ho hd (x:= .ref l) rfl ?_)
 refine a9 (cP ho hd (x:=rawInt (-1)) rfl ?_)
 show wpAny _ _ (if(-1:Int)<0 then _ else _) _ _ s
 rw[aA ac]
 refine a9 (nO ?_)
 refine a9 ?_
 show wpAny _ _ (setField (.ref it) 1 (rawInt<|-1) >>= λ_=>setField (.ref it) 0 .none) _ _ s
 refine a9 (uB ho hd ae ?_)
 refine uB (pG _ ho<|aK8<|pN hd _) (pN hd _) ae ?_
 first
 | show wpAny _ _ (newExc (.type "StopIteration") [] >>= _) _ _ _
 | (refine a9 ?_;show wpAny _ _ (newExc (.type "StopIteration") [] >>= _) _ _ _)
 refine a9 ?_
 simp only[newExc,newTuple];refine a9 (iR ?_<|by size_fits)
 refine a9 (m:=firstArgMember _ _) (jR (a:=Value.none) (by first|rfl| (simp only[firstArgMember];rfl)) ?_)
 refine iR ?_ (by size_fits)
 simp only[raiseNew];refine a9 (wpAny_handled ?_)
 first|rw[show A.in1.handled=none from hh]|rw[hh]
 refine a9 (aH<|wpAny_throw ?_)
 refine a9 (wpAny_isInstance (T:="StopIteration") (b:=true) ⟨_,bZ _ rfl,rfl⟩ isSubtype_stop ?_)
 refine aH (hQ _ ?_)
 exact((((u6 ..).trans<|u6 ..).extBut.push _).push _)
end
nonrec def Itv (K:PySem.W.Frag)(l:Addr)(n:Nat):It where
 go:=λi H=>i<n/\ ∃xs,SqT K H l xs/\xs.length=n
 yld:=λi H v H'=>H'=H/\ ∀xs,SqT K H l xs->xs[n-1-i]? =some v
 stop:=λi H=>i=n
theorem d19 (n:Nat)(hz:n<=sizeLine):c02 P w K tg (Itv K l n) [it] it (λi h=>uN h it l ((n:Int)-1-(i:Int))) where
 mem:=ae
 obj:=λi h st b hb=>by
  have e:b=it:=by exists hb
  subst e;obtain⟨o,ho,_,hd⟩:=st;exact⟨o,ho,λv z=>by rw[hd]at z;cases z⟩
 keep:=λi h h' st k=>st.at λo e=>k it ae _ e
 item:=by
  intro X hP hw hK hc i pins s σ H E I hf st hg;subst hP hw hK;obtain⟨f0,f1,f2,f3,f4,f5⟩:=hf it ae
  obtain⟨hi,xs,hq,hl⟩:=hg;obtain⟨its,r,p,_⟩:=I.tuple hq;have hlen:=r.length;have hx:xs[n-1-i]? =some (xs[n-1-i]'ad):=aU ad
  obtain⟨u1,hu1,ru1⟩:=r.get hx;have e1:(n:Int)-1-(i:Int)=((n-1-i:Nat):Int):=ad
  have st':=st;rw[e1]at st';have big:(sizeLine:Int)<2^63:=ac
  refine d18 (items:=its.toArray) (x:=u1) st' p (by exists hu1) ad λh' tk hr m=> ?_
  have I1:Inv X pins σ H {s with heap:=h',toks:=tk}:=I.turned (λb o hb e=>m.extBut _ _ (by exists hb) e) f0 f1 f3 f4 f5
  have e2:((n-1-i:Nat):Int)-1=(n:Int)-1-((i+1:Nat):Int):=ad
  rw[e2]at hr;obtain⟨o,ho,hoc,hod⟩:=id hr;exact⟨_,rfl,c03 (s:={s with heap:=h',toks:=tk}) (n:="reversed") ho hoc hod ac ⟨xs[n-1-i]'ad,H,I1,ru1,⟨rfl,λys hy=>by rw[I.tuple_inj hy hq];exact hx⟩,hr,λb hb=>(hf b hb).1⟩⟩
 done:=by
  intro X hP hw hK hc i pins s σ H E I hf st hg;subst hP hw hK;obtain⟨f0,f1,f2,f3,f4,f5⟩:=hf it ae
  have hg':i=n:=hg;have st':=st;rw[hg',show(n:Int)-1-(n:Int)= -1 by lia]at st'
  exact dG0 (I.ok.hd hc) st' λh' eb=>⟨rfl,I.turned (t':=s.toks) (λb o hb e=>eb b o hb e) f0 f1 f3 f4 f5⟩
 self:=λ_ _ _ _ _ st h=>bA7 st h
section
variable {X:Cx}{tg:Expr}
def iRevT (K:PySem.W.Frag)(ta:TA):TI:=λσ H R=>ta σ H λvs H1=> ∃l xs,vs=[.ref l]/\SqT K H1 l xs/\R (Itv K l xs.length) H1
theorem dG1 {a:Expr}{ta:TA}(hg:Gl X "reversed")(hm:X.mg "reversed"=none)(ha:PA X [a] ta)(hs:↥(starEach [a] X.env=[(false,eval a X.env)])) :
  PI X tg (.Call (.Name "reversed" p) [a] [] pos) (iRevT X.K ta):=by
 intro pins s σ H R I h;refine Call_ (uK I hg hm PyProof.Rows.boot_reversed<|jJ (thn (ha pos pins s σ H _ I h) λus s1 ⟨vs,H1,I1,r1,q1⟩=> ?_) hs rfl)
 obtain⟨l,xs,e,q1,q⟩:=q1;subst e;obtain⟨u,rfl,r⟩:=vals1 r1;cases r;obtain⟨its,rv,p1,hz⟩:=I1.tuple q1;have hl:=rv.length;have big:(sizeLine:Int)<2^63:=ac
 refine d17 p1 (by rw[bD];lia) ?_
 have hi:uN (s1.heap.push {cls:= .type "reversed",data:= .fields #[.ref l,rawInt<|(its.toArray.size:Int)-1]}) s1.heap.objs.size l ((xs.length:Int)-1-((0:Nat):Int)):=⟨_,bZ _ rfl,rfl,by
  rw[bD,hl];simp⟩
 refine bA7 (s:={s1 with heap:=s1.heap.push {cls:= .type "reversed",data:= .fields #[.ref l,rawInt<|(its.toArray.size:Int)-1]},toks:=s1.toks+1+1}) hi ?_
 refine⟨_,[s1.heap.objs.size],_,_,H1,rfl,I1.kept (t':=s1.toks+1+1) λb o e=>aT _ e,d19 xs.length hz,hi,λb hb=> ?_,q⟩
 have e:b=s1.heap.objs.size:=by exists hb
 subst e;exact I1.fpOk (aG _) (I1.hok.fresh<|aG _)
end
end L2
namespace M
section
variable {X:Cx}{A:AS}{H:Hp}{K:PySem.W.Frag}{pos:Pos}{a:Expr}
theorem cQ8 {vs:List V}{l:List D}(c1:SqA K A H true l1 vs)(r1:bQ K A H l vs):c18 K A H (Itv K l1 vs.length) l.length (λi=>l.getD (l.length-1-i) .non):=by
 have k1:=r1.length;refine⟨λA' H' i P hi=>⟨aa,vs,c1.sqv P,rfl⟩,λA' H' i x H'' P hA hi y=> ?_,λA' H' P=>k1⟩
 obtain⟨x1,e1,q1⟩:=r1.at (i:=l.length-1-i) aa
 obtain⟨e,ha⟩:=y;subst e;have ea:=ha vs (c1.sqv P);rw[<-k1,e1]at ea;cases ea;exact⟨.refl _,q1.mono P⟩
def cL0 (ta:UA):UI:=λρ Q=>ta ρ λds ρ1=>match ds with
 | [.tup l]=>Q l.length (λi=>l.getD (l.length-1-i) .non) ρ1
 | _=>False
theorem cL1 {ta:UA}(hg:Gl X "reversed")(hm:X.mg "reversed"=none)(ha:PUA X [a] ta)(hs:↥(starEach [a] X.env=[(false,eval a X.env)])) :
  PUI X tg (.Call (.Name "reversed" p) [a] [] pos) (cL0 ta):=
 b19 (dG1 hg hm ha hs) λσ H R ⟨C,ρ,Q0,I,h,k⟩=>⟨C,ρ,_,I,h,λds ρ1 vs H1 q f s r=>by
  split at q
  .rename_i l
   obtain⟨v,vr,rfl,rv,rr⟩:=r.uncons;have:=rr.unnil;subst this;simp only[Rep]at rv;obtain⟨a1,us,rfl,c1,s1⟩:=rv;have c2:SqA _ _ _ true a1 us:=c1;exact⟨a1,us,rfl,c2.sqv .self,k _ _ ρ1 _ H1 q f s<|cQ8 c2 s1⟩
  .exact q.elim⟩
def bP1 (d e:D)(Q:B->Prop):Prop:=match d,e with
 | .tup l,.int k=>(l≠[]/\ -(2^63)<=k/\k<2^63/\l.length*k.toNat<=sizeLine)/\Q (.pu<|.tup (replicate k.toNat l).flatten)
 | _,_=>False
theorem bU5:OpU X (binaryOp .Mult) bP1:=by
 intro A H d e v w Q0 Q hA r1 r2 g k;unfold bP1 at g;split at g
 .rename_i l kk
  have:=bS r2;subst this;simp only[Rep]at r1;obtain⟨a,vs,rfl,c1,rs1⟩:=r1;obtain⟨⟨h0,h1,h2,h3⟩,g⟩:=g;refine⟨_,dF8,a,kk,vs,rfl,rfl,c1.imp cJ id,λz=>h0 ?_,h1,h2,by rw[<-rs1.length];exact h3,λz=> ?_,λz p n=>k _ _ _ g (eB n _) (iK hA n<|rs1.rep _)⟩
  .have:=rs1.length;rw[z]at this;exact u4.mp this
  .subst z;refine k _ _ H g (.refl _) ?_;show Rep X.K A H (.tup _) (.ref a);simp only[Rep];exact⟨a,vs,rfl,c1,by exists rs1⟩
 .exact g.elim
end
section
variable {X:Cx}
theorem bA8 {K:PySem.W.Frag}{A:AS}{H:Hp}: ∀r:List Int,bQ K A H (r.map D.int) (r.map V.int)
 | []=> .nil
 | a::r=> .cons (by simp only[Rep]) (bA8 r)
theorem dG2 {r:List Int}(hg:Gl X x)(hm:X.mg x=some (.ref a))(hk:KT X.K a (r.map V.int))(hd:⇑(x∪0)):PU X (.Name x p) (uC<|.tup<|r.map .int):=
 b66 (bS8 (v:= .ref a) hg hm rfl hd) λA H=>by
  simp only[Rep];exact⟨a,r.map V.int,rfl,.inr hk,bA8 r⟩
theorem kt_of {its:Array Value}{sl:Array (Option Value)}{vs:List V}(hl:K.lookup a=some ⟨.type "tuple",od,.seq its n,sl⟩)(hz:its.size<=sizeLine)(hv:Vals vs its.toList):KT K a vs:=
 ⟨_,its,n,hl,rfl,rfl,hz,hv⟩
end
end M
end
section
namespace L2
end L2
namespace M
end M
end
section
namespace L2
end L2
namespace M
section
variable {X:Cx}{a:Expr}{pos:Pos}{ta:UE}
nonrec def D.isN:D->Bool
 | .non=>true
 | _=>false
theorem cL2 {K:PySem.W.Frag}{A:AS}{H:Hp}: ∀{d:D} {v:V},Rep K A H d v->decide (v= .non)=d.isN
 | .non,v,h=>by simp only[Rep]at h;subst h;rfl
 | .bl _,v,h=>by simp only[Rep]at h;subst h;rfl
 | .int _,v,h=>by simp only[Rep]at h;subst h;rfl
 | .str _,v,h=>by simp only[Rep]at h;subst h;rfl
 | .ty _,v,h=>by simp only[Rep]at h;subst h;rfl
 | .tup _,v,h=>by simp only[Rep]at h;obtain⟨a,vs,rfl,_⟩:=h;rfl
 | .lst _,v,h=>by simp only[Rep]at h;obtain⟨a,vs,rfl,_⟩:=h;rfl
 | .rol _,v,h=>by simp only[Rep]at h;obtain⟨a,vs,rfl,_⟩:=h;rfl
 | .obj _ _ _,v,h=>by simp only[Rep]at h;obtain⟨a,dx,vs,rfl,_⟩:=h;rfl
 | .adr _,v,h=>by simp only[Rep]at h;subst h;rfl
 | .xob _ _ _ _,v,h=>by simp only[Rep]at h;obtain⟨vs,rfl,_⟩:=h;rfl
def bJ9 (neg:Bool)(t:UE):UE:=λρ Q=>t ρ λb ρ1=>Q (.pu<|.bl<|neg ^^ b.d.isN) ρ1
theorem lIsN (σ:L2.St)(H:Hp)(Q:VK)(h:lE X.K (bJ9 false ta) σ H Q):tIsN (lE X.K ta) σ H Q:=by
 obtain⟨C,ρ,Q0,I,h,k⟩:=h;refine⟨C,ρ,_,I,h,λb ρ' v H' q f s r=> ?_⟩
 have e:=cL2 (r.rep λa z=>I.avF f z)
 refine k _ ρ' _ H' q f s ?_
 show Rep _ _ _ _ _
 simp only[Rep,nI];rw[e]
theorem lNotN (σ:L2.St)(H:Hp)(Q:VK)(h:lE X.K (bJ9 true ta) σ H Q):dM6 (lE X.K ta) σ H Q:=by
 obtain⟨C,ρ,Q0,I,h,k⟩:=h;refine⟨C,ρ,_,I,h,λb ρ' v H' q f s r=> ?_⟩
 have e:=cL2 (r.rep λa z=>I.avF f z)
 refine k _ ρ' _ H' q f s ?_
 show Rep _ _ _ _ _
 simp only[Rep,pW];rw[e]
theorem bU6 {j pos'}(ha:PU X a ta):PUT X (.Compare a [.Is] [.Constant .none j pos'] pos) (dJ<|bJ9 false ta):=c13 (cV4<|pc_isN ha) λσ H Q h=>lIsN σ H _ (dD2 σ H Q h)
theorem c28 {j pos'}(ha:PU X a ta):PUT X (.Compare a [.IsNot] [.Constant .none j pos'] pos) (dJ<|bJ9 true ta):=c13 (cV4<|dB1 ha) λσ H Q h=>lNotN σ H _ (dD2 σ H Q h)
end
mutual
noncomputable def D.nl:D->Bool
 | .tup l=>D.nls l
 | .lst _=>false
 | .rol _=>false
 | .obj _ _ _=>false
 | .adr _=>false
 | .xob _ _ _ _=>false
 | .non=>true
 | .bl _=>true
 | .int _=>true
 | .str _=>true
 | .ty _=>true
noncomputable def D.nls:List D->Bool
 | []=>true
 | d::l=>d.nl&&D.nls l
end
theorem c29: ∀r:List Int,D.nls (r.map D.int)=true
 | []=>by simp only[jQ,D.nls]
 | a::r=>by simp only[d5,D.nls,D.nl,c29 r,Bool.and_true]
section
variable {K:PySem.W.Frag}{A A':AS}{H H':Hp}
mutual
theorem Rep.nl (p: ∀a vs,¬A a->Rd H a (.tup vs)-> ¬A' a/\Rd H' a (.tup vs)): ∀{d:D} {v:V},d.nl=true->Rep K A H d v->Rep K A' H' d v
 | .non,_,_,h=>h
 | .bl _,_,_,h=>h
 | .int _,_,_,h=>h
 | .str _,_,_,h=>h
 | .ty _,_,_,h=>h
 | .tup l,v,q,h=>by
  simp only[Rep]at h⊢;obtain⟨a,vs,e,c,r⟩:=h;simp only[D.nl]at q;refine⟨a,vs,e,?_,bQ.nl p q r⟩;rcases c with⟨n,c⟩|c
  .exact .inl (p a vs n c)
  .exact .inr c
 | .lst _,_,q,_=>by simp only[D.nl]at q;cases q
 | .rol _,_,q,_=>by simp only[D.nl]at q;cases q
 | .obj _ _ _,_,q,_=>by simp only[D.nl]at q;cases q
 | .adr _,_,q,_=>by simp only[D.nl]at q;cases q
 | .xob _ _ _ _,_,q,_=>by simp only[D.nl]at q;cases q
theorem bQ.nl (p: ∀a vs,¬A a->Rd H a (.tup vs)-> ¬A' a/\Rd H' a (.tup vs)): ∀{l:List D} {vs:List V},D.nls l=true->bQ K A H l vs->bQ K A' H' l vs
 | [],_,_,h=>by simp only[bQ]at h ⊢; exact h
 | d::ds,vs,q,h=>by
  simp only[bQ]at h⊢;simp only[D.nls,cZ]at q;obtain⟨v,vr,e,r,rs⟩:=h;exact⟨v,vr,e,Rep.nl p q.1 r,bQ.nl p q.2 rs⟩
end
end
nonrec def ltL:List Int->List Int->Bool
 | [],[]=>false
 | [],_::_=>true
 | _::_,[]=>false
 | a::x,b::y=>if a=b then ltL x y else decide (a<b)
section
variable {prog:Program}{w:World}{A:Around}{E:Value->Shared->Prop}{s:Shared}
theorem d20 {lt:Bool}{P:PySem.Fin->Shared->Prop}(ho:s.heap.get? a=some (seqObj "list" [u,v].toArray n))
  (hy: ∀h':Heap,(∀b o,b≠a->s.heap.get? b=some o->h'.get? b=some o)-> ∃κ:SortKind,
   (∀Q:SortKind->Shared->Prop,Q κ {s with heap:=h'}->wpAny (model prog w) A (keyKind' [u,v].toArray) Q (λ_ _=>False) {s with heap:=h'})/\
   (∀Q:Bool->Shared->Prop,Q lt {s with heap:=h'}->wpAny (model prog w) A (keyLt' κ v u) Q (λ_ _=>False) {s with heap:=h'}))
  (fi:P (.done<|.ret .none) {s with heap:=sortedHeap s.heap a [u,v] (if lt=true then [v,u].toArray else [u,v].toArray)}) :
  wpAny (model prog w) A (Builtin.«list.sort» ⟨[.ref a],[]⟩) P E s:=by
 rw[list_sort_plain];have la:a<s.heap.objs.size:=aV ho;refine a9 (listItems_at ho rfl ?_);refine a9 (listUpdate_at ho rfl ?_ (show 2<=sizeLine by decide) (eW _))
 obtain⟨c1,h1⟩: ∃c1,(s.heap.update a<|Obj.mapSeq λ_=> #[]).get? a=some (seqObj "list" #[] c1):=⟨_,get?_update_seq ho λ_=> #[]⟩
 refine a9 (seqEpoch_at h1 rfl ?_)
 refine a9 (wpAny_newTuple ?_<|show 2<=sizeLine by decide)
 refine a9 (wpAny_newList ?_<|eW _)
 refine gH ?_
 have h6:(((s.heap.update a<|Obj.mapSeq λ_=> #[]).push<|seqObj "tuple" [u,v].toArray 0).push<|seqObj "list" #[] 0).get? a=some (seqObj "list" #[] c1):=by
  rw[pR _ _ _ (by rw[size_push',u9];exact bI (kK la))]
  rw[pR _ _ _ (by rw[u9];exact bI la)]
  exact h1
 have kp: ∀b o,b≠a->s.heap.get? b=some o->(((s.heap.update a<|Obj.mapSeq λ_=> #[]).push<|seqObj "tuple" [u,v].toArray 0).push<|seqObj "list" #[] 0).get? b=some o:=λb o ne q=>by
  have lb:b<s.heap.objs.size:=aV q;rw[pR _ _ _ (by rw[size_push',u9];exact bI (kK lb))]
  rw[pR _ _ _ (by rw[u9];exact bI lb),zC _ _ _ _ ne]
  exact q
 obtain⟨κ,y1,y2⟩:=hy _ kp;show wpAny (model prog w) A _ P E {s with heap:=((s.heap.update a<|Obj.mapSeq λ_=> #[]).push<|seqObj "tuple" [u,v].toArray 0).push (seqObj "list" #[] 0)}
 right;have n2: ¬[u,v].toArray.size<2:=show ¬2<2 by decide
 rw[a8 n2,a8 n2];refine a9 (bG (y1 (λk s'=>k=κ/\s'={s with heap:=((s.heap.update a<|Obj.mapSeq λ_=> #[]).push<|seqObj "tuple" [u,v].toArray 0).push (seqObj "list" #[] 0)}) ⟨rfl,rfl⟩) ?_ λ_ _ z=>z.elim)
 rintro k s' ⟨rfl,rfl⟩;refine a9 (bG (PySem.W.kat_run (ks:=[u,v]) (vs:=[u,v]) (Q:=λst' s'=>s'={s with heap:=((s.heap.update a<|Obj.mapSeq λ_=> #[]).push<|seqObj "tuple" [u,v].toArray 0).push (seqObj "list" #[] 0)}/\failedOf st'=none/\(arrOf st').map (·.2)=(if lt=true then [v,u].toArray else [u,v].toArray))
  (G:=λp s'=>s'={s with heap:=((s.heap.update a<|Obj.mapSeq λ_=> #[]).push<|seqObj "tuple" [u,v].toArray 0).push (seqObj "list" #[] 0)}/\p=(if lt=true then #[1,0]else #[0,1]))
  rfl (show 2<=2 by decide) (show 2<64 by decide) (λp st' s' _ e2 e3 ⟨e4,e5⟩=>⟨e4,e3,?_⟩) ?_) ?_ λ_ _ z=>z)
 .rw[PySem.W.kat_snds rfl e2,e5];cases lt<;>rfl
 .show wpAny (model prog w) A (keyLt' k v u) _ (λ_ _=>False) _
  refine y2 _ ?_
  cases lt
  .exact⟨rfl,rfl⟩
  .refine⟨rfl,?_⟩
   rw[aA rfl];dsimp only[List.length_cons,List.length_nil]
   decide +kernel
 .rintro⟨⟨⟩,st'⟩ s' ⟨rfl,e3,e4⟩;right;rw[e4];refine a9 (seqEpoch_at h6 rfl ?_);refine a9 (listUpdate_at h6 rfl ?_ (eW _) (by cases lt<;>exact(show 2<=sizeLine+1 by decide)))
  rw[e3];simp only[bne_self_eq_false,Bool.false_eq_true,qD];exact aH fi
theorem cE7 {lt:Bool}(hl:s.heap.IsList l [u,v].toArray)
  (hy: ∀(h':Heap) (A:Around),(∀b o,s.heap.get? b=some o->h'.get? b=some o)-> ∃κ:SortKind,
   (∀Q:SortKind->Shared->Prop,Q κ {s with heap:=h'}->wpAny (model prog w) A (keyKind' [u,v].toArray) Q (λ_ _=>False) {s with heap:=h'})/\
   (∀Q:Bool->Shared->Prop,Q lt {s with heap:=h'}->wpAny (model prog w) A (keyLt' κ v u) Q (λ_ _=>False) {s with heap:=h'}))
  (fi:Q (.ref<|s.heap.objs.size+1) {s with heap:=sortedAll s.heap [u,v] (if lt=true then [v,u].toArray else [u,v].toArray)}) :
  wpAny (model prog w) A (call (.builtin "sorted") [.ref l]) Q E s:=by
 refine Calls.call_function_entry kind_sorted plain_sorted entry_sorted (args_sorted1 _) ?_
 unfold Builtin.«sorted»;refine a9 (m:=checkCount "sorted" 1 1 _) (aH ?_);refine a9 (collect_list hl ?_<|show 2<=sizeLine by decide)
 refine a9 (wpAny_newList ?_<|show 2<=sizeLine by decide)
 have hz:((s.heap.push<|seqObj "list" #[] 0).update s.heap.objs.size (Obj.mapSeq (· ++[u,v].toArray))).objs.size=s.heap.objs.size+1:=by rw[u9,size_push']
 have hL:(((s.heap.push<|seqObj "list" #[] 0).update s.heap.objs.size (Obj.mapSeq (· ++[u,v].toArray))).push<|seqObj "list" [u,v].toArray 0).get? (s.heap.objs.size+1)=some (seqObj "list" [u,v].toArray 0):=by
  rw[<-hz];exact bZ _ rfl
 have kp: ∀b o,s.heap.get? b=some o->(((s.heap.push<|seqObj "list" #[] 0).update s.heap.objs.size (Obj.mapSeq (· ++[u,v].toArray))).push<|seqObj "list" [u,v].toArray 0).get? b=some o:=λb o q=>by
  have lb:b<s.heap.objs.size:=aV q;rw[pR _ _ _ (by rw[hz];exact bI (kK lb))]
  rw[zC _ _ _ _<|bI lb,pR _ _ _<|bI lb];exact q
 show wpAny _ _ _ _ _ {s with heap:=((s.heap.push<|seqObj "list" #[] 0).update s.heap.objs.size (Obj.mapSeq (· ++[u,v].toArray))).push (seqObj "list" [u,v].toArray 0)}
 rw[hz];refine a9 (gH<|iS slot_list_sort ⟨_,hL,rfl⟩ entry_list_sort (d20 (lt:=lt) hL (λh' k=> ?_) ⟨_,rfl,?_⟩)<|args_list_sort _)
 .exact hy h' _ λb o q=>k b o (bI<|kK<|aV q) (kp b o q)
 .exact aH ⟨_,rfl,fi⟩
theorem c30 {Q:Bool->Shared->Prop}{fin:Bool}: ∀(us ws:List Int) (x y:List Value) (i:Nat),Vals (us.map V.int) x->Vals (ws.map V.int) y->fin=decide (us.length<ws.length)->Q (ltL us ws) s->PySem.W.KatLex prog w A true fin Q (x.zip y) i s
 | [],[],x,y,i,hx,hy,hf,q=>by
  cases hx;cases hy;rw[hf];exact q
 | [],b::ws,x,y,i,hx,hy,hf,q=>by
  cases hx;rw[hf];exact q
 | a::us,[],x,y,i,hx,hy,hf,q=>by
  cases hx;cases hy;rw[hf];exact q
 | a::us,b::ws,x,y,i,hx,hy,hf,q=>by
  rw[d5]at hx hy;cases hx with
  | cons r1 hx=>
   cases hy with
   | cons r2 hy=>
    obtain⟨t1,rfl⟩:=r1;obtain⟨t2,rfl⟩:=r2;rw[aM1];refine PySem.W.kat_cons (wpAny_eqBool_int ?_)
    by_cases c:a=b
    .subst c;rw[aN2];refine PySem.W.kat_yes (c30 us ws _ _ (i+1) hx hy (by rw[hf];simp) ?_)
     unfold ltL at q;rw[aA rfl]at q;exact q
    .rw[show(a==b)=false by simpa using c]
     refine PySem.W.kat_no ?_
     unfold ltL at q;rw[a8 c]at q;cases e:(true&&i==0)
     .exact PySem.W.kat_one _ _ (lt_int q)
     .exact oneLt_int q
end
section
variable {X:Cx}
theorem cE8:sY X (.builtin "sorted") (λxs H Q=> ∃(p a1 a2:Addr) (i j:Int) (us ws:List Int),xs=[.ref p]/\SqL X.K H p [.ref a1,.ref a2]/\SqT X.K H a1 ((i::us).map V.int)/\SqT X.K H a2 ((j::ws).map V.int)/\
  ∀l,H l=none->Q (.ref l) (upd H l<|.lst<|if ltL (j::ws) (i::us)=true then [.ref a2,.ref a1]else [.ref a1,.ref a2])):=by
 intro pins s σ H xs us' Q I r h;obtain⟨p,a1,a2,i,j,us,ws,rfl,hq,t1,t2,q⟩:=h;obtain⟨u,rfl,rx⟩:=vals1 r;cases rx;obtain⟨its,rv,pl,hz⟩:=I.list hq;obtain⟨x1,r1,k1,z1⟩:=I.tuple t1;obtain⟨x2,r2,k2,z2⟩:=I.tuple t2;cases rv with
 | cons g1 rv=>
 cases rv with
 | cons g2 rv=>
 cases rv;cases g1;cases g2;refine cE7 (lt:=ltL (j::ws) (i::us)) pl.isList (λh' A kp=> ?_) ?_
 .obtain⟨o1,ho1,hc1,n1,hd1⟩:=k1;obtain⟨o2,ho2,hc2,n2,hd2⟩:=k2;rw[d5]at r1 r2;cases r1 with
  | cons f1 r1=>
  cases r2 with
  | cons f2 r2=>
  have v1:Vals ((i::us).map V.int) _:= .cons f1 r1;have v2:Vals ((j::ws).map V.int) _:= .cons f2 r2;obtain⟨t1,rfl⟩:=f1;obtain⟨t2,rfl⟩:=f2;refine⟨tuples'<|Value.type "int" != Value.type "tuple",λQ' q'=> ?_,λQ' q'=> ?_⟩
  .refine PySem.W.kat_kind (fs:=[.int i t1,.int j t2]) (T:= .type "int") (.cons (kp _ _ ho1) hc1 hd1 rfl (.cons (kp _ _ ho2) hc2 hd2 rfl .nil)) (cC _) (λv hv=> ?_) ac q'
   rcases aZ.mp hv with rfl|hv
   .exact .now
   .rw[jM.mp hv];exact .now
  .have e:(Value.type "int" != Value.type "tuple")=true:=ac
   rw[e];refine PySem.W.kat_lt (kp _ _ ho2) hd2 (kp _ _ ho1) hd1 (c30 _ _ _ _ 0 (by exists v2) (by exists v1) ?_ q')
   have l1:=v1.length;have l2:=v2.length;simp only[aJ]at l1 l2;simp only[bD];rw[<-l1,<-l2]
 .refine⟨.ref<|s.heap.objs.size+1,_,?_,rfl,q (s.heap.objs.size+1)<|I.hok.fresh<|uF _⟩
  obtain⟨c,hc⟩:=sortedAll_at s.heap [Value.ref a1,Value.ref a2] (if ltL (j::ws) (i::us)=true then [Value.ref a2,Value.ref a1].toArray else [Value.ref a1,Value.ref a2].toArray);refine I.laid (t':=s.toks) (λb o e=>sortedAll_old e) (uF _) ?_
  by_cases e:ltL (j::ws) (i::us)=true
  .rw[aA e]at hc⊢;exact⟨show 2<=sizeLine by decide,[.ref a2,.ref a1],c,.cons rfl (.cons rfl .nil),by rw[aA e];exact hc⟩
  .rw[a8 e]at hc⊢;exact⟨show 2<=sizeLine by decide,[.ref a1,.ref a2],c,.cons rfl (.cons rfl .nil),by rw[a8 e];exact hc⟩
nonrec def cE9:List D->(B->Prop)->Prop:=g1 λd Q=> ∃(i j:Int) (us ws:List Int),d= .lst [.tup<|(i::us).map D.int,.tup<|(j::ws).map D.int]/\
 Q (.ow<|if ltL (j::ws) (i::us)=true then [.tup<|(j::ws).map D.int,.tup<|(i::us).map D.int]else [.tup<|(i::us).map D.int,.tup<|(j::ws).map D.int])
theorem d21:wB X (.builtin "sorted") cE9:=by
 intro A H ds vs Q0 Q hA r g k;obtain⟨d,v,rfl,rfl,rv,i,j,us,ws,rfl,g'⟩:=aN9 g r;simp only[Rep]at rv;obtain⟨p,xs,rfl,np,hp,rl⟩:=rv;obtain⟨y1,yr,rfl,s1,rl⟩:=rl.uncons;obtain⟨y2,yr,rfl,s2,rl⟩:=rl.uncons;have:=rl.unnil;subst this;have s1':=s1;have s2':=s2;simp only[Rep]at s1 s2;obtain⟨a1,w1,rfl,c1,q1⟩:=s1;obtain⟨a2,w2,rfl,c2,q2⟩:=s2;have e1:=bQ.unints q1;have e2:=bQ.unints q2;subst e1 e2
 refine⟨_,cE8,p,a1,a2,i,j,us,ws,rfl,.inl<|.inl hp,c1.imp cJ id,c2.imp cJ id,λl hl=>k _ _ _ g' (eB hl _) ?_⟩
 cases ltL (j::ws) (i::us)
 .exact gS (.refl _) hl (.cons s1'<|.cons s2' .nil)
 .exact gS (.refl _) hl (.cons s2'<|.cons s1' .nil)
end
end M
end
section
namespace L2
end L2
namespace M
end M
end
section
namespace L2
end L2
namespace M
end M
end
section
namespace L2
end L2
namespace M
section
variable {X:Cx}{e:Expr}{es:List Expr}{pos:Pos}{te:UE}
theorem ilB (h:Nat.ble (i+1) X.N.length=true): ∀pins σ H s,Inv X pins σ H s->i<σ.length:=il rfl (aK9 h)
theorem aO (i:Nat){pos:Pos}(h:PE X (.Name x pos) (a75 i):=by exact pv _):PU X (.Name x pos) (aC i):=cR i h
theorem bT (i:Nat){pos:Pos}(h:PE X (.Name x pos) (a75 i):=by exact pv _):PUV X (.Name x pos) (aW i):=mD i h
theorem uO (i:Nat)(hN:X.N.Nodup)(he:PU X e te)(hi:↥(X.N[i]? =some x))(hx:Loc X.env.scope x:=by walk_at "z")(hs:↥(swapsWith e (some<|.Name x pos') pos.line X.env=pure false))(hf:X.fn x=true\/X.env.scope.names.lookup x=some .local:=by walk_at "z")
  (hl: ∀pins σ H s,Inv X pins σ H s->i<σ.length:=by exact ilB rfl):PUS X (.Assign [.Name x pos'] e pos) (bF i te):=sG i hN hi hx he hs hf hl
theorem us_g {op:Operator}{g:D->D->(B->Prop)->Prop}(i:Nat)(hN:X.N.Nodup)(he:PU X e te)(ho:IpU X op g)(hi:↥(X.N[i]? =some x))(hx:Loc X.env.scope x:=by walk_at "z")(hf:X.fn x=true\/X.env.scope.names.lookup x=some .local:=by walk_at "z")
  (hl: ∀pins σ H s,Inv X pins σ H s->i<σ.length:=by exact ilB rfl):PUS X (.AugAssign (.Name x pos') op e pos) (c17 i g te):=cY7 i hN hi hx he ho hf hl
theorem cF {a b:Expr}{ti:UE}{t:UV}(ha:PUV X a t)(hb:PU X b ti)(hs:b65 b:=by exact λ_ _=>rfl):PU X (.Subscript a b pos) (uIx t ti):=a57 ha hb hs
theorem dI {ps:List Str}{t:UA}(F:Fn X.prog X.w X.K X.mg X.base x ps k φ)(hr:fG k' X.A)(ha:PUA X (e::es) t)(hk:⇑(k<=k'))(hg:↥(Gl X x))(hdb:⇑(x∪0))
  (he:↥(starEach (e::es) X.env=(false,eval e X.env)::starEach es X.env)) (hpl:↥((backTo pos<|starEach es X.env).any (·.1)=false)):PU X (.Call (.Name x p) (e::es) [] pos) (aS φ t):=a82 F hr hk hg ha hdb he hpl
end
section
variable {X:Cx}{es:List Expr}{t:UA}
theorem bJ {i:Int}{j}(h:PUA X es t):PUA X (.Constant (.int i) j p::es) (a7 (uC<|.int i) t):=aD aE h rfl
theorem nZ {fs:List Expr}{j}{ta:UE}(a:PU X (.Tuple fs j p) ta)(h:PUA X es t):PUA X (.Tuple fs j p::es) (a7 ta t):=aD a h rfl
theorem t7 {o:UnaryOp}{ta:UE}(a:PU X (.UnaryOp o e p) ta)(h:PUA X es t):PUA X (.UnaryOp o e p::es) (a7 ta t):=aD a h rfl
theorem aP (i:Nat)(h:PUA X es t)(a:PE X (.Name x p) (a75 i):=by exact pv _):PUA X (.Name x p::es) (a7 (aC i) t):=aD (cR i a) h rfl
structure WA (X:Cx)(es:List Expr)(t:UA):Prop where
 out:PUA X es t
theorem jU:WA X [] aM:=⟨aB⟩
theorem eR {i:Int}{j}(h:WA X es t):WA X (.Constant (.int i) j p::es) (a7 (uC<|.int i) t):=⟨bJ h.out⟩
theorem bA9 {i:Int}{j}{q:Pos}(h:WA X es t):WA X (.UnaryOp .USub (.Constant (.int i) j p) q::es) (a7 (kS<|uC<|.int i) t):=⟨t7 (iG aE) h.out⟩
theorem bB0 {fs:List Expr}{j}{tf:UA}(a:WA X fs tf)(h:WA X es t):WA X (.Tuple fs j p::es) (a7 (gL tf) t):=⟨nZ (d8 a.out) h.out⟩
structure WS (X:Cx)(sts:List Stmt)(t:US):Prop where
 out:qF X sts t
theorem cL3 {u:US}(h:qF X sts u):WS X sts u:=⟨h⟩
theorem dN5 {u:US}(h:WA X es t)(r:WS X sts u)(hN:X.N.Nodup)(hi:↥(X.N[i]? =some x))(hx:Loc X.env.scope x:=by walk_at "z")(hf:X.fn x=true\/X.env.scope.names.lookup x=some .local:=by walk_at "z")
  (hl: ∀pins σ H s,Inv X pins σ H s->i<σ.length:=by exact ilB rfl):WS X (.Assign [.Name x pos'] (.List es p) pos::sts) (aQ (bF i<|fT t) u):=⟨bB (sG i hN hi hx (cS h.out) rfl hf hl) r.out⟩
theorem ws_lx {q:Pos}{ti:UE}{u:US}(h:WA X es t)(a:PU X ix ti)(r:WS X sts u)(hN:X.N.Nodup)(hs:b65 ix:=by exact λ_ _=>rfl)(hi:↥(X.N[i]? =some x))(hx:Loc X.env.scope x:=by walk_at "z")(hf:X.fn x=true\/X.env.scope.names.lookup x=some .local:=by walk_at "z")
  (hl: ∀pins σ H s,Inv X pins σ H s->i<σ.length:=by exact ilB rfl):WS X (.Assign [.Name x pos'] (.Subscript (.List es p) ix q) pos::sts) (aQ (bF i<|uIx (uV<|fT t) ti) u):=⟨bB (sG i hN hi hx (a57 (oW<|cS h.out) a hs) rfl hf hl) r.out⟩
end
abbrev GL:=List (Addr×List Int)
section
variable {X:Cx}{K:PySem.W.Frag}{C C':C0}{ρ ρ':Ev}{σ σ':L2.St}{H H' H0:Hp}{g g':GL}{r:Nat}{st:Stmt}{sts:List Stmt}{e:Expr}{pos:Pos}{t u:US}{te ti tj:UE}{tc:UT}
theorem cL4 {m:Nat}(h:n<m):ixN m (n:Int)=some n:=by
 unfold ixN;rw[aA aa,aA aa]
 simp
end
section
variable {X:Cx}{K:PySem.W.Frag}{C C':C0}{ρ ρ':Ev}{σ σ':L2.St}{H H' H0:Hp}{e:Expr}{pos:Pos}{te:UE}
def cF0 (t:UE):UE:=λρ Q=>t ρ λb _=>match b with
 | .pu d=>d.nl=true/\Q (.pu d) ρ
 | .ow l=>D.nls l=true/\Q (.ow l) ρ
 | _=>False
theorem d22 (h:PU X e te):PU X e (cF0 te):=gR h λσ H Q ⟨C,ρ,Q0,I,h,k⟩=>⟨C,ρ,_,I,h,λb ρ' v H' q f s r=>by
 have noT: ∀(a:Addr) (vs:List V),Own ρ σ a->Rd H' a (.tup vs)->False:=λa vs ⟨i,l,h1,h2⟩ c=>by
  obtain⟨b,ws,g1,g2,_⟩:=I.ow i l h1;rw[h2]at g1;cases g1;have g3:=s _ _ g2;rcases c with c| ⟨o,c⟩
  .rw[g3]at c;cases c
  .rw[g3]at c;cases c
 cases b with
 | pu d=>
  refine k (.pu d) ρ v H' q.2 (.refl _) s ?_
  refine Rep.nl (λa vs n c=>⟨?_,c⟩) q.1 (show Rep _ _ _ d v from r)
  rintro(z|z)
  .exact n (.inl z)
  .exact noT a vs z c
 | ow l=>
  obtain⟨a,vs,rfl,n0,e1,rl⟩:=r;refine k (.ow l) ρ _ H' q.2 (.refl _) s ⟨a,vs,rfl,n0,e1,?_⟩;refine bQ.nl (λb ws n c=>⟨?_,c⟩) q.1 rl
  rintro((z|z)|z)
  .exact n (.inl<|.inl z)
  .exact noT b ws z c
  .exact n (.inr z)
 | bo l=>exact q.elim⟩
end
end M
end
section
namespace L2
end L2
namespace M
end M
end
section
namespace L2
end L2
namespace M
section
variable {X:Cx}{e a b:Expr}{te ta tb:UE}{t u:US}{sts:List Stmt}{pos:Pos}
theorem gC {g:D->D->(B->Prop)->Prop}(ho:OpU X (compareOp op) g)(ha:PU X a ta)(hb:PU X b tb)(hm:behindInMarks op b=false:=by exact aX2 _):PUT X (.Compare a [op] [b] pos) (dJ<|uOp g ta tb):=aE3 ho ha hb hm
theorem dG3 {g:D->D->(B->Prop)->Prop}(ho:OpU X (compareOp op) g)(ha:PU X a ta)(hb:PU X b tb)(hm:behindInMarks op b=false:=by exact aX2 _):PU X (.Compare a [op] [b] pos) (uOp g ta tb):=pu_cmp ho ha hb hm
theorem bN (i:Nat)(hN:X.N.Nodup)(he:PU X e te)(r:qF X sts u)(hi:↥(X.N[i]? =some x))(hx:Loc X.env.scope x:=by walk_at "z")(hs:↥(swapsWith e (some<|.Name x pos') pos.line X.env=pure false))(hf:X.fn x=true\/X.env.scope.names.lookup x=some .local:=by walk_at "z")
  (hl: ∀pins σ H s,Inv X pins σ H s->i<σ.length:=by exact ilB rfl):qF X (.Assign [.Name x pos'] e pos::sts) (aQ (bF i te) u):=bB (uO i hN he hi hx hs hf hl) r
theorem gD (h:PU X e te):qF X [.Return (some e) pos] (dU te):=aX (cD4 h)
theorem aY5 {tc:UT}(hc:PUT X c tc)(ha:qF X sts t):PUS X (.If c sts [] pos) (fH tc t cW):=c16 hc ha b93
theorem j5 {tc:UT}{r:List Stmt}(hc:PUT X c tc)(ha:qF X sts t)(hr:qF X r u):qF X (.If c sts [] pos::r) (aQ (fH tc t cW) u):=bB (aY5 hc ha) hr
theorem mQ {ui:UI}(i:Nat)(hN:X.N.Nodup)(hi:PUI X (.Name x p) iter ui)(hb:qF X sts t)(hp:PassesOwn (model X.prog X.w) X.A X.env X.xe:=by exact gF)(hc:↥(X.calm=true))(hx:↥(X.N[i]? =some x))(hl:Loc X.env.scope x:=by walk_at "z")
  (hs: ∀x,foldedSetIterable iter X.env x=pure x:=by intro _;rfl) (hf:X.fn x=true\/X.env.scope.names.lookup x=some .local:=by walk_at "z"):PUS X (.For (.Name x p) iter sts [] pos) (gW ui (bY i) t):=aN6 hp hc hi (tG i<|cE hN hx hl hf) hb hs
theorem rQ (N:List Str)(esc:List (Str×NameKind))(XN:List Str){ui:UI}{tt:UT}(hi:PUI X (.Name x p) iter ui)(ht: ∀cl C s H fp pins,PTs (bU X N scope cl C s H fp pins) ifs<|lT X.K tt)(he: ∀cl C s H fp pins,PU (bU X N scope cl C s H fp pins) elt te)
  (he0:↥(X.env.scope.names=esc)) (hx0:↥(X.N=XN)) (lk:xX esc XN N cap scope last=true:=by decide +kernel) (hl:⇑(last<cap.length)) (hT:⇑(last ∉ [i])) (hc:↥(X.calm=true)) (hN:N.Nodup:=by decide +kernel) (hx:↥(N[i]? =some x)) (hy: ∀cl C s H fp pins,Loc (bU X N scope cl C s H fp pins).env.scope x:=by intro _ _ _ _ _ _;first|exact Or.inl rfl|exact Or.inr rfl)
  (hs: ∀x,foldedSetIterable iter X.env x=pure x:=by intro _;rfl) (hf: ∀cl C s H fp pins,(bU X N scope cl C s H fp pins).fn x=true\/(bU X N scope cl C s H fp pins).env.scope.names.lookup x=some .local:=by intro _ _ _ _ _ _;first|exact .inl rfl|exact .inr rfl|assumption):PU X (.ListComp elt [⟨.Name x p,iter,ifs,0⟩] scope pos) (eI js cap last ui (bY i) tt te):=
 a86 he0 hx0 lk hl hT hc hi (λ_ _ _ _ _ _=>tG i (cE hN hx (hy ..)<|hf ..)) ht he hs
end
section
variable {X:Cx}{K:PySem.W.Frag}{ρ ρ':Ev}{σ σ':L2.St}{H H':Hp}
variable {o e e2:Expr}{te te2:UE}{x y:Str}{px py py2 apos cpos bpos fpos apos2 cpos2 epos:Pos}
end
end M
end
section
namespace L2
end L2
namespace M
section
variable {X:Cx}{K:PySem.W.Frag}{last:Nat}{ui ui2:UI}{g g2:UG}{T T2:List Nat}{tt tt2:UT}{te:UE}
variable {elt iter tg iter2 tg2:Expr}{ifs ifs2:List Expr}{scope:Scope}{pos spos py:Pos}{y:Str}{esc:List (Str×NameKind)}{N XN:List Str}{js:List Nat}{cap:List (Option Nat)}
end
abbrev GP:=List (Addr×List V)
end M
end
section
namespace L2
end L2
namespace M
end M
namespace L2
end L2
namespace M
end M
end
section
namespace L2
end L2
namespace M
open PySem L2
section
variable {X:Cx}{es:List Expr}{t:UA}
structure WE (X:Cx)(e:Expr)(t:UE):Prop where
 out:PU X e t
theorem d23 (h:WA X es t):WE X (.List es p) (fT t):=⟨cS h.out⟩
theorem wa_e {f:Expr}{o:Operator}{te:UE}(a:WE X (.BinOp e o f p) te)(h:WA X es t):WA X (.BinOp e o f p::es) (a7 te t):=⟨aD a.out h.out rfl⟩
theorem we_p {te:UE}(h:PU X e te):WE X e te:=⟨h⟩
theorem a69 {i:Int}{j}:WE X (.Constant (.int i) j p) (uC<|.int i):=⟨aE⟩
theorem aG5 {op:Operator}{g:D->D->(B->Prop)->Prop}{a b:Expr}{ta tb:UE}(ho:OpU X (binaryOp op) g)(x:WE X a ta)(y:WE X b tb):WE X (.BinOp a op b p) (uOp g ta tb):=⟨aI ho x.out y.out⟩
theorem ws_ew {a b:Expr}{op:Operator}{q:Pos}{te:UE}{u:US}(h:WE X (.BinOp a op b q) te)(r:WS X sts u)(hN:X.N.Nodup)(hi:↥(X.N[i]? =some x))(hx:Loc X.env.scope x:=by walk_at "z")(hf:X.fn x=true\/X.env.scope.names.lookup x=some .local:=by walk_at "z")
  (hl: ∀pins σ H s,Inv X pins σ H s->i<σ.length:=by exact ilB rfl):WS X (.Assign [.Name x pos'] (.BinOp a op b q) pos::sts) (aQ (bF i te) u):=⟨bB (sG i hN hi hx h.out rfl hf hl) r.out⟩
end
end M
end
namespace L2
def Calm (f:Obj->Obj):Prop:= ∀o,(f o).dict=o.dict/\(o.isFreed=false->(f o).isFreed=false)
def oV {α:Type}:Sem α->Prop
 | .pure _=>True
 | .raise _=>True
 | .unsupported _=>True
 | .finish _=>True
 | .rule _ k=>oV (k ())
 | .at _ k=>oV (k ())
 | .load _ _ k=> ∀o,oV (k o)
 | .update _ _ f k=>Calm f/\oV (k ())
 | .alloc _ k=> ∀a,oV (k a)
 | .loadIfAlive _ k=> ∀o,oV (k o)
 | .point _ k=>oV (k ())
 | .register _ _=>True
 | .stack k=> ∀l,oV (k l)
 | _=>False
def DK (h h':Heap):Prop:= ∀b o,h.get? b=some o-> ∃o',h'.get? b=some o'/\o'.dict=o.dict
theorem DK.refl (h:Heap):DK h h:=λb o q=>⟨o,q,rfl⟩
theorem DK.trans {h'':Heap}(a:DK h h')(b:DK h' h''):DK h h'':=λc o q=>by
 obtain⟨o',q',e⟩:=a c o q;obtain⟨o'',q'',e'⟩:=b c o' q';exact⟨o'',q'',e'.trans e⟩
theorem DK.update {f:Obj->Obj}(c:Calm f):DK h (h.update a f):=λb o q=>by
 by_cases e:a=b
 .subst e;exact⟨f o,pG f q<|(c o).2 (Heap.get?_some_iff.mp q).2,(c o).1⟩
 .exact⟨o,(aK5 _ _ e).trans q,rfl⟩
theorem dG4 {α:Type}{M:Model}{Γ:PySem.Ctx}: ∀{t:Sem α} {Q:α->Pos->Shared->Prop} {E:Value->Pos->Shared->Prop} {p:Pos} {s:Shared},oV t->Sem.wp M Γ t Q E p s->Sem.wp M Γ t (λa p' s'=>Q a p' s'/\DK s.heap s'.heap) (λe p' s'=>E e p' s'/\DK s.heap s'.heap) p s:=by
 intro t
 induction t with
 | pure a=>intro Q E p s _ h;exact⟨h,.refl _⟩
 | raise e=>intro Q E p s _ h;exact⟨h,.refl _⟩
 | rule _ k ih=>intro Q E p s t h;exact ih () t h
 | «at» _ k ih=>intro Q E p s t h;exact ih () t h
 | load a _ k ih=>intro Q E p s t ⟨o,q,h⟩;exact⟨o,q,ih o (t o) h⟩
 | update a _ f k ih=>
  intro Q E p s t ⟨q,h⟩;refine⟨q,?_⟩;have:=ih () t.2 h;exact Sem.wp_mono _ _ _ (λa p' s' z=>⟨z.1,(DK.update t.1).trans z.2⟩) (λa p' s' z=>⟨z.1,(DK.update t.1).trans z.2⟩) _ _ this
 | alloc o k ih=>
  intro Q E p s t h;have:=ih _ (t _) h;have pu:DK s.heap (s.heap.push o):=λb o' q=>⟨o',aT _ q,rfl⟩
  exact Sem.wp_mono _ _ _ (λa p' s' z=>⟨z.1,pu.trans z.2⟩) (λa p' s' z=>⟨z.1,pu.trans z.2⟩) _ _ this
 | loadIfAlive a k ih=>intro Q E p s t h;exact ih _ (t _) h
 | point _ k ih=>intro Q E p s t h;exact ih () t h
 | stack k ih=>intro Q E p s t h;exact ih _ (t _) h
 | unsupported _=>intro Q E p s _ h;exact h.elim
 | finish _=>intro Q E p s _ h;exact h.elim
 | register _ _=>intro Q E p s _ h;exact h.elim
 | _=>intro Q E p s t h;exact False.elim t
theorem cG {α β:Type}{f:α->Sem β}: ∀{t:Sem α},oV t->(∀a,oV<|f a)->oV (t.bind f):=by
 intro t
 induction t with
 | pure a=>intro _ h;exact h a
 | raise e=>intro _ _;exact trivial
 | unsupported _=>intro _ _;exact trivial
 | finish _=>intro _ _;exact trivial
 | rule _ k ih=>intro t h;exact ih () t h
 | «at» _ k ih=>intro t h;exact ih () t h
 | load a _ k ih=>intro t h o;exact ih o (t o) h
 | update a _ f k ih=>intro t h;exact⟨t.1,ih () t.2 h⟩
 | alloc o k ih=>intro t h a;exact ih a (t a) h
 | loadIfAlive a k ih=>intro t h o;exact ih o (t o) h
 | point _ k ih=>intro t h;exact ih () t h
 | register _ _=>intro _ _;exact trivial
 | stack k ih=>intro t h l;exact ih l (t l) h
 | _=>intro t _;exact False.elim t
theorem a09 {α:Type}{M:Model}{t:Sem α}{Q:α->Shared->Prop}(c:oV t)(h:wpAny M A t Q E s):wpAny M A t (λa s'=>Q a s'/\DK s.heap s'.heap) (λe s'=>E e s'/\DK s.heap s'.heap) s:=λΓ p hin=>dG4 c (h Γ p hin)
theorem bP2 {part:Option Value}:oV (loadPart a part):=λ_=>trivial
theorem c31 (v:Value):oV (fieldsOf v):=by
 unfold fieldsOf;split
 .refine cG bP2 λo=> ?_
  split<;>exact trivial
 .exact trivial
theorem a10 (v:Value)(i:Nat):oV (PySem.field v i):=cG (c31 v) λvs=>by
 split<;>exact trivial
theorem c32 (f:Array Value->Array Value):Calm (Obj.mapFields f):=λo=>by
 obtain⟨c,d,dt,sl⟩:=o;cases dt<;>exact⟨rfl,λh=>h⟩
theorem wP (v:Value)(i:Nat)(x:Value):oV (setField v i x):=by
 unfold setField;split
 .unfold updateField;refine cG bP2 λo=> ?_
  split
  .split
   .exact⟨c32 _,trivial⟩
   .exact trivial
  .exact trivial
 .exact trivial
theorem a89 (e:Value)(f:Option Addr):oV (setFlight e f):=cG (a10 _ _) λtb=>by
 split
 .exact wP _ _ _
 .exact trivial
theorem aO1:oV stack:=λ_=>trivial
theorem cF1 (f:Addr)(b:Bool):oV (entryPlaceOf f b):=cG aO1 λl=>by
 split<;>exact trivial
theorem d24 (cls:Value)(data:Data)(d:Option Addr):oV (newObj cls data d):=by
 have as:oV (newObjAsIs cls data d):=by
  unfold newObjAsIs;refine cG (λ_=>trivial) λa=> ?_
  split
  .refine cG ?_ λb=> ?_
   .unfold classHasDel;refine cG (λ_=>trivial) λo=> ?_
    split<;>exact trivial
   .split<;>exact trivial
  .exact trivial
 unfold newObj;split<;>first|exact as| (split<;>first|exact as|exact trivial| (refine cG trivial λ_=>as))
theorem cF2 (a b c d e:Value)(pl:List Value):oV (EntryCells.newEntry a b c d e pl):=by
 unfold EntryCells.newEntry newFields;exact d24 _ _ _
theorem bB1: ∀l:List Env,oV (readyFrames l)
 | []=>trivial
 | env::outer=>by
  unfold readyFrames;split
  .refine cG (λ_=>trivial) λo=> ?_
   split
   .exact trivial
   .refine cG ?_ λb=> ?_
    .unfold behindIsImport;split
     .exact trivial
     .split
      .exact trivial
      .exact cG (a10 _ _) λ_=>trivial
    .refine cG ?_ λv=> ?_
     .unfold keptBack;split
      .split
       .exact trivial
       .exact cG (cG aO1 λ_=>trivial) λ_=>trivial
      .exact trivial
     .exact⟨λo=>⟨rfl,λh=>by obtain⟨c,d,dt,sl⟩:=o;cases dt<;>exact h⟩,bB1 outer⟩
  .exact trivial
theorem cF3 (env:Env):oV (PySem.frameOf env):=by
 unfold PySem.frameOf;refine cG (cG aO1 λ_=>trivial) λl=>cG ?_ λo=> ?_
 .unfold frameObject;split
  .exact trivial
  .exact cG (bB1 _) λ_=>trivial
 .split<;>exact trivial
theorem bP3 (e:Value)(env:Env):oV (noteFrame e env):=by
 have last: ∀h f,oV (do setField e 1 (<-EntryCells.newEntry h (<-PySem.frameOf env) .none (rawInt f) .none (<-entryPlaceOf f (h != .none)))):=λh f=>
  cG (cF3 env) λa=>cG (cF1 _ _) λb=>cG (cF2 _ _ _ _ _ _) λc=>wP _ _ _
 unfold noteFrame;split
 .refine cG (a10 _ _) λh=> ?_
  split
  .refine cG (a10 _ _) λx=> ?_
   split
   .exact trivial
   .exact cG (wP _ _ _) λ_=>last _ _
  .exact last _ _
 .exact trivial
theorem aS1 (env:Env)(e:Value):oV (leaving env e):=cG (bP3 e env) λ_=>a89 e none
def Tr (h:Heap)(e T:Addr):Prop:= ∃oe vs,h.get? e=some oe/\oe.data= .fields vs/\vs[1]? =some (.ref T)
theorem Tr.one {e T T':Addr}(a:Tr h e T)(b:Tr h e T'):T=T':=by
 obtain⟨o,vs,h1,h2,h3⟩:=a;obtain⟨o',vs',g1,g2,g3⟩:=b;rw[h1]at g1;cases g1;rw[h2]at g2;cases g2;rw[h3]at g3;cases g3;rfl
structure aH4 (fs:List Addr)(e:Addr)(h h':Heap):Prop where
 keep: ∀b o,h.get? b=some o->b ∉ fs->b≠e-> ¬Tr h e b->h'.get? b=some o
 slot:h.UpToSlots h'
 tr: ∀T,Tr h' e T->T∈fs\/T=e\/Tr h e T\/h.get? T=none
 rcd: ∀T,Tr h' e T-> ∃o vs,h'.get? T=some o/\o.data= .fields vs
structure bK0 (fs:List Addr)(e:Addr)(h h':Heap):Prop extends aH4 fs e h h' where
 dk:DK h h'
theorem bU7 {e:Addr}{cls a0:Value}(t:h.TracedAtW base e cls a0 fl): ∃T,Tr h e T/\base.get? T=none/\T≠e/\ ∃o vs,h.get? T=some o/\o.data= .fields vs:=by
 obtain⟨oe,vs,T,oT,ts,he,_,hd,h1,hb,hne,hT,hdT,_⟩:=t;exact⟨T,⟨oe,vs,he,hd,h1⟩,hb,hne,oT,ts,hT,hdT⟩
theorem qG {B:Heap}{e T:Addr}{cls a0:Value}(t:h.TracedAtW base e cls a0 fl)(x:Tr h e T)(hn:B.get? T=none):h.TracedAtW B e cls a0 fl:=by
 obtain⟨oe,vs,T',oT,ts,he,hc,hd,h1,hb,hne,hT,hdT,h3⟩:=t;obtain rfl:=x.one ⟨oe,vs,he,hd,h1⟩;exact⟨oe,vs,T,oT,ts,he,hc,hd,h1,hn,hne,hT,hdT,h3⟩
section
variable {base h:Heap}{l:List Env}{e T:Addr}{cls a0 fl:Value}
nonrec def hid (h:Heap)(l:List Env)(e T:Addr):Heap:=PySem.W.hideAll h (frs l++[e,T])
theorem xY (hb:b∈frs l\/b=e\/b=T):(hid h l e T).get? b=none:=PySem.W.hideAll_none _ (by
 rcases hb with z|z|z
 .exact d4.mpr (.inl z)
 .exact d4.mpr (.inr<|by simp[z])
 .exact d4.mpr (.inr<|by simp[z]))
theorem aS2 (q:h.get? b=some o)(h1:b ∉ frs l)(h2:b≠e)(h3:b≠T):(hid h l e T).get? b=some o:=PySem.W.hideAll_get _ q (by
 intro z;rcases d4.mp z with z|z
 .exact h1 z
 .simp at z
  exact z.elim h2 h3)
theorem a11 (f:h.FunFrames base l):h.FunFrames (hid h l e T) l:=PySem.W.funFrames_hide f λenv he b hb=>d4.mpr (.inl<|aM0.mpr ⟨env,he,hb⟩)
theorem aE6 (st:base.StaysIn h)(f:h.FunFrames base l)(he:base.get? e=none)(hT:base.get? T=none):base.StaysIn (hid h l e T):=λb o q=>aS2 (st b o q) (λz=>by rw[(f.mem z).1]at q;cases q) (λz=>by rw[z,he]at q;cases q) λz=>by rw[z,hT]at q;cases q
theorem xZ {B h':Heap}(st:base.StaysIn B): ∀{l:List Env},h'.FunFrames B l->h'.FunFrames base l
 | [],_=>trivial
 | env::_,⟨hk,⟨L,o,hf,hn,ho,hd⟩,hr⟩=>⟨hk,⟨L,o,hf,(by
   cases q:base.get? L with
   | none=>rfl
   | some u=>have:=st L u q;rw[hn]at this;cases this),ho,hd⟩,xZ st hr⟩
theorem b69 {B:Heap}(st:base.StaysIn B)(q:B.get? b=none):base.get? b=none:=by
 cases z:base.get? b with
 | none=>rfl
 | some u=>have:=st b u z;rw[q]at this;cases this
theorem bU8 {l':List Env}(x:Tr h e T)(st:(hid h l e T).StaysIn h')(t:h'.TracedAtW (hid h l e T) e cls a0 fl)(up:h.UpToSlots h'):aH4 (frs l) e h h':=by
 refine⟨λb o q h1 h2 h3=>st b o (aS2 q h1 h2 λz=>h3 (by rw[z];exact x)),up,λT' x'=> ?_,λT' x'=> ?_⟩
 .obtain⟨T2,y,hn,_,_⟩:=bU7 t;obtain rfl:=x'.one y
  by_cases c1:T'∈frs l
  .exact .inl c1
  by_cases c2:T'=e
  .exact .inr (.inl c2)
  by_cases c3:T'=T
  .exact .inr (.inr<|.inl (by rw[c3];exact x))
  refine .inr (.inr<|.inr ?_)
  cases q:h.get? T' with
  | none=>rfl
  | some o=>rw[aS2 q c1 c2 c3]at hn;cases hn
 .obtain⟨T2,y,_,_,z⟩:=bU7 t;obtain rfl:=x'.one y;exact z
end
section
variable {M:Model}{A:Around}{E:Value->Shared->Prop}{s:Shared}{base:Heap}{env:Env}{outer:List Env}{L e:Addr}{cls a0:Value}{Q:Unit->Shared->Prop}
theorem cF4 (hfr:A.frames=some (env::outer))(hf:env.frame=some L)(F:FlyingW base (env::outer) e cls a0 s.heap)
  (hQ: ∀h',FlyingW base outer e cls a0 h'->aH4 (frs (env::outer)) e s.heap h'->Q () {s with heap:=h'}):wpAny M A (leaving env<|.ref e) Q E s:=by
 obtain⟨f1,f2,f3,f4⟩:=F;obtain⟨T,x,hT,_,_⟩:=bU7 (fl:= .none) f4;have stB:=aE6 (T:=T) f1 f3 f2 hT;refine wpAny_leaves_onW (base:=hid s.heap (env::outer) e T) hfr hf ⟨λb o q=>u8 _ q,xY<|.inr<|.inl rfl,a11 f3,qG (fl:= .none) f4 x<|xY<|.inr<|.inr rfl⟩ λh' F' up=> ?_
 obtain⟨g1,g2,g3,g4⟩:=F';obtain⟨T',x',hT',_,_⟩:=bU7 (fl:= .none) g4;exact hQ h' ⟨λb o q=>g1 b o (stB b o q),f2,xZ stB g3,qG (fl:= .none) g4 x'<|b69 stB hT'⟩ (bU8 (l':=outer) x g1 g4 up)
theorem cQ9 (hfr:A.frames=some (env::outer))(hf:env.frame=some L)(F:FlyingW base (env::outer) e cls a0 s.heap)
  (hQ: ∀h',HeldW base (env::outer) e cls a0 L h'->aH4 (frs (env::outer)) e s.heap h'->Q () {s with heap:=h'}):wpAny M A (noteFrame (.ref e) env) Q E s:=by
 obtain⟨f1,f2,f3,f4⟩:=F;obtain⟨T,x,hT,_,_⟩:=bU7 (fl:= .none) f4;have stB:=aE6 (T:=T) f1 f3 f2 hT;refine wpAny_looks_onW (base:=hid s.heap (env::outer) e T) hfr hf ⟨λb o q=>u8 _ q,xY<|.inr<|.inl rfl,a11 f3,qG (fl:= .none) f4 x<|xY<|.inr<|.inr rfl⟩ λh' F' up=> ?_
 obtain⟨g1,g2,g3,g4⟩:=F';obtain⟨T',x',hT',_,_⟩:=bU7 g4;exact hQ h' ⟨λb o q=>g1 b o (stB b o q),f2,xZ stB g3,qG g4 x'<|b69 stB hT'⟩ (bU8 (l':=outer) x g1 g4 up)
theorem cR0 {l:List Env}(F:base.StaysIn s.heap/\base.get? e=none/\s.heap.FunFrames base l/\s.heap.TracedAtW base e cls a0 fl)
  (hQ: ∀h',FlyingW base l e cls a0 h'->aH4 (frs l) e s.heap h'->Q () {s with heap:=h'}):wpAny M A (setFlight (.ref e) none) Q E s:=by
 obtain⟨f1,f2,f3,f4⟩:=F;obtain⟨T,x,hT,_,_⟩:=bU7 f4;have stB:=aE6 (T:=T) f1 f3 f2 hT;refine wpAny_setFlight_noneW (base:=hid s.heap l e T) (λb o q=>u8 _ q) (a11 f3) (qG f4 x<|xY<|.inr<|.inr rfl) λh' g1 g3 g4 up=> ?_
 obtain⟨T',x',hT',_,_⟩:=bU7 (fl:= .none) g4;exact hQ h' ⟨λb o q=>g1 b o (stB b o q),f2,xZ stB g3,qG (fl:= .none) g4 x'<|b69 stB hT'⟩ (bU8 (l':=l) (fl:= .none) x g1 g4 λb o q n=>⟨o.slots,up b o q n⟩)
theorem bU9 (hfr:A.frames=some (env::outer))(hl:s.heap.FunFrames base (env::outer))(hf:env.frame=some L)(he:s.heap.get? e=some oe)(hkb:base.StaysIn s.heap)(hen:base.get? e=none)(hd:oe.data= .fields vs)(h1:vs[1]? =some .none)(h0:vs[0]? =some a0)
  (hQ: ∀h',FlyingW base outer e oe.cls a0 h'->aH4 (frs (env::outer)) e s.heap h'->Q () {s with heap:=h'}):wpAny M A (leaving env<|.ref e) Q E s:=by
 have stB:=aE6 (e:=e) (T:=e) hkb hl hen hen;have nt: ∀T,¬Tr s.heap e T:=by
  rintro T ⟨o,ws,k1,k2,k3⟩;rw[he]at k1;cases k1;rw[hd]at k2;cases k2;rw[h1]at k3;cases k3
 refine wpAny_leaving_firstW (base:=hid s.heap (env::outer) e e) hfr (a11 hl) hf he (λb o q=>u8 _ q) (xY<|.inr<|.inl rfl) hd h1 h0 λh' F'=> ?_
 obtain⟨g1,⟨_,_,g3⟩,g4,up⟩:=F';obtain⟨T',x',hT',hne,hrec⟩:=bU7 (fl:= .none) g4;refine hQ h' ⟨λb o q=>g1 b o (stB b o q),hen,xZ stB g3,qG (fl:= .none) g4 x'<|b69 stB hT'⟩ ⟨λb o q k1 k2 _=>g1 b o (aS2 q k1 k2 k2),up,λT x2=> ?_,λT x2=> ?_⟩
 .obtain rfl:=x2.one x'
  by_cases c1:T∈frs (env::outer)
  .exact .inl c1
  refine .inr (.inr<|.inr ?_)
  cases q:s.heap.get? T with
  | none=>rfl
  | some o=>rw[aS2 q c1 hne hne]at hT';cases hT'
 .obtain rfl:=x2.one x';exact hrec
theorem cR1 (hfr:A.frames=some (env::outer))(hf:env.frame=some L)(F:FlyingW base (env::outer) e cls a0 s.heap)
  (hQ: ∀h',FlyingW base outer e cls a0 h'->bK0 (frs (env::outer)) e s.heap h'->Q () {s with heap:=h'}):wpAny M A (leaving env<|.ref e) Q E s:=
 bG (a09 (aS1 env<|.ref e)<|cF4 (Q:=λ_ s'=> ∃h',s'={s with heap:=h'}/\FlyingW base outer e cls a0 h'/\aH4 (frs (env::outer)) e s.heap h') hfr hf F λh' a b=>⟨h',rfl,a,b⟩) (λ_ s' ⟨⟨h',q,a,b⟩,dk⟩=>by subst q;exact hQ h' a ⟨b,dk⟩) λ_ _ z=>z.1
theorem c33 (hfr:A.frames=some (env::outer))(hf:env.frame=some L)(F:FlyingW base (env::outer) e cls a0 s.heap)
  (hQ: ∀h',HeldW base (env::outer) e cls a0 L h'->bK0 (frs (env::outer)) e s.heap h'->Q () {s with heap:=h'}):wpAny M A (noteFrame (.ref e) env) Q E s:=
 bG (a09 (bP3 (.ref e) env)<|cQ9 (Q:=λ_ s'=> ∃h',s'={s with heap:=h'}/\HeldW base (env::outer) e cls a0 L h'/\aH4 (frs (env::outer)) e s.heap h') hfr hf F λh' a b=>⟨h',rfl,a,b⟩) (λ_ s' ⟨⟨h',q,a,b⟩,dk⟩=>by subst q;exact hQ h' a ⟨b,dk⟩) λ_ _ z=>z.1
theorem aS3 {l:List Env}(F:base.StaysIn s.heap/\base.get? e=none/\s.heap.FunFrames base l/\s.heap.TracedAtW base e cls a0 fl)
  (hQ: ∀h',FlyingW base l e cls a0 h'->bK0 (frs l) e s.heap h'->Q () {s with heap:=h'}):wpAny M A (setFlight (.ref e) none) Q E s:=
 bG (a09 (a89 (.ref e) none)<|cR0 (Q:=λ_ s'=> ∃h',s'={s with heap:=h'}/\FlyingW base l e cls a0 h'/\aH4 (frs l) e s.heap h') F λh' a b=>⟨h',rfl,a,b⟩) (λ_ s' ⟨⟨h',q,a,b⟩,dk⟩=>by subst q;exact hQ h' a ⟨b,dk⟩) λ_ _ z=>z.1
theorem c34 (hfr:A.frames=some (env::outer))(hl:s.heap.FunFrames base (env::outer))(hf:env.frame=some L)(he:s.heap.get? e=some oe)(hkb:base.StaysIn s.heap)(hen:base.get? e=none)(hd:oe.data= .fields vs)(h1:vs[1]? =some .none)(h0:vs[0]? =some a0)
  (hQ: ∀h',FlyingW base outer e oe.cls a0 h'->bK0 (frs (env::outer)) e s.heap h'->Q () {s with heap:=h'}):wpAny M A (leaving env<|.ref e) Q E s:=
 bG (a09 (aS1 env<|.ref e)<|bU9 (Q:=λ_ s'=> ∃h',s'={s with heap:=h'}/\FlyingW base outer e oe.cls a0 h'/\aH4 (frs (env::outer)) e s.heap h') hfr hl hf he hkb hen hd h1 h0 λh' a b=>⟨h',rfl,a,b⟩) (λ_ s' ⟨⟨h',q,a,b⟩,dk⟩=>by subst q;exact hQ h' a ⟨b,dk⟩) λ_ _ z=>z.1
end
structure Fly (base:Heap)(l:List Env)(e C:Addr)(H:Hp)(h:Heap):Prop where
 fl: ∃a0,FlyingW base l e (.ref C) a0 h
 he:H e=none
 ht: ∀T,Tr h e T->H T=none
structure bP4 (g:Heap)(e:Addr)(h:Heap):Prop where
 he:g.get? e=none
 ht: ∀T,Tr h e T->g.get? T=none
def XAt (h:Heap)(a:Addr)(o:Option Addr):Prop:= ∀d,o=some d-> ∃oe,h.get? a=some oe/\oe.dict=some d
theorem XAt.dk {o:Option Addr}(x:XAt h a o)(k:DK h h'):XAt h' a o:=λd q=>by
 obtain⟨oe,e1,e2⟩:=x d q;obtain⟨o',e3,e4⟩:=k a oe e1;exact⟨o',e3,e4.trans e2⟩
nonrec def CXr (P:Program)(w:World)(base:Heap):CXT:=λouter H s E e s'=> ∃a C o H',e= .ref a/\s'.os=s.os/\AllBare s'.gens/\Un (frs outer) [] H H' s.heap s'.heap/\HOk P w H' s'.heap/\Fly base outer a C H' s'.heap/\bP4 s.heap a s'.heap/\XAt s'.heap a o/\E (.ref C) o H'
section
variable {P:Program}{w:World}{H H0:Hp}{h h':Heap}{fs:List Addr}{e:Addr}
theorem HOk.past (x:HOk P w H h)(p:bK0 fs e h h')(hf: ∀b∈fs,H b=none)(he:H e=none)(ht: ∀T,Tr h e T->H T=none):HOk P w H h':=λa o q=>
 (x a o q).stay (λb u hb r=>by
  have tracked:H b≠none:=by
   rcases hb with rfl|hb
   .rw[q];simp
   .rw[hb];simp
  exact p.keep b u r (λz=>tracked (hf b z)) (λz=>tracked (by rw[z];exact he)) λz=>tracked (ht b z)) (λ_ q=>q) λ_ _ q=>q
theorem HOk.there (x:HOk P w H h)(n:h.get? b=none):H b=none:=by
 cases q:H b with
 | none=>rfl
 | some o=>
  exfalso
  have hh: ∃ob,h.get? b=some ob:=by
   have y:=x b o q;cases o with
   | lst xs=>obtain⟨_,_,_,_,e⟩:=y;exact⟨_,e⟩
   | tup xs=>obtain⟨_,_,_,ob,e,_⟩:=y;exact⟨_,e⟩
   | dK kvs=>obtain⟨_,_,_,_,o,_,_,e,_⟩:=y;exact⟨_,e⟩
   | dT kvs=>obtain⟨_,_,_,_,o,_,_,e,_⟩:=y;exact⟨_,e⟩
   | set S n=>obtain⟨o,_,_,_,e,_⟩:=y;exact⟨_,e⟩
   | ins C dx fs=>obtain⟨_,_,_,e,_⟩:=y;exact⟨_,e⟩
   | own y'=>exact y
   | xd fs=>obtain⟨_,⟨_,_,_,e,_⟩,_⟩:=y;exact⟨_,e⟩
   | rng lo hi=>obtain⟨_,_,_,e⟩:=y;exact⟨_,e⟩
   | frz ob u=>obtain⟨e,_⟩:=y;exact⟨_,e⟩
   | tbl ps=>exact⟨_,(show h.get? b=some _ from y)⟩
   | met f y'=>exact⟨_,(show h.get? b=some _ from y)⟩
   | ext φ=>obtain⟨_,e,_⟩:=y;exact e
  obtain⟨ob,e⟩:=hh;rw[n]at e;cases e
theorem aE7 (x:HOk P w H h)(p:bK0 fs e h h')(hf: ∀b∈fs,H b=none)(he:H e=none)(ht: ∀T,Tr h e T->H T=none): ∀T,Tr h' e T->H T=none:=λT q=>by
 rcases p.tr T q with z|z|z|z
 .exact hf T z
 .rw[z];exact he
 .exact ht T z
 .exact x.there z
end
section
variable {X:Cx}{pins:List (Addr×Obj)}{σ:St}{H:Hp}{s:Shared}{h':Heap}{e:Addr}
theorem Un.past {fs fs':List Addr}{H0:Hp}{L:Addr}(u:Un fs [] H0 H g s.heap)(p:bK0 fs' e s.heap h')(hfs: ∀b∈fs',b=L\/b∈fs)(hL:g.get? L=none)(ne:g.get? e=none)(nt: ∀T,Tr s.heap e T->g.get? T=none)(hd: ∀b∈fs,∀o,s.heap.get? b=some o-> ∀vs,o.data≠ .fields vs):Un fs [] H0 H g h' where
 keep:=λb o q n hb hx=>p.keep b o (u.keep b o q n hb hx) (λz=>by
  rcases hfs b z with z|z
  .rw[z,hL]at q;cases q
  .exact hb z) (λz=>by rw[z,ne]at q;cases q) λz=>by rw[nt b z]at q;cases q
 slot:=λb o q n hb hx=>by
  obtain⟨sl,e1⟩:=u.slot b o q n hb hx;obtain⟨sl',e2⟩:=p.slot b _ e1 (hd b hb _ e1);exact⟨sl',e2⟩
 free:=u.free
 there:=λb o q hx=>by
  obtain⟨o',e1⟩:=u.there b o q hx
  by_cases c:b∈fs
  .obtain⟨sl,e2⟩:=p.slot b _ e1 (hd b c _ e1);exact⟨_,e2⟩
  .exact⟨o',p.keep b o' e1 (λz=>by
    rcases hfs b z with z|z
    .rw[z,hL]at q;cases q
    .exact c z) (λz=>by rw[z,ne]at q;cases q) λz=>by rw[nt b z]at q;cases q⟩
 tups:=u.tups
 frzs:=u.frzs
 tbls:=u.tbls
end
section
variable {P:Program}{w:World}{K:PySem.W.Frag}{mg:Str->Option Value}{base:Heap}{N:List Str}{qual:Str}{scope:Scope}{f:Addr}{cd:Value}{A:Around}{outer:List Env}{s0:Shared}{H0:Hp}{E:XK}{CX:CXT}
theorem d25 {σ:St}{H:Hp}{o:Option Addr}(I:Inv (qE (CXr P w base) P w K mg base N qual scope f cd A outer s0 H0 E) pins σ H s')(F:Fly base (envOfC qual scope s0.heap.objs.size f cd::outer) a C H s'.heap)(nw:bP4 s0.heap a s'.heap)(xa:XAt s'.heap a o)(hE:E (.ref C) o H) :
  (qE (CXr P w base) P w K mg base N qual scope f cd A outer s0 H0 E).xe (.ref a) s':=by
 obtain⟨⟨a0,fl⟩,he,ht⟩:=F;have fr:(A.deeper<|envOfC qual scope s0.heap.objs.size f cd).frames=some (envOfC qual scope s0.heap.objs.size f cd::outer):=I.ok.frames;have sf: ∀b∈frs (envOfC qual scope s0.heap.objs.size f cd::outer),H b=none:=I.stkFree;have fm: ∀b∈frs (envOfC qual scope s0.heap.objs.size f cd::outer),b=s0.heap.objs.size\/b∈frs outer:=λb hb=>by
  unfold frs at hb⊢;rw[iQ]at hb;have e:(envOfC qual scope s0.heap.objs.size f cd).frame=some s0.heap.objs.size:=rfl;rw[e]at hb;exact aZ.mp hb
 show wpAny _ _ (leaving _<|.ref a) _ _ s'
 refine cR1 fr (L:=s0.heap.objs.size) rfl fl λh' fl' p=> ?_
 have hd: ∀b∈frs outer,∀o,s'.heap.get? b=some o-> ∀vs,o.data≠ .fields vs:=λb hb o q=>by
  obtain⟨_,o',q',n⟩:=fl.2.2.1.mem (b:=b) (by
   unfold frs at hb;rw[iQ];have e:(envOfC qual scope s0.heap.objs.size f cd).frame=some s0.heap.objs.size:=rfl;rw[e];exact aZ.mpr (.inr hb))
  rw[q]at q';cases q';exact n
 have un:Un (frs outer) [] H0 H s0.heap h':=I.base.past p fm (kJ<|aG _) nw.he nw.ht hd;refine⟨a,C,o,H,rfl,I.os,I.bare,un,I.hok.past p sf he ht,⟨⟨a0,fl'⟩,he,aE7 I.hok p sf he ht⟩,⟨nw.he,λT q=> ?_⟩,xa.dk p.dk,hE⟩
 rcases p.tr T q with z|z|z|z
 .rcases fm T z with z|z
  .rw[z];exact kJ (aG _)
  .exfalso
   obtain⟨o,vs,q1,q2⟩:=p.rcd T q;obtain⟨_,o',q',n⟩:=fl'.2.2.1.mem (b:=T) z;rw[q1]at q';cases q';exact n vs q2
 .rw[z];exact nw.he
 .exact nw.ht T z
 .cases r:s0.heap.get? T with
  | none=>rfl
  | some o=>
   obtain⟨o',q'⟩:=I.base.there T o r (show T ∉ ([]:List Addr)by simp)
   rw[z]at q';cases q'
theorem bP5:uL (CXr P w base) (qE (CXr P w base) P w K mg base N qual scope f cd A outer s0 H0 E) E:=by
 rintro pins σ H s e s' I ⟨a,C,o,H',rfl,ho,hb,un,hok,F,nw,xa,hE⟩;have I':=I.call' (s':=s') ho un hok hb (λb z=>absurd z ae)
 refine d25 I' F ⟨?_,λT q=> ?_⟩ xa hE
 .cases r:s0.heap.get? a with
  | none=>rfl
  | some o=>
   obtain⟨o',q'⟩:=I.base.there a o r (show a ∉ ([]:List Addr)by simp)
   rw[nw.he]at q';cases q'
 .have:=nw.ht T q;cases r:s0.heap.get? T with
  | none=>rfl
  | some o=>
   obtain⟨o',q'⟩:=I.base.there T o r (show T ∉ ([]:List Addr)by simp)
   rw[this]at q';cases q'
end
inductive XO (h:Heap) (C N:Addr) (bm:List Value) (newId:String):Prop
 | mk (nm q:Str) (bs:List Value) (hd:Bool) (sn:List Str) (sub:List Value) (ab:Bool) (col:Option Bool) (dd:Option Addr) (k0 k1 k2 k3 k5:Option Value) (o:h.get? C=some (excClassObj nm q C N bs bm hd sn sub ab col dd k0 k1 k2 k3 k5 newId)):XO h C N bm newId
inductive XCls (h:Heap) (C:Addr) (bmB bm:List Value) (newId:String):Prop
 | mk (N:Addr) (mN:Str->Option Value) (o:XO h C N bm newId) (n:h.Ns N mN) (i:mN "__init__"=none) (t:OwnTail h bmB bm):XCls h C bmB bm newId
theorem b70 (X:K.In h)(q:excIn K C bmB newId=true): ∃bm,XCls h C bmB bm newId:=by
 unfold excIn at q;split at q
 .rename_i od ck slots look
  split at q
  .rename_i C2 tail a0 a1 a2 a3 nid a5 em es
   simp only[cZ,eX,aM6]at q;obtain⟨⟨⟨⟨⟨rfl,rfl⟩,nodel⟩,tk⟩,nk⟩,ni⟩:=q;obtain⟨c1,c2,c3,c4,c5,c6,c7,c8,c9,c10,c11⟩:=ck;dsimp only at em nodel nk ni;subst em nodel;obtain⟨sll⟩:=slots;simp only at es;subst es;exact⟨tail,_,_,⟨_,_,_,_,_,_,_,_,_,_,_,_,_,_,X _ _ look⟩,.of_isNs<|PySem.W.isNs_of_in X nk,PySem.W.nsMap_none_of_in X nk ni,PySem.W.tail_of_in X tk⟩
  .cases q
 .cases q
section
variable {X:Cx}{E:XK}{C:Addr}
def bB2 (X:Cx)(E:XK)(C:Addr):Prop:= ∀(pins:List (Addr×Obj)) (σ:St) (H:Hp) (s:Shared) (a:Addr) (oe:Obj) (vs:Array Value) (a0:Value) (o:Option Addr),Inv X pins σ H s->s.heap.get? a=some oe->oe.cls= .ref C->oe.data= .fields vs->vs[0]? =some a0->vs[1]? =some .none->H a=none->X.s₀.heap.get? a=none->XAt s.heap a o->E (.ref C) o H->X.xe (.ref a) s
theorem bV0 {cd:Value}{s0:Shared}{H0:Hp} :
  bB2 (qE (CXr P w base) P w K mg base N qual scope f cd A outer s0 H0 E) E C:=by
 intro pins σ H s a oe vs a0 o I he hc hd h0 h1 nH n0 xa hE;have fr:(A.deeper<|envOfC qual scope s0.heap.objs.size f cd).frames=some (envOfC qual scope s0.heap.objs.size f cd::outer):=I.ok.frames;have sf: ∀b∈frs (envOfC qual scope s0.heap.objs.size f cd::outer),H b=none:=I.stkFree;have fl0:s.heap.FunFrames base (envOfC qual scope s0.heap.objs.size f cd::outer):=I.stack
 have fe:(envOfC qual scope s0.heap.objs.size f cd).frame=some s0.heap.objs.size:=rfl;have fm: ∀b∈frs (envOfC qual scope s0.heap.objs.size f cd::outer),b=s0.heap.objs.size\/b∈frs outer:=λb hb=>by
  unfold frs at hb⊢;rw[iQ,fe]at hb;exact aZ.mp hb
 have nt: ∀T,¬Tr s.heap a T:=by
  rintro T ⟨o,ws,k1,k2,k3⟩;rw[he]at k1;cases k1;rw[hd]at k2;cases k2;rw[h1]at k3;cases k3
 have nb:base.get? a=none:=by
  cases q:base.get? a with
  | none=>rfl
  | some o=>rw[(I.ok.bs a o q).1]at n0;cases n0
 have st:base.StaysIn s.heap:=I.bk;show wpAny _ _ (leaving _<|.ref a) _ _ s;refine c34 fr fl0 (L:=s0.heap.objs.size) rfl he st nb hd h1 h0 λh' fl' p=> ?_
 rw[hc]at fl';have hdf: ∀b∈frs outer,∀o,s.heap.get? b=some o-> ∀vs,o.data≠ .fields vs:=λb hb o q=>by
  obtain⟨_,o',q',n⟩:=fl0.mem (b:=b) (by
   unfold frs at hb;rw[iQ,fe];exact aZ.mpr (.inr hb))
  rw[q]at q';cases q';exact n
 have un:Un (frs outer) [] H0 H s0.heap h':=I.base.past p fm (kJ<|aG _) n0 (λT q=>absurd q (nt T)) hdf
 have ht: ∀T,Tr s.heap a T->H T=none:=λT q=>absurd q (nt T)
 refine⟨a,C,o,H,rfl,I.os,I.bare,un,I.hok.past p sf nH ht,⟨⟨a0,fl'⟩,nH,aE7 I.hok p sf nH ht⟩,⟨n0,λT q=> ?_⟩,xa.dk p.dk,hE⟩
 rcases p.tr T q with z|z|z|z
 .rcases fm T z with z|z
  .rw[z];exact kJ (aG _)
  .exfalso
   obtain⟨o,ws,q1,q2⟩:=p.rcd T q;obtain⟨_,o',q',n⟩:=fl'.2.2.1.mem (b:=T) z;rw[q1]at q';cases q';exact n ws q2
 .rw[z];exact n0
 .exact absurd z (nt T)
 .cases r:s0.heap.get? T with
  | none=>rfl
  | some o=>
   obtain⟨o',q'⟩:=I.base.there T o r (show T ∉ ([]:List Addr)by simp)
   rw[z]at q';cases q'
def d26 (C:Addr)(E:XK)(ta:TA):TS:=λ_ σ H=>ta σ H λvs H1=>vs.length<=sizeLine/\E (.ref C) none H1
theorem d27 {ta:TA}{B:String}(FB:ExcBaseFacts B newId initId bmB)(q:excIn X.K C bmB newId=true)(hg:Gl X x)(hm:X.mg x=some (.ref C))(hc:X.calm=true)(ha:PA X (e::es) ta)(th:bB2 X E C)
  (he:↥(starEach (e::es) X.env=(false,eval e X.env)::starEach es X.env)) (hpl:↥((backTo cpos<|starEach es X.env).any (·.1)=false)) (hd:⇑(x∪0)) (hex:↥(X.ex=[])) :
  PS X (.Raise (some<|.Call (.Name x np) (e::es) [] cpos) none pos) (d26 C E ta):=by
 intro pins s σ H D I h;obtain⟨bm,N,mN,⟨nm,qn,bs,hdd,sn,sub,ab,col,dd,k0,k1,k2,k3,k5,hC⟩,hN,hni,tl⟩:=b70 I.mod.kin q;have keepS: ∀{pins:List (Addr×Obj)} {σ:St} {H:Hp} {s2:Shared},Inv X pins σ H s2-> ∀b o,X.base.get? b=some o->s2.heap.get? b=some o:=λJ=>J.bk
 refine wpAny_Raise_call_subT (C:=C) (nm:=nm) (q:=qn) (N:=N) (bs:=bs) (bm:=bm) (hdct:=hdd) (sn:=sn) (sub:=sub) (ab:=ab) (col:=col) (dd:=dd) (k0:=k0) (k1:=k1) (k2:=k2) (k3:=k3) (k5:=k5) FB (mN:=mN) (tl.hasType FB.hasBase) (I.ok.hd hc) ?_ hni (rG I hg hm ⟨rfl,?_⟩ hd)
 .rw[he];show(false||(backTo cpos<|starEach es X.env).any (·.1))=false;rw[hpl];rfl
 .have hh:=ha cpos pins s σ H _ I h;rw[he]at hh⊢;refine aL1 (bG hh (λus s2 ⟨vs,H1,I1,r1,q1⟩=>⟨rfl,by rw[<-r1.length];exact q1.1,keepS I1 _ _ hC,hN.keeps<|keepS I1,tl.keeps<|keepS I1,λh' a mk=> ?_⟩) λ_ _ y=>y)
  obtain⟨t,m1,m2,m3⟩:=mk.there;have I2:Inv X pins σ H1 {s2 with heap:=h'}:=I1.kept mk.keeps;refine th pins σ H1 _ a _ _ (.ref t) none I2 m1 rfl rfl rfl rfl (I1.hok.there mk.new) ?_ (λd z=>by cases z) q1.2
  cases r:X.s₀.heap.get? a with
  | none=>rfl
  | some o=>
   obtain⟨o',q'⟩:=I1.base.there a o r (by rw[hex];simp)
   rw[mk.new]at q';cases q'
end
section
variable {prog:Program}{w:World}{A:Around}{E:Value->Shared->Prop}{hp:Heap}{gn:Array GenState}{dr:Drawn}{tn:Nat}{os:OsState}
variable {nm qn:Str}{C N:Addr}{bs bm bmB:List Value}{hdd:Bool}{sn:List Str}{sub:List Value}{ab:Bool}{col:Option Bool}{dd:Option Addr}{k0 k1 k2 k3 k5:Option Value}{B newId initId:String}
theorem cF5 (F:ExcBaseFacts B newId initId bmB)(T:OwnTail hp bmB bm){mN:Str->Option Value}{oI:Obj}{Q:Fin->Shared->Prop}
  (hC:hp.get? C=some (excClassObj nm qn C N bs bm hdd sn sub ab col dd k0 k1 k2 k3 k5 newId)) (hN:hp.Ns N mN) (hini:mN "__init__"=some (.ref fI)) (hfun:hp.get? fI=some oI) (hcls:oI.cls= .type "function")
  (hgo: ∀h' e,MadeExcOf hp h' e (.ref C) us->wpAny (model prog w) A (call (.ref fI) (.ref e::us)) (λr s'=>r= .none/\Q (.done<|.ret<|.ref e) s') E ⟨h',gn,dr,tn,os⟩) (hus:us.length<=sizeLine) :
  wpAny (model prog w) A (Builtin.«type.__call__» ⟨.ref C::us,[]⟩) Q E ⟨hp,gn,dr,tn,os⟩:=by
 repeat (first
  | with_reducible refine jN hC ?_
  | with_reducible refine wpAny_madeBy_exc hC ?_
  | wp_step)
 refine codeAny_call_builtin_code (aM2 _ F.quiet) (wpAny_check_new_subT F T hC ?_)
 refine codeAny_exc_new_subT F T hC ?_ hus
 show wpAny _ _ _ _ _ _
 generalize ea:({cls:= .type "tuple",data:= .seq us.toArray}:Obj)=oa;generalize eb:({cls:= .ref C,data:= .fields #[.ref hp.objs.size,.none,.none,.none,.bool false,.none]}:Obj)=ob;have up: ∀b o,hp.get? b=some o->((hp.push oa).push ob).get? b=some o:=λb o q=>aT _ (aT _ q)
 have g1:=up _ _ hC;have g2:=up _ _ hfun;have g3:=hN.keeps up;have g4:((hp.push oa).push ob).get? (hp.objs.size+1)=some ob:=by
  subst ea eb
  heap_get
 have g5:((hp.push oa).push ob).get? hp.objs.size=some oa:=by
  subst ea;exact aT _ (Heap.get?_push_at rfl rfl)
 have g6:=T.keeps up;have me:(Value.ref C::bm).contains (.ref C)=true:=ae
 have ec:ob.cls= .ref C:=by rw[<-eb]
 unfold isInstance
 repeat (first
  | (with_reducible refine jN g4 ?_;rw[ec])
  | (with_reducible refine pM g1 ?_;rw[me])
  | wp_step)
 show wpAny _ _ (typeLookup (.ref C) _) _ _ _
 refine wpAny_typeLookup_tail g1 g3 g6 F.mroIs F.init.lookup ?_
 rw[hini];refine gH (a9 ?_);unfold bindSpecial;refine a9 (zW (T:="function") ⟨_,g2,hcls⟩ ?_);rw[aA ac]
 have mk:MadeExcOf hp ((hp.push oa).push ob) (hp.objs.size+1) (.ref C) us:=⟨up,kJ<|uF _,hp.objs.size,by rw[g4,<-eb],kJ<|aG _,by rw[g5,<-ea]⟩
 refine aH (a9<|bG (hgo _ _ mk) (λr s' z=> ?_) λ_ _ z=>z)
 obtain⟨rfl,z⟩:=z
 wp_walk
 exact z
theorem xcall (F:ExcBaseFacts B newId initId bmB)(T:OwnTail hp bmB bm){mN:Str->Option Value}{oI:Obj}
  (hC:hp.get? C=some (excClassObj nm qn C N bs bm hdd sn sub ab col dd k0 k1 k2 k3 k5 newId)) (hN:hp.Ns N mN) (hini:mN "__init__"=some (.ref fI)) (hfun:hp.get? fI=some oI) (hcls:oI.cls= .type "function")
  (hgo: ∀h' e,MadeExcOf hp h' e (.ref C) us->wpAny (model prog w) (A.under<|.builtin "type.__call__" ⟨.ref C::us,[]⟩) (call (.ref fI) (.ref e::us)) (λr s'=>r= .none/\Q (.ref e) s') E ⟨h',gn,dr,tn,os⟩) (hus:us.length<=sizeLine) :
  wpAny (model prog w) A (call (.ref C) us) Q E ⟨hp,gn,dr,tn,os⟩:=by
 have t1:=tc_lookup;have t2:=tc_bind (.ref C);have t3:(⟨hp,gn,dr,tn,os⟩:Shared).TypeIs (.ref C) "type":=⟨_,hC,rfl⟩;refine nP (codeAny_of_tree ?_);show wpAny _ _ (callAny (.ref C) _) _ _ _
 repeat (any_goals (first
  | assumption
  | with_reducible refine jN hC ?_
  | wp_step))
 refine⟨rfl,?_⟩
 exact codeAny_call_builtin_at (aM2 _ af) entry_typeCall (wpAny_check_type_call_sub hC<|cF5 F T hC hN hini hfun hcls (λh' e mk=>hgo h' e mk) hus)
end
open Builtin Builtin.ObjectAttr
nonrec def veMro:List Value:=[.type "ValueError",.type "Exception",.type "BaseException",.type "object"]
nonrec def uP:List Value->Bool
 | []=>false
 | v::r=>(v::r)==veMro||match v with
  | .ref _=>uP r
  | _=>false
theorem b21 (self:Value): ∀{l:List Value},uP l=true->refuseLoop self "__setattr__" l=pure ()
 | v::r,e=>by
  unfold uP at e;rcases Bool.or_eq_true_iff.mp e with q|q
  .rw[eX.mp q];exact PySem.F.store_ValueError.passes self
  .split at q
   .rw[refuseLoop_ref];exact b21 self q
   .cases q
theorem bB3: ∀{l:List Value},uP l=true->l.contains (.type "object")=true/\l.isEmpty=false
 | v::r,e=>by
  refine⟨?_,rfl⟩
  unfold uP at e;rcases Bool.or_eq_true_iff.mp e with q|q
  .rw[eX.mp q];decide
  .split at q
   .rw[zF,(bB3 q).1,zY]
   .cases q
section
variable {K:PySem.W.Frag}{prog:Program}{w:World}{A:Around}{E:Value->Shared->Prop}{s:Shared}{x C:Addr}{mA:Str->Option Value}{ns:List Str}{name:Str}{v:Value}{cd:ClassData}
theorem xosa {R:Result->Shared->Prop}{tk:Tok}(X:K.In s.heap)(hc:PySem.W.clsIn K C=some cd)(hm:uP cd.mro=true)(hdct:cd.hasDict=true)(ht:PySem.W.findIn K (.ref C) name=some none)
  (I:s.heap.Inst x C mA) (hw:Within mA ns) (hsz:ns.length<=100) {od:Option Obj} {o:Obj} (hx:s.heap.get? x=some o) (J:InstAt s.heap x o C od)
  (hq: ∀h' tk,h'.Inst x C (λy=>if y=name then some v else mA y)->(∀b o,b≠x->(∀o0 dx,s.heap.get? x=some o0->o0.dict=some dx->b≠dx)->s.heap.get? b=some o->h'.get? b=some o)->
   (∀o0,s.heap.get? x=some o0-> ∃o1,h'.get? x=some o1/\o1.cls=o0.cls/\o1.data=o0.data/\ ∀dx,o1.dict=some dx->o0.dict=some dx\/(s.heap.objs.size<=dx))->R (.ok<|.ret .none) {s with heap:=h',toks:=tk}) :
  codeAny (model prog w) A (.call (.builtin "object.__setattr__") ⟨[.ref x,.str name tk,v],[]⟩) R s:=by
 have SF:=PySem.F.store_ValueError;have sub:PySem.W.Looks (model prog w) s.heap (isInstance (.ref x)<|.type "object") true:=J.type.andThen (PySem.W.looks_mroIn X (by unfold PySem.W.mroIn;rw[hc,bind_some,a8 (by rw[(bB3 hm).2];decide),(bB3 hm).1]))
 refine aL3 SF.slot.plain SF.entry (@PySem.W.check_slot (model prog w) _ _ s "object.__setattr__" "object" "__setattr__" (.ref x) [.str name tk,v] [] _ SF.kind SF.split sub (SF.args (.ref x) (.str name tk) v) ?_)
 have hmr:PySem.W.Looks (model prog w) s.heap (mroOf<|.ref C) cd.mro:=(aL8 X hc).andThen .now;rw[PySem.W.osa_eq,refuse_eq];refine a9 (a9<|J.type.here<|a9<|hmr.here ?_);rw[b21 _ hm];refine aH (a9<|J.type.here<|a9<|(PySem.W.looks_findIn X ht).here<|a9<|aH ?_);have lc:=aL8 (M:=model prog w) X hc;obtain⟨o',hx',hcl,hnc,hdd⟩:=I;rw[hx]at hx';cases hx';refine a9 (aH ?_);refine a9 ?_
 show wpAny _ _ (instanceDict x true) _ _ s
 unfold instanceDict;refine a9 (wpAny_loadPart hx ?_);rw[hcl];right;refine a9 (lc.here ?_);rw[hdct];rw[a8 ac]
 clear sub hmr lc;obtain⟨hp,gn,dr,tn,os⟩:=s;dsimp only at *;have put: ∀(h1:Heap) (dx:Addr) (o1:Obj),h1.get? x=some o1->o1.cls= .ref C->(∀c,o1.data≠ .cls c)->o1.dict=some dx->dx≠x->h1.Ns1 dx mA->o1.data=o.data->(∀b ob,b≠x->hp.get? b=some ob->h1.get? b=some ob)->(o.dict=some dx\/hp.objs.size<=dx)->
   wpAny (model prog w) A.in1 (storeInDict dx (.str name tk) name v) (λfin s'=>match fin with| .done f=>R (.ok f) s'| .again c'=>c'.quiet=true/\codeAny (model prog w) A c' R s') (λe s'=>R (.error e) s') ⟨h1,gn,dr,tn,os⟩:=by
  intro h1 dx o1 g1 g2 g3 g4 g5 g6 g7 g8 g9;unfold storeInDict newKeyGuard;refine a9 (aH<|a9<|wpAny_nsSet1 g6 λh' n' sb=> ?_)
  obtain⟨oD,eD,pD,q1,q2,q3⟩:=n'.count (Within.cons name v hw);have few:eD.size<=sizeLine:=by
   refine aK q3 ?_
   rw[dC,sizeLine_eq]
   lia
  refine a9 (wpAny_lookBehind q1 (by rw[q2];exact pastItsLine_dict (aM7 few)) ?_)
  have gx:h'.get? x=some o1:=(sb.2 x<|Ne.symm g5).trans g1;refine aH (hq h' _ ⟨o1,gx,g2,g3,.inr ⟨dx,g4,g5,n'⟩⟩ (λb ob k1 k2 k3=> ?_) λo0 k1=> ?_)
  .have nb:b≠dx:=by
    rcases g9 with z|z
    .exact k2 o dx hx z
    .intro q;have:=aV k3;rw[q]at this;exact absurd (b9 this z) (dF _)
   exact(sb.2 b nb).trans (g8 b ob k1 k3)
  .rw[hx]at k1;cases k1;exact⟨o1,gx,by rw[g2,hcl],g7,λdx' z=>by rw[g4]at z;cases z;exact g9⟩
 rcases hdd with⟨hn,hmA⟩| ⟨dx,hdx,hne,hns⟩
 .rw[hn];right;rw[a8<|by simp[typeHasDict]]
  have ex: ∀d':Data,d'=o.data->wpAny (model prog w) A.in1 (match d' with
     | .cls c=>pure none
     | _=>do
      let d<-alloc {cls:=Value.type "dict",data:=Data.dict #[]}
      update x λo=>{cls:=o.cls,dict:=some d,data:=o.data,slots:=o.slots}
      dictMade (Value.ref C) x d) (λa s'=>wpAny (model prog w) A.in1 (match a with|some d=>storeInDict d (.str name tk) name v|none=>noDictFor (.ref x) (.ref C) name (none:Option Value).isSome) (λfin s'=>match fin with| .done f=>R (.ok f) s'| .again c'=>c'.quiet=true/\codeAny (model prog w) A c' R s') (λe s'=>R (.error e) s') s') (λe s'=>R (.error e) s') ⟨hp,gn,dr,tn,os⟩:=by
   intro d' ed;split
   .rename_i c
    exact absurd ed.symm (hnc c)
   .have x1:(hp.push {cls:= .type "dict",data:= .dict #[]}).get? x=some o:=aT _ hx;have xs:x≠hp.objs.size:=bI (aV hx);refine a9 (wpAny_alloc'<|a9<|wpAny_update' x1<|aH ?_);have alive:Obj.isFreed {cls:=o.cls,dict:=some hp.objs.size,data:=o.data,slots:=o.slots}=false:=by
     have:=(Heap.get?_some_iff.mp hx).2;obtain⟨c1,c2,c3,c4⟩:=o;cases c3<;>first|rfl|exact this
    have gd:((hp.push {cls:= .type "dict",data:= .dict #[]}).update x λo=>{cls:=o.cls,dict:=some hp.objs.size,data:=o.data,slots:=o.slots}).get? hp.objs.size=some {cls:= .type "dict",data:= .dict #[]}:=
     (zC _ _ _ _<|Ne.symm xs).trans (Heap.get?_push_at rfl rfl)
    refine put _ hp.objs.size {cls:=o.cls,dict:=some hp.objs.size,data:=o.data,slots:=o.slots} (pG _ x1 alive) hcl hnc rfl (Ne.symm xs) ?_ rfl (λb ob k1 k2=>(zC _ _ _ _ k1).trans (aT _ k2)) (.inr<|aG _)
    have e0:mA=λ_=>none:=funext hmA
    rw[e0];exact Heap.Ns1.of_empty ⟨_,#[],_,gd,rfl,λe he=>absurd he ae,λ_=>rfl⟩
  exact ex o.data rfl
 .rw[hdx];exact aH (put hp dx o hx hcl hnc hdx hne hns rfl (λb ob _ k=>k) (.inl hdx))
theorem xset {Q:Unit->Shared->Prop}(X:K.In s.heap)(hc:PySem.W.clsIn K C=some cd)(hm:uP cd.mro=true)(hdct:cd.hasDict=true)(hsa:PySem.W.findIn K (.ref C) "__setattr__"=some (some<|.builtin "object.__setattr__"))(ht:PySem.W.findIn K (.ref C) name=some none)
  (I:s.heap.Inst x C mA) (hw:Within mA ns) (hsz:ns.length<=100)
  (hq: ∀h' tk,h'.Inst x C (λy=>if y=name then some v else mA y)->(∀b o,b≠x->(∀o0 dx,s.heap.get? x=some o0->o0.dict=some dx->b≠dx)->s.heap.get? b=some o->h'.get? b=some o)->
   (∀o0,s.heap.get? x=some o0-> ∃o1,h'.get? x=some o1/\o1.cls=o0.cls/\o1.data=o0.data/\ ∀dx,o1.dict=some dx->o0.dict=some dx\/(s.heap.objs.size<=dx))->Q () {s with heap:=h',toks:=tk}) :
  wpAny (model prog w) A (setAttr (.ref x) name v) Q E s:=by
 have I':=I;obtain⟨o,hx,hcl,hnc,hdd⟩:=I;have J: ∃od,InstAt s.heap x o C od:=by
  rcases hdd with⟨e,_⟩| ⟨dx,e,_,od,es,ep,ge,_⟩
  .exact⟨none,hx,hcl,(by unfold PySem.W.notCls;split<;>first|rfl| (rename_i c q;exact absurd q (hnc c))),by rw[e];trivial⟩
  .exact⟨some od,hx,hcl,(by unfold PySem.W.notCls;split<;>first|rfl| (rename_i c q;exact absurd q (hnc c))),by rw[e];exact ge⟩
 obtain⟨od,J⟩:=J;refine PySem.W.set_plain X J hsa ?_;exact xosa (s:={s with toks:=s.toks+1}) X hc hm hdct ht I' hw hsz hx J λh' tk a b c=>hq h' tk a b c
end
inductive dN6 (K:PySem.W.Frag) (fI:Addr) (fd:FuncData) (f1 f2:Str):Prop
 | mk (oc:Value) (od:Option Addr) (nm qual:Str) (params:Arguments) (scope:Scope) (kV doc pm:Value) (an:Option Addr) (cdv ct:Value) (osl:Array (Option Value)) (x0 x1 x2:Str) (p1 p2 p3 p4 p5 p6 p7 p8:Pos)
  (_:fd=fnOf nm qual params [.Assign [.Attribute (.Name x0 p1) f1 p2] (.Name x1 p3) p4,.Assign [.Attribute (.Name x0 p5) f2 p6] (.Name x2 p7) p8] scope .none kV doc pm an cdv ct)
  (_:K.lookup fI=some ⟨oc,od,.func fd,osl⟩) (_:oc= .type "function") (_:codeIn K cdv qual=true) (_:aY [x0,x1,x2] [x0,x1,x2] scope)
  (_:scope.names.lookup x0=some .local) (_:scope.names.lookup x1=some .local) (_:scope.names.lookup x2=some .local) (_:x0∪0) (_:x1∪0) (_:x2∪0) (_:Binds K fd [x0,x1,x2] []):dN6 K fI fd f1 f2
structure c35 (K:PySem.W.Frag)(C fI:Addr)(fd:FuncData)(f1 f2:Str):Prop where
 ex:dN6 K fI fd f1 f2
 cls: ∃cd,PySem.W.clsIn K C=some cd/\uP cd.mro=true/\cd.hasDict=true
 sa:PySem.W.findIn K (.ref C) "__setattr__"=some (some<|.builtin "object.__setattr__")
 n1:PySem.W.findIn K (.ref C) f1=some none
 n2:PySem.W.findIn K (.ref C) f2=some none
inductive Laid (C e:Addr) (f1 f2:Str) (v1 v2:V) (s s':Shared):Prop
 | mk (_:s'.os=s.os) (_:AllBare s'.gens) (_: ∀b o,s.heap.get? b=some o->s'.heap.get? b=some o) (oe:Obj) (t d:Addr) (w1 w2:Value) (_:s'.heap.get? e=some oe) (_:oe.cls= .ref C) (_:oe.data= .fields #[.ref t,.none,.none,.none,.bool false,.none]) (_:oe.dict=some d) (_:d≠e) (_:s.heap.get? d=none) (_:RelV v1 w1) (_:RelV v2 w2) (_:s'.heap.Ns1 d (λy=>if y=f2 then some w2 else if y=f1 then some w1 else none)):Laid C e f1 f2 v1 v2 s s'
section
variable {X:Cx}{pins:List (Addr×Obj)}{σ:St}{H:Hp}{s:Shared}{C fI e:Addr}{fd:FuncData}{f1 f2:Str}{h1:Heap}{u1 u2:Value}{v1 v2:V}{E:Value->Shared->Prop}{k:Nat}
theorem cR2 (T:c35 X.K C fI fd f1 f2)(I:Inv X pins σ H s)(hr:fG (k+1) X.A)(mk:MadeExcOf s.heap h1 e (.ref C) [u1,u2])(r1:RelV v1 u1)(r2:RelV v2 u2) :
  wpAny (model X.prog X.w) (X.A.under<|.builtin "type.__call__" ⟨.ref C::[u1,u2],[]⟩) (call (.ref fI) (.ref e::[u1,u2])) (λr s'=>r= .none/\Laid C e f1 f2 v1 v2 s s') E {s with heap:=h1}:=by
 obtain⟨oc,od,nm,qual,params,scope,kV,doc,pm,an,cdv,ct,osl,x0,x1,x2,p1,p2,p3,p4,p5,p6,p7,p8,rfl,lk,_,hcd,S,l0,l1,l2,d0,d1,d2,hb⟩:=T.ex;obtain⟨cd,hc,hm,hdct⟩:=T.cls;have I1:Inv X pins σ H {s with heap:=h1}:=I.kept mk.keeps;have e0:=I1.env0.make C [u1,u2] [];have rm:=hr.make C [u1,u2] [];have KX:=I1.kIn;have lim:=I1.nolimit
 have us:Vals [V.ref e,v1,v2] [Value.ref e,u1,u2]:= .cons rfl (.cons r1<|.cons r2 .nil);have hkind: ∀y∈[x0,x1,x2].zip [Value.ref e,u1,u2],scope.names.lookup y.1=some .local\/(scope.names.lookup y.1=some .cell/\((cellsFrom (h1.objs.size+1) scope.names []).lookup y.1).isSome=true):=λ⟨n,v⟩ hy=>by
  have:=(zN hy).1;simp at this;rcases this with rfl|rfl|rfl
  .exact .inl l0
  .exact .inl l1
  .exact .inl l2
 refine nP ?_
 have bd:=hb {s with heap:=h1} [Value.ref e,u1,u2] KX rfl;rw[iT]at bd;refine codeAny_call_function rm.depth (KX _ _ lk) rfl S.co S.gen rfl (PySem.W.codeRec_of KX hcd) (bd _ _ _ _ ?_);refine wpAny_newFunctionEnv_cells S.kind hkind λenv he s2 x=> ?_
 subst he;refine⟨lim.keeps x.toInCall.keep,codeAny_func ?_⟩;have J:Inv (qE CX0 X.prog X.w X.K X.mg X.base [x0,x1,x2] qual scope fI cdv (X.A.under<|.builtin "type.__call__" ⟨.ref C::[u1,u2],[]⟩) X.stack {s with heap:=h1} H E0) [] (start [x0,x1,x2] [V.ref e,v1,v2]) H s2:=bN8 S rm.hd e0 rfl us x;obtain⟨m,hn,hl⟩:=J.loc
 have look: ∀(i:Nat) (y:Str) (v:V),[x0,x1,x2][i]? =some y->(start [x0,x1,x2] [V.ref e,v1,v2])[i]? =some (some v)->scope.names.lookup y=some .local-> ∃u,RelV v u/\m y=some u:=λi y v q1 q2 q3=>by
  obtain⟨u,r,lo⟩:=hl i y v q1 q2 (.inl q3);rcases lo with⟨_,hm⟩| ⟨z,_⟩
  .exact⟨u,r,hm⟩
  .have z':scope.names.lookup y=some .cell\/scope.names.lookup y=some .free:=z;rw[q3]at z';rcases z' with z'|z'<;>cases z'
 obtain⟨w0,q0,m0⟩:=look 0 x0 (.ref e) rfl rfl l0;obtain⟨w1,q1,m1⟩:=look 1 x1 v1 rfl rfl l1;obtain⟨w2,q2,m2⟩:=look 2 x2 v2 rfl rfl l2;obtain rfl:w0=Value.ref e:=q0;have kk:=J.ok.kind;have kin:X.K.In s2.heap:=KX.keeps x.toInCall.keep;obtain⟨t,t1,t2,t3⟩:=mk.there;have ge:s2.heap.get? e=some {cls:= .ref C,data:= .fields #[.ref t,.none,.none,.none,.bool false,.none]}:=x.toInCall.keep _ _ t1
 have eL:e≠h1.objs.size:=bI (aV t1);have in0:s2.heap.Inst e C (λ_=>none):=⟨_,ge,rfl,(λc z=>by cases z),.inl ⟨rfl,λ_=>rfl⟩⟩
 refine nB (aJ3<|nN (pJ kk l1 hn m1<|nN (pJ kk l0 hn m0 ?_) d0) d1)
 refine xset kin hc hm hdct T.sa T.n1 in0 (ns:=[]) (λn z=>absurd rfl z) ae λh3 tk3 in3 kp3 ob3=> ?_
 obtain⟨o3,g3,c3,dt3,dd3⟩:=ob3 _ ge;have keep3: ∀b o,b≠e->s2.heap.get? b=some o->h3.get? b=some o:=λb o n q=>kp3 b o n (λo0 dx z1 z2=>by rw[ge]at z1;cases z1;cases z2) q
 have hn3:h3.Ns h1.objs.size m:=by
  obtain⟨o,es,ep,z1,z2⟩:=hn;exact⟨o,es,ep,keep3 _ _ (Ne.symm eL) z1,z2⟩
 have keep3': ∀b o,s.heap.get? b=some o->h3.get? b=some o:=λb o q=>keep3 b o (λz=>by rw[z,mk.new]at q;cases q) (x.toInCall.keep _ _<|mk.keeps b o q)
 have kin3:X.K.In h3:=I.kIn.keeps keep3';refine nB (aJ3<|nN (pJ kk l2 hn3 m2<|nN (pJ kk l0 hn3 m0 ?_) d0) d2);refine xset kin3 hc hm hdct T.sa T.n2 in3 (ns:=[f1]) (λn z=> ?_) ae λh4 tk4 in4 kp4 ob4=> ?_
 .by_cases c:n=f1
  .simp[c]
  .rw[a8 c]at z;exact absurd rfl z
 obtain⟨o4,g4,c4,dt4,dd4⟩:=ob4 _ g3;refine hV ?_;obtain⟨o5,g5,_,_,dd5⟩:=in4;rw[g4]at g5;cases g5;rcases dd5 with⟨_,no⟩| ⟨d,ed,de,nd⟩
 .have:=no f2;simp at this
 have dn:s.heap.get? d=none:=by
  cases q:s.heap.get? d with
  | none=>rfl
  | some o=>
   exfalso
   have a3:=aV (keep3' d o q);have a2:=aV (x.toInCall.keep _ _<|mk.keeps d o q);rcases dd4 d ed with z|z
   .rcases dd3 d z with z|z
    .cases z
    .exact absurd (b9 a2 z) (dF _)
   .exact absurd (b9 a3 z) (dF _)
 refine⟨rfl,J.os,J.bare,λb o q=> ?_,o4,t,d,w1,w2,g4,?_,?_,ed,de,dn,q1,q2,nd⟩
 .refine kp4 b o (λz=>by rw[z,mk.new]at q;cases q) (λo0 dx z1 z2=> ?_) (keep3' b o q)
  rw[g3]at z1;cases z1;rcases dd3 dx z2 with z|z
  .cases z
  .intro z';have:=aV (x.toInCall.keep _ _<|mk.keeps b o q);rw[z']at this;exact absurd (b9 this z) (dF _)
 .rw[c4,c3]
 .rw[dt4,dt3]
end
nonrec def a59 (K:PySem.W.Frag)(C fI:Addr)(bmB:List Value)(newId:String):Bool:=match K.lookup C with
 | some ⟨.type "type",_,.cls ck,sl⟩=>(match ck.mro,sl.toList with
  | .ref C2::tail,[_,_,_,_,some<|.builtin nid,_]=>C2==C&&nid==newId&& !ck.hasDel&&PySem.W.tailIn K bmB tail&&PySem.W.nsOkIn K ck.ns&&nsIn K ck.ns "__init__"==some (some<|.ref fI)
  | _,_=>false)
 | _=>false
theorem dG5 {N:Addr}{n:Str}(X:K.In h)(G:h.Ns N mg)(e:nsIn K N n=some (some v)):mg n=some v:=by
 obtain⟨ob,ents,np,look0,dat,_,find0⟩:=G;unfold nsIn at e;split at e
 .rename_i look
  have same:=X _ _ look;rw[look0]at same;cases same;cases dat;split at e
  .rename_i en found
   cases e;rw[<-find0];unfold nsFind findBy;rw[<-Array.find?_toList,found];rfl
  .split at e<;>cases e
 .cases e
inductive dN7 (h:Heap) (C fI:Addr) (bmB bm:List Value) (newId:String):Prop
 | mk (N:Addr) (mN:Str->Option Value) (o:XO h C N bm newId) (n:h.Ns N mN) (i:mN "__init__"=some (.ref fI)) (t:OwnTail h bmB bm):dN7 h C fI bmB bm newId
theorem bB4 (X:K.In h)(q:a59 K C fI bmB newId=true): ∃bm,dN7 h C fI bmB bm newId:=by
 unfold a59 at q;split at q
 .rename_i od ck slots look
  split at q
  .rename_i C2 tail a0 a1 a2 a3 nid a5 em es
   simp only[cZ,eX,aM6]at q;obtain⟨⟨⟨⟨⟨rfl,rfl⟩,nodel⟩,tk⟩,nk⟩,ni⟩:=q;obtain⟨c1,c2,c3,c4,c5,c6,c7,c8,c9,c10,c11⟩:=ck;dsimp only at em nodel nk ni;subst em nodel;obtain⟨sll⟩:=slots;simp only at es;subst es;have nsk:h.Ns c4 (h.nsMap c4):= .of_isNs (PySem.W.isNs_of_in X nk);exact⟨tail,_,_,⟨_,_,_,_,_,_,_,_,_,_,_,_,_,_,X _ _ look⟩,nsk,dG5 X nsk ni,PySem.W.tail_of_in X tk⟩
  .cases q
 .cases q
section
variable {M:Model}{A:Around}{E:Value->Shared->Prop}{s:Shared}{env:Env}
variable {nm qn:Str}{C N:Addr}{bs bm:List Value}{hdd:Bool}{sn:List Str}{sub:List Value}{ab:Bool}{col:Option Bool}{dd:Option Addr}{k0 k1 k2 k3 k5:Option Value}{newId:String}
theorem xraise {x:Sem Value}{Q:Flow->Shared->Prop}(hbase:bm.contains (.type "BaseException")=true)(hh:A.handled=none)
  (h:wpAny M A x (λv s1=> ∃e oe vs,v= .ref e/\s1.heap.get? C=some (excClassObj nm qn C N bs bm hdd sn sub ab col dd k0 k1 k2 k3 k5 newId)/\s1.heap.get? e=some oe/\oe.cls= .ref C/\oe.data= .fields vs/\vs[1]? =some .none/\E (.ref e) s1) E s) :
  wpAny M A (raiseStmt env (some x) none) Q E s:=by
 have has:(Value.ref C::bm).contains (.type "BaseException")=true:=by rw[zF,hbase,zY]
 unfold raiseStmt;refine a9 (bG h (λv s1 z=> ?_) λ_ _ y=>y)
 obtain⟨e,oe,vs,rfl,hC,he,hcl,hdt,h1,hE⟩:=z;obtain⟨hp,gn,dr,tn,os⟩:=s1;obtain⟨oc,od,odt,osl⟩:=oe;dsimp only at hcl hdt;subst hcl hdt
 repeat (first
  | with_reducible refine jN he ?_
  | with_reducible refine jN hC ?_
  | (with_reducible refine pM hC ?_;rw[has])
  | wp_step)
 rw[h1];refine aH (aH ?_);exact wpAny_raiseNew_none hh hE
end
section
variable {P:Program}{w:World}{H:Hp}{h h':Heap}{a:Addr}{o:HO}{fs ex:List Addr}
theorem HOk.laidN (x:HOk P w H h)(k: ∀b u,h.get? b=some u->h'.get? b=some u)(hn:H a=none)(new:rL P w (upd H a o) h' a o):HOk P w (upd H a o) h':=λb u e=>by
 by_cases hb:b=a
 .subst hb;rw[iJ]at e;cases e;exact new
 .rw[cD hb]at e;exact(x b u e).stay (λc v _ q=>k c v q) (λc q=>by rw[cD<|cQ q hn];exact q) λc xs q=>by rw[cD<|cQ q hn];exact q
theorem Un.laidN (k: ∀b u,h.get? b=some u->h'.get? b=some u)(hp:h.get? a=none)(hn:H a=none):Un fs ex H (upd H a o) h h' where
 keep:=λb u q _ _ _=>k b u q
 slot:=λb u q _ _ _=>⟨u.slots,k b u q⟩
 free:=λb u q n _=>by rw[cD (λz=>by rw[z,hp]at q;cases q)];exact n
 there:=λb u q _=>⟨u,k b u q⟩
 tups:=λb xs q=>by rw[cD<|cQ q hn];exact q
 frzs:=λb u xs q=>by rw[cD<|cQ q hn];exact q
 tbls:=λb ps q=>⟨#[],by rw[cD<|cQ q hn,q];simp⟩
end
theorem d28 {w1 w2:V}(r:Vals [w1,w2] us): ∃u1 u2,us=[u1,u2]/\RelV w1 u1/\RelV w2 u2:=by
 cases r with
 | cons a r=>
  cases r with
  | cons b r=>
   cases r;exact⟨_,_,rfl,a,b⟩
section
variable {X:Cx}{E:XK}{C fI:Addr}
def dG6 (C:Addr)(f1 f2:Str)(E:XK)(ta:TA):TS:=λ_ σ H=>ta σ H λvs H1=> ∃v1 v2,vs=[v1,v2]/\ ∀d,H1 d=none->E (.ref C) (some d) (upd H1 d<|.xd [(f1,v1),(f2,v2)])
theorem cR3 {x:Str}{np cpos pos:Pos}{e1 e2:Expr}{ta:TA}{B newId initId:String}{bmB:List Value}{fd:FuncData}{f1 f2:Str}{k:Nat}(FB:ExcBaseFacts B newId initId bmB)(q:a59 X.K C fI bmB newId=true)(T:c35 X.K C fI fd f1 f2)(hr:fG (k+1) X.A)(hg:Gl X x)(hm:X.mg x=some (.ref C))(hc:X.calm=true)(ha:PA X [e1,e2] ta)(th:bB2 X E C)(hne:f1≠f2)
  (he:↥(starEach [e1,e2] X.env=(false,eval e1 X.env)::starEach [e2] X.env)) (hpl:↥((backTo cpos<|starEach [e2] X.env).any (·.1)=false)) (hd:⇑(x∪0)) (hex:↥(X.ex=[])) :
  PS X (.Raise (some<|.Call (.Name x np) [e1,e2] [] cpos) none pos) (dG6 C f1 f2 E ta):=by
 intro pins s σ H D I h;obtain⟨bm,N,mN,⟨nm,qn,bs,hdd,sn,sub,ab,col,dd,k0,k1,k2,k3,k5,hC⟩,hN,hni,tl⟩:=bB4 I.mod.kin q;have keepS: ∀{pins:List (Addr×Obj)} {σ:St} {H:Hp} {s2:Shared},Inv X pins σ H s2-> ∀b o,X.base.get? b=some o->s2.heap.get? b=some o:=λJ=>J.bk
 rw[arm_exec_Raise];refine a9 (nJ<|xraise (C:=C) (nm:=nm) (qn:=qn) (N:=N) (bs:=bs) (bm:=bm) (hdd:=hdd) (sn:=sn) (sub:=sub) (ab:=ab) (col:=col) (dd:=dd) (k0:=k0) (k1:=k1) (k2:=k2) (k3:=k3) (k5:=k5) (newId:=newId) (tl.hasType FB.hasBase) (I.ok.hd hc) ?_);refine a9 (bG (wpAny_Call_ofName<|rG I hg hm ?_ hd) (λv s3 h3=>a9 (nJ<|aH h3)) λ_ _ z=>z)
 have plain:(backTo cpos<|starEach [e1,e2] X.env).any (·.1)=false:=by
  rw[he];show(false||(backTo cpos<|starEach [e2] X.env).any (·.1))=false;rw[hpl];rfl
 have hh:=ha cpos pins s σ H _ I h;unfold callWith;rw[he]at hh plain⊢;refine a9 (gH<|aL1<|bG hh (λus s2 z=>a9 (nJ ?_)) λ_ _ z=>z)
 obtain⟨vs,H1,I1,r1,w1,w2,rfl,hE⟩:=z;simp only[plain];have hC2:=keepS I1 _ _ hC;obtain⟨u1,u2,rfl,q1,q2⟩:=d28 r1;obtain⟨oc,od,_,_,_,_,_,_,_,_,_,_,osl,_,_,_,_,_,_,_,_,_,_,_,efd,lk,oce,_⟩:=T.ex;have gf:=I1.kIn _ _ lk;obtain⟨hp,gn,dr,tn,os⟩:=s2;refine a9 (wpAny_keeperOf_exc hC2 ?_);refine a9 (xcall FB (tl.keeps<|keepS I1) hC2 (hN.keeps<|keepS I1) hni gf oce (λh' a mk=> ?_) (by simp;decide))
 refine bG (cR2 T I1 hr mk q1 q2) (λr s' z=> ?_) λ_ _ z=>z
 obtain⟨rfl,z1,z2,z3,oe,t,d,y1,y2,z4,z5,z6,ed,de,dn,x1,x2,nd⟩:=z;refine⟨rfl,a9<|gH<|wpAny_point<|aH ?_⟩;have dH:H1 d=none:=I1.hok.there dn;have I2:Inv X pins σ (upd H1 d<|.xd [(f1,w1),(f2,w2)]) s':=by
  obtain⟨hp',gn',dr',tn',os'⟩:=s';obtain rfl:os'=os:=z1;refine I1.call (h':=hp') (g':=gn') (d':=dr') (t':=tn') (ch:=[]) (Un.laidN z3 dn dH) (I1.hok.laidN z3 dH ?_) z2 (λb z=>absurd z ae)
  refine⟨_,nd,λf=> ?_⟩
  simp only[cN,List.lookup_nil]
  by_cases c1:f=f1
  .subst c1;rw[aN2,a8 hne,aA rfl];exact x1
  .rw[show(f==f1)=false from pK.mpr c1]
   by_cases c2:f=f2
   .subst c2;rw[aN2,aA rfl];exact x2
   .rw[show(f==f2)=false from pK.mpr c2,a8 c2,a8 c1]
    exact trivial
 refine⟨a,oe,_,rfl,z3 _ _ hC2,z4,z5,z6,rfl,?_⟩
 refine th pins σ _ s' a oe _ (.ref t) (some d) I2 z4 z5 z6 rfl rfl (by rw[cD<|Ne.symm de];exact I1.hok.there mk.new) ?_ (λd' e=>by cases e;exact⟨oe,z4,ed⟩) (hE d dH)
 cases r:X.s₀.heap.get? a with
 | none=>rfl
 | some o=>
  obtain⟨o',q'⟩:=I1.base.there a o r (by rw[hex];simp)
  rw[mk.new]at q';cases q'
end
end L2
namespace M
abbrev XP:=Str->List D->Prop
abbrev ΦX:=List D->(B->Prop)->XP->Prop
nonrec def a90 (n:Str):List Str:=if n="FallsApart" then ["left","right"]else if n="NotWhole" then ["prime","number"]else []
nonrec def XR (K:PySem.W.Frag)(A:AS)(H:Hp)(n:Str)(ds:List D):Option Addr->Prop
 | none=>a90 n=[]
 | some d=> ∃vs,¬A d/\H d=some (.xd<|(a90 n).zip vs)/\(a90 n).length=vs.length/\bQ K A H ds vs
theorem XR.mono {K:PySem.W.Frag}{A A':AS}{H H':Hp}{n:Str}{ds:List D}(p:mC A H A' H'): ∀{o:Option Addr},XR K A H n ds o->XR K A' H' n ds o
 | none,h=>h
 | some d,⟨vs,h1,h2,h3,h4⟩=>⟨vs,(p d _ h1 h2).1,(p d _ h1 h2).2,h3,h4.mono p⟩
nonrec def spX (K:PySem.W.Frag)(mg:Str->Option Value)(φ:ΦX):Sp:=λvs H Q E=> ∃A ds Q0 Ex,(∀a,A a->H a≠none)/\bQ K A H ds vs/\φ ds Q0 Ex/\(∀b v H',Q0 b->gK H H'->oU K A H H' b v->Q v H')/\ ∀n C es o H',Ex n es->mg n=some (.ref C)->gK H H'->XR K A H' n es o->E (.ref C) o H'
structure FnX (P:Program)(w:World)(K:PySem.W.Frag)(mg:Str->Option Value)(base:Heap)(x:Str)(ps:List Str)(k:Nat)(φ:ΦX):Prop where
 ex: ∃f fd,sF P w K mg base (CXr P w base) k f fd ps (spX K mg φ)/\Binds K fd ps []/\keepIn K (.ref f)=true/\mg x=some (.ref f)
abbrev USX:=XP->US
def lSX (K:PySem.W.Frag)(mg:Str->Option Value)(E:XK)(t:USX):TS:=λD σ H=> ∃C ρ D0 Ex,EOk K C ρ σ H/\t Ex D0 ρ/\DOk K C D0 D/\ ∀n Cl es o H',Ex n es->mg n=some (.ref Cl)->gK C.H0 H'->XR K C.A0 H' n es o->E (.ref Cl) o H'
def bK1 (X:Cx)(E:XK)(st:Stmt)(t:USX):Prop:=PS X st (lSX X.K X.mg E t)
def rR (X:Cx)(E:XK)(sts:List Stmt)(t:USX):Prop:=PSs X sts (lSX X.K X.mg E t)
section
variable {X:Cx}{E:XK}{st:Stmt}{sts:List Stmt}{t u:USX}{e:Expr}{es:List Expr}{pos:Pos}
theorem iF {t:US}(h:PUS X st t):bK1 X E st (λ_=>t):=sZ h λD σ H ⟨C,ρ,D0,Ex,I,h,k,_⟩=>⟨C,ρ,D0,I,h,k⟩
theorem d29 {t:US}(h:qF X sts t):rR X E sts (λ_=>t):=b92 h λD σ H ⟨C,ρ,D0,Ex,I,h,k,_⟩=>⟨C,ρ,D0,I,h,k⟩
theorem iZ (h1:bK1 X E st t)(h2:rR X E sts u):rR X E (st::sts) (λEx=>aQ (t Ex) (u Ex)):=
 b92 (xV h1 h2) λD σ H ⟨C,ρ,D0,Ex,I,h,k,kx⟩=>⟨C,ρ,{D0 with nx:=u Ex D0},Ex,I,h,⟨λρ' σ' H' q I'=>⟨C,ρ',D0,Ex,I',q,k,kx⟩,k.rt,k.bk,k.ct⟩,kx⟩
theorem uQ (h1:bK1 X E st t):rR X E [st] t:=bS9 h1
theorem bV1:rR X E [] (λ_=>cW):=d29 b93
theorem cL5 {a b:List Stmt}{tc:UT}(hc:PUT X c tc)(ha:rR X E a t)(hb:rR X E b u):bK1 X E (.If c a b pos) (λEx=>fH tc (t Ex) (u Ex)):=
 sZ (dM7 hc ha hb) λD σ H ⟨C,ρ,D0,Ex,I,h,k,kx⟩=>⟨C,ρ,_,I,h,λc ρ1 H1 q f s=>by
  have I1:=(I.frz f).same s;cases c with
  | true=>
   dsimp only at q⊢;rw[aA rfl]at q⊢;exact⟨C,ρ1,D0,Ex,I1,q,k,kx⟩
  | false=>
   dsimp only at q⊢;rw[a8 ac]at q⊢
   exact⟨C,ρ1,D0,Ex,I1,q,k,kx⟩⟩
def mF (φ:ΦX)(t:UA)(Ex:XP):UE:=λρ Q=>t ρ λds ρ1=>φ ds (λb=>Q b ρ1) Ex
theorem cF6 {φ:ΦX}{C:C0}{ρ ρ1:Ev}{σ:L2.St}{H H1:Hp}{ds:List D}{vs:List V}{Q0:B->Prop}{Ex:XP}{Q:VK}(I:EOk X.K C ρ σ H)(f:Frz ρ ρ1)(s:gK H H1)(r:bQ X.K (Av C ρ1 σ) H1 ds vs)(q:φ ds Q0 Ex)(kq: ∀b v H',Q0 b->gK H1 H'->oU X.K (Av C ρ1 σ) H1 H' b v->Q v H')(kx: ∀n Cl es o H',Ex n es->X.mg n=some (.ref Cl)->gK C.H0 H'->XR X.K C.A0 H' n es o->E (.ref Cl) o H'):spX X.K X.mg φ (vs++[]) H1 Q E:=by
 have I1:=(I.frz f).same s;rw[iT];exact⟨Av C ρ1 σ,ds,Q0,Ex,λa z=>I1.avSome z,r,q,kq,λn Cl es o H' ex hm s' x=>kx n Cl es o H' ex hm (I1.ext.trans s') (x.mono<|.sub (.refl _) λa z=> .inl z)⟩
theorem aS4 {ps:List Str}{φ:ΦX}{t:UA}(F:FnX X.prog X.w X.K X.mg X.base x ps k φ)(hr:fG k' X.A)(hk:k<=k')(hp:uL (CXr X.prog X.w X.base) X E)(hg:Gl X x)(ha:PUA X (e::es) t)(hdb:⇑(x∪0))
  (he:↥(starEach (e::es) X.env=(false,eval e X.env)::starEach es X.env)) (hpl:↥((backTo cpos<|starEach es X.env).any (·.1)=false)) (hs:↥(swapsWith (.Call (.Name x p) (e::es) [] cpos) none pos.line X.env=pure false)) :
  bK1 X E (.Expr (.Call (.Name x p) (e::es) [] cpos) pos) (λEx=>kU (mF φ t Ex)):=by
 obtain⟨f,fd,G,b,kp,m⟩:=F.ex;exact sZ (bT0 (b63 G (hr.mono hk) hg m kp b .nil hp ha hdb he hpl) hs) λD σ H ⟨C,ρ,D0,Ex,I,h,k,kx⟩=>⟨C,ρ,_,I,h,λds ρ1 vs H1 q f s r=>cF6 I f s r q (λb v H' q' s' r'=>k.nx _ _ _ q' (((I.frz f).same s).same s')) kx⟩
def bB5 (x:Str)(t:UA)(Ex:XP):US:=λ_ ρ=>t ρ λds _=>ds.length<=sizeLine/\Ex x []
theorem lRaise {t:UA}(hm:X.mg x=some (.ref C))(hk:a90 x=[])(D:aR5)(σ:L2.St)(H:Hp)(h:lSX X.K X.mg E (λEx=>bB5 x t Ex) D σ H):d26 C E (lA X.K t) D σ H:=by
 obtain⟨C0,ρ,D0,Ex,I,h,k,kx⟩:=h;exact⟨C0,ρ,_,I,h,λds ρ1 vs H1 q f s r=>⟨by rw[<-r.length];exact q.1,kx x C [] none H1 q.2 hm (I.ext.trans s) hk⟩⟩
def aS5 (x:Str)(t1 t2:UE)(Ex:XP):US:=λ_ ρ=>t1 ρ λa ρ1=>t2 ρ1 λb _=>Ex x [a.d,b.d]
theorem c36 {t:UA}{B:String}(FB:ExcBaseFacts B newId initId bmB)(q:excIn X.K C bmB newId=true)(hg:Gl X x)(hm:X.mg x=some (.ref C))(hc:X.calm=true)(ha:PUA X (e::es) t)(th:bB2 X E C)(hk:a90 x=[])
  (he:↥(starEach (e::es) X.env=(false,eval e X.env)::starEach es X.env)) (hpl:↥((backTo cpos<|starEach es X.env).any (·.1)=false)) (hd:⇑(x∪0)) (hex:↥(X.ex=[])) :
  bK1 X E (.Raise (some<|.Call (.Name x np) (e::es) [] cpos) none pos) (λEx=>bB5 x t Ex):=sZ (d27 FB q hg hm hc ha th he hpl hd hex) (lRaise hm hk)
theorem bP6 {e1 e2:Expr}{t1 t2:UE}{B:String}(FB:ExcBaseFacts B newId initId bmB)(q:a59 X.K C fI bmB newId=true)(T:c35 X.K C fI fd f1 f2)(hr:fG (k+1) X.A)(hg:Gl X x)(hm:X.mg x=some (.ref C))(hc:X.calm=true)(ha:PUA X [e1,e2] (a7 t1<|a7 t2 aM))(th:bB2 X E C)(hk:a90 x=[f1,f2])(hne:f1≠f2)
  (he:↥(starEach [e1,e2] X.env=(false,eval e1 X.env)::starEach [e2] X.env)) (hpl:↥((backTo cpos<|starEach [e2] X.env).any (·.1)=false)) (hd:⇑(x∪0)) (hex:↥(X.ex=[])) :
  bK1 X E (.Raise (some<|.Call (.Name x np) [e1,e2] [] cpos) none pos) (λEx=>aS5 x t1 t2 Ex):=by
 refine sZ (cR3 FB q T hr hg hm hc ha th hne he hpl hd hex) λD σ H ⟨C0,ρ,D0,Ex,I,h,k,kx⟩=> ?_
 refine⟨C0,ρ,λds _=> ∃a b,ds=[a,b]/\Ex x ds,I,?_,λds ρ' vs H' ⟨a,b,q1,q2⟩ f s r=> ?_⟩
 .have e9: ∀(z y:M.B) (ρ2:Ev),(∃a b,[z.d,y.d]=[a,b]/\Ex x [z.d,y.d])=Ex x [z.d,y.d]:=λz y ρ2=>propext ⟨λ⟨_,_,_,w⟩=>w,λw=>⟨_,_,rfl,w⟩⟩
  show t1 ρ λz ρ1=>t2 ρ1 λy ρ2=> ∃a b,[z.d,y.d]=[a,b]/\Ex x [z.d,y.d]
  have:=h;unfold aS5 at this;simp only[e9 _ _ ρ];exact this
 .subst q1;obtain⟨v1,vr,rfl,r1,r2⟩:=r.uncons;obtain⟨v2,vr2,rfl,r3,r4⟩:=r2.uncons;cases r4.unnil;refine⟨v1,v2,rfl,λd hd=> ?_⟩
  have I1:=(I.frz f).same s;have s2:gK H' (upd H' d<|.xd [(f1,v1),(f2,v2)]):=λb o z=>by rw[cD<|cQ z hd];exact z
  have na: ∀a,C0.A0 a->a≠d:=λa z e=>I1.avSome (.inl z) (by rw[e];exact hd)
  refine kx x C _ (some d) _ q2 hm (I1.ext.trans s2) ⟨[v1,v2],λz=>na d z rfl,?_,by rw[hk];rfl,(bQ.cons r1<|.cons r3 .nil).mono λb o n z=>⟨λw=>n (.inl w),s2 b o z⟩⟩
  rw[iJ,hk];rfl
theorem d30 {st:Stmt}{ps:List Str}{φ:ΦX}(F:Fun K x qual st f fd)(S:aY N ps (aF st))
  (len: ∀ds Q Ex,φ ds Q Ex->ds.length=ps.length) {t:USX}
  (der: ∀(cdv:Value) (A:Around) (outer:List Env) (s:Shared) (H:Hp) (E:XK),fG k (A.deeper<|envOfC qual (aF st) s.heap.objs.size f cdv)->rR (qE (CXr P w base) P w K mg base N qual (aF st) f cdv A outer s H E) E (cV st) t)
  (rd: ∀ds Q Ex,φ ds Q Ex->t Ex {Q with} (init N ds)) :
  sF P w K mg base (CXr P w base) (k+1) f fd ps (spX K mg φ):=by
 obtain⟨oc,od,kV,doc,pm,an,cdv,ct,osl,rfl,lk,hcd⟩:=F.ex;refine cX1 lk hcd S (λvs H Q E h=> ?_) λA outer s H vs Q E hr h=> ?_
 .obtain⟨A,ds,Q0,Ex,_,r,h,_⟩:=h;rw[<-r.length];exact len ds Q0 Ex h
 .obtain⟨A',ds,Q0,Ex,hA,r,h,q,qx⟩:=h;refine⟨_,der cdv A outer s H E hr,⟨H,A'⟩,init N ds,_,Ex,bU1 hA r,rd ds Q0 Ex h,⟨λρ σ H' z I=> ?_,λb v H' z s r=>q b v H' z s r,λ_ _ _ z=>z.elim,λ_ _ _ z=>z.elim⟩,qx⟩
  exact q _ _ H' z I.ext (show Rep _ _ _ _ _ by simp only[Rep])
theorem FnX.mk' {st:Stmt}{ps:List Str}{φ:ΦX}(F:Fun K x qual st f fd)(m:mg x=some (.ref f))(b:Binds K fd ps [])(S:aY N ps (aF st))
  (len: ∀ds Q Ex,φ ds Q Ex->ds.length=ps.length) {t:USX}
  (der: ∀(cdv:Value) (A:Around) (outer:List Env) (s:Shared) (H:Hp) (E:XK),fG k (A.deeper<|envOfC qual (aF st) s.heap.objs.size f cdv)->rR (qE (CXr P w base) P w K mg base N qual (aF st) f cdv A outer s H E) E (cV st) t)
  (rd: ∀ds Q Ex,φ ds Q Ex->t Ex {Q with} (init N ds)):FnX<$>x ps (k+1) φ:=
 ⟨f,fd,d30 F S len der rd,b,F.kp,m⟩
end
end M
section
namespace L2
section
variable {X:Cx}{pins:List (Addr×Obj)}{σ:St}{H:Hp}{s:Shared}{h':Heap}{e:Addr}
theorem Inv.past (I:Inv X pins σ H s)(p:bK0 (frs X.stack) e s.heap h')(hstk:X.stack=X.env::X.outer)(hfr:X.env.frame=some X.env.locals)(hex:X.ex=[])(gs: ∀b o,X.s₀.heap.get? b=some o-> ∃o',g.get? b=some o')(gp: ∀q∈X.pn++pins,∃o',g.get? q.1=some o')(ne:g.get? e=none)(nt: ∀T,Tr s.heap e T->g.get? T=none)(he:H e=none)(ht: ∀T,Tr s.heap e T->H T=none):Inv X pins σ H {s with heap:=h'}:=by
 have none0: ∀b,g.get? b=none->X.s₀.heap.get? b=none:=λb q=>by
  cases r:X.s₀.heap.get? b with
  | none=>rfl
  | some o=>obtain⟨o',q'⟩:=gs b o r;rw[q]at q';cases q'
 have fm: ∀b∈frs X.stack,b=X.env.locals\/b∈X.fs:=λb hb=>by
  rw[hstk]at hb;unfold Cx.fs;unfold frs at hb⊢;rw[iQ,hfr]at hb;exact aZ.mp hb
 have hL:X.s₀.heap.get? X.env.locals=none:=kJ I.ok.above;have hd: ∀b∈X.fs,∀o,s.heap.get? b=some o-> ∀vs,o.data≠ .fields vs:=λb hb o q=>by
  have fl:=I.stack;rw[hstk]at fl;obtain⟨_,o',q',n⟩:=fl.mem (b:=b) (by
   unfold Cx.fs frs at hb;rw[iQ,hfr];exact aZ.mpr (.inr hb))
  rw[q]at q';cases q';exact n
 have hb0:=I.base;rw[hex]at hb0;have un:=hb0.past p fm hL (none0 e ne) (λT q=>none0 T (nt T q)) hd
 have cellS: ∀c v,s.heap.IsCell c v->h'.IsCell c v:=λc v ⟨o,q1,q2⟩=>by
  obtain⟨sl,q3⟩:=p.slot c o q1 (λvs z=>by rw[q2]at z;cases z)
  exact⟨_,q3,q2⟩
 refine⟨I.ok,I.os,I.bare,by rw[hex];exact un,?_,λx c q=> ?_,I.free,I.freeC,λq hq=> ?_,I.hok.past p I.stkFree he ht,I.len⟩
 .obtain⟨m,hn,hl⟩:=I.loc;refine⟨m,p.slot.ns hn,λi x v a b c=> ?_⟩
  obtain⟨u,r,lo⟩:=hl i x v a b c;refine⟨u,r,?_⟩;rcases lo with z| ⟨z1,c,z2,z3⟩
  .exact .inl z
  .exact .inr ⟨z1,c,z2,cellS c _ z3⟩
 .obtain⟨v,z⟩:=I.cell x c q;exact⟨v,cellS c v z⟩
 .obtain⟨z1,z2,z3,z4,z5⟩:=I.pin q hq;obtain⟨o',g1⟩:=gp q hq;refine⟨p.keep q.1 q.2 z1 (λz=> ?_) (λz=>by rw[z,ne]at g1;cases g1) (λz=>by rw[nt _ z]at g1;cases g1),z2,z3,z4,z5⟩
  rcases fm _ z with y|y
  .exact z3 y
  .exact z4 y
end
noncomputable abbrev Cx.inX (X:Cx)(e:Addr):Cx:={X with A:=X.A.mark (some<|.ref e),calm:=false,xe:=λ_ _=>False}
theorem Cx.Ok.inX {X:Cx}(ok:X.Ok)(e:Addr):(X.inX e).Ok:=
 ⟨ok.mod,ok.kind,ok.glob,ok.blt,ok.above,ok.inj,ok.has,ok.cab,(λz=>by cases z),ok.frames,ok.stk,ok.exf,ok.bs,ok.bsz,ok.noex,ok.exfs,ok.funs,ok.frf⟩
section
variable {X:Cx}{pins:List (Addr×Obj)}{σ:St}{H:Hp}{s:Shared}{e:Addr}
theorem Inv.inX (I:Inv X pins σ H s)(e:Addr):Inv (X.inX e) pins σ H s:=⟨I.ok.inX e,I.os,I.bare,I.base,I.loc,I.cell,I.free,I.freeC,I.pin,I.hok,I.len⟩
theorem Cx.Ok.outX {X:Cx}{Y:Cx}(okY:Y.Ok){e:Addr}(ok:(X.inX e).Ok)(hd:X.calm=true->X.A.handled=none):X.Ok:=
 ⟨ok.mod,ok.kind,ok.glob,ok.blt,ok.above,ok.inj,ok.has,ok.cab,hd,ok.frames,ok.stk,ok.exf,ok.bs,ok.bsz,ok.noex,ok.exfs,ok.funs,ok.frf⟩
theorem Inv.outX (I:Inv (X.inX e) pins σ H s)(hd:X.calm=true->X.A.handled=none):Inv X pins σ H s:=⟨I.ok.outX I.ok hd,I.os,I.bare,I.base,I.loc,I.cell,I.free,I.freeC,I.pin,I.hok,I.len⟩
theorem SP.outX {D:aR5}{f:Flow}(h:SP (X.inX e) pins D f s')(hd:X.calm=true->X.A.handled=none):SP X pins D f s':=by
 cases f with
 | next=>obtain⟨σ',H',I,q⟩:=h;exact⟨σ',H',I.outX hd,q⟩
 | brk=>obtain⟨σ',H',I,q⟩:=h;exact⟨σ',H',I.outX hd,q⟩
 | cont=>obtain⟨σ',H',I,q⟩:=h;exact⟨σ',H',I.outX hd,q⟩
 | ret u=>obtain⟨v,σ',H',I,r,q⟩:=h;exact⟨v,σ',H',I.outX hd,r,q⟩
theorem d31 {M:Model}{hp:Heap}{gn:Array GenState}{dr:Drawn}{tn:Nat}{os:OsState}{Q:Bool->Shared->Prop}
  {nm qn:Str} {N:Addr} {bs bm:List Value} {hdd:Bool} {sn:List Str} {sub:List Value} {ab:Bool} {col:Option Bool} {dd:Option Addr} {k0 k1 k2 k3 k5:Option Value} {newId:String}
  {nm' qn':Str} {N':Addr} {bs' bm':List Value} {hdd':Bool} {sn':List Str} {sub':List Value} {ab':Bool} {col':Option Bool} {dd':Option Addr} {k0' k1' k2' k3' k5':Option Value} {newId':String}
  (hC:hp.get? C=some (excClassObj nm qn C N bs bm hdd sn sub ab col dd k0 k1 k2 k3 k5 newId)) (hR:hp.get? R=some (excClassObj nm' qn' R N' bs' bm' hdd' sn' sub' ab' col' dd' k0' k1' k2' k3' k5' newId'))
  (he:hp.get? e=some oe) (hcl:oe.cls= .ref C) (hb:bm'.contains (.type "BaseException")=true) (hr:(Value.ref C::bm).contains (.ref R)=true) (hq:Q true ⟨hp,gn,dr,tn,os⟩) :
  wpAny M A (excMatches (.ref e)<|.ref R) Q E ⟨hp,gn,dr,tn,os⟩:=by
 have t1:(Value.ref R::bm').contains (.type "BaseException")=true:=by rw[zF,hb,zY]
 have t2:=tc_notTuple;unfold excMatches
 repeat (first
  | (with_reducible refine jN he ?_;rw[hcl])
  | with_reducible refine jN hR ?_
  | (with_reducible refine pM hR ?_;rw[t1])
  | (with_reducible refine pM hC ?_;rw[hr])
  | wp_step)
 exact hq
end
theorem bP4.past {fs:List Addr}{e:Addr}(n:bP4 g e h)(p:bK0 fs e h h')(gh: ∀b o,g.get? b=some o-> ∃o',h.get? b=some o')(hf: ∀b∈fs,∀o,h'.get? b=some o-> ∀vs,o.data≠ .fields vs):bP4 g e h':=by
 refine⟨n.he,λT q=> ?_⟩
 rcases p.tr T q with z|z|z|z
 .obtain⟨o,vs,q1,q2⟩:=p.rcd T q;exact absurd q2 (hf T z o q1 vs)
 .rw[z];exact n.he
 .exact n.ht T z
 .cases r:g.get? T with
  | none=>rfl
  | some o=>obtain⟨o',q'⟩:=gh T o r;rw[z]at q';cases q'
theorem a12 {fs:List Addr}{e:Addr}(n:bP4 g e h)(p:bK0 fs e h h')(gh: ∀b o,g.get? b=some o-> ∃o',h.get? b=some o')(hf: ∀b∈fs,∀o,h.get? b=some o-> ∀vs,o.data≠ .fields vs): ∀b o,g.get? b=some o-> ∃o',h'.get? b=some o':=λb o q=>by
 obtain⟨o',q'⟩:=gh b o q
 by_cases c:b∈fs
 .obtain⟨sl,z⟩:=p.slot b o' q' (hf b c o' q');exact⟨_,z⟩
 .exact⟨o',p.keep b o' q' c (λz=>by rw[z,n.he]at q;cases q) λz=>by rw[n.ht b z]at q;cases q⟩
theorem c37 {l:List Env}(f:h.FunFrames base l): ∀b∈frs l,∀o,h.get? b=some o-> ∀vs,o.data≠ .fields vs:=λb hb o q=>by
 obtain⟨_,o',q',n⟩:=f.mem (b:=b) hb;rw[q]at q';cases q';exact n
def rS (CX:CXT)(X:Cx)(E:XK)(pins:List (Addr×Obj))(σ:St):Prop:= ∀(H:Hp) (s:Shared) (e:Value) (s':Shared),Inv X pins σ H s->CX X.stack H s E e s'->X.xe e s'
def a91 (K:PySem.W.Frag)(R C:Addr)(bmB:List Value)(newId:String):Prop:=(excIn K C bmB newId=true\/ ∃fI,a59 K C fI bmB newId=true)/\ ∃cd,PySem.W.clsIn K C=some cd/\cd.mro.contains (.ref R)=true
def cF7 (K:PySem.W.Frag)(R C:Addr)(bmB:List Value)(newId:String)(b:Bool):Prop:=(excIn K C bmB newId=true\/ ∃fI,a59 K C fI bmB newId=true)/\ ∃cd,PySem.W.clsIn K C=some cd/\cd.mro.contains (.ref R)=b
theorem d32 {N:Addr}{bm:List Value}{cd:ClassData}(X:K.In h)
  (o:XO h C N bm newId) (hc:PySem.W.clsIn K C=some cd):cd.mro=Value.ref C::bm:=by
 cases o with|mk _ _ _ _ _ _ _ _ _ _ _ _ _ _ hC;unfold PySem.W.clsIn at hc;split at hc
 .rename_i look
  have same:=X _ _ look;rw[hC]at same;cases hc
  injection same with same
  injection same with _ _ same _
  injection same with same
  rw[<-same]
 .cases hc
theorem d33 {b:Bool}(X:K.In h)(u:cF7 K R C bmB newId b): ∃N bm,XO h C N bm newId/\(Value.ref C::bm).contains (.ref R)=b:=by
 obtain⟨a,cd,hc,hr⟩:=u;rcases a with a| ⟨fI,a⟩
 .obtain⟨bm,N,_,o,_⟩:=b70 X a;exact⟨N,bm,o,by rw[<-d32 X o hc];exact hr⟩
 .obtain⟨bm,N,_,o,_⟩:=bB4 X a;exact⟨N,bm,o,by rw[<-d32 X o hc];exact hr⟩
section
variable {X:Cx}
def tTry (K:PySem.W.Frag)(R:Addr)(bmB:List Value)(newId:String)(tb:XK->TS)(th:TS):TS:=λD σ H=> ∃E,tb E D σ H/\ ∀C o H',E (.ref C) o H'->a91 K R C bmB newId/\th D σ H'
theorem ps_try {body:List Stmt}{b0:Stmt}{suite:List Stmt}{r:Str}{rp hpos pos:Pos}{R:Addr}{B newId initId:String}{bmB:List Value}{tb:XK->TS}{th:TS}(FB:ExcBaseFacts B newId initId bmB)(hstk:X.stack=X.env::X.outer)(hfr:X.env.frame=some X.env.locals)(hex:X.ex=[])(hc:X.calm=true)
  (hbody: ∀(xe:Value->Shared->Prop) (E:XK) (pins:List (Addr×Obj)) (s:Shared) (σ:St) (H:Hp) (D:aR5),Inv (X.wish xe) pins σ H s->rS (CXr X.prog X.w X.base) (X.wish xe) E pins σ->tb E D σ H->X∩(execs body X.env) (SP (X.wish xe) pins D) xe s)
  (hsuite: ∀a,PSs (X.inX a) (b0::suite) th) (hg:Gl X r) (hm:X.mg r=some (.ref R)) (hR:excIn X.K R bmB newId=true) (hd:⇑(r∪0)) :
  PS X (.Try body [.ExceptHandler (some<|.Name r rp) none (b0::suite) hpos] [] [] pos) (tTry X.K R bmB newId tb th):=by
 rintro pins s σ H D I ⟨E,hb,hx⟩;refine wpAny_Try_except ?_;have goX:rS (CXr X.prog X.w X.base) (X.wish λe s1=>X∩(noteFrame e X.env) (λ_ s2=>X∩(setFlight e none) (λ_ s3=>X∩(handleBy e X.env [.ExceptHandler (some<|.Name r rp) none (b0::suite) hpos]) (SP X pins D) X.xe s3) X.xe s2) X.xe s1) E pins σ:=by
  rintro H1 s1 e s' J ⟨a,C,o',H',rfl,ho,hbr,un,hok,⟨⟨a0,fl⟩,fe,ft⟩,nw,_,hE⟩;have J0:=J.unwish;have J1:Inv X pins σ H' s':=J0.call' ho un hok hbr (λb z=>absurd z ae)
  obtain⟨under,hth⟩:=hx C o' H' hE;have fl':FlyingW X.base X.stack a (.ref C) a0 s'.heap:=fl;have frs':=J1.ok.frames;have g0: ∀b o,s1.heap.get? b=some o-> ∃o',s'.heap.get? b=some o':=λb o q=>un.there b o q ae
  have gs: ∀b o,X.s₀.heap.get? b=some o-> ∃o',s1.heap.get? b=some o':=λb o q=>J0.base.there b o q (by rw[hex];simp)
  have gp: ∀q∈X.pn++pins,∃o',s1.heap.get? q.1=some o':=λq hq=>⟨_,(J0.pin q hq).1⟩
  show wpAny _ _ (noteFrame (.ref a) X.env) _ _ s'
  rw[hstk]at fl' frs';refine c33 frs' hfr fl' λh2 held p2=> ?_
  rw[<-hstk]at p2 held fl';have J2:=J1.past (g:=s1.heap) p2 hstk hfr hex gs gp nw.he nw.ht fe ft;have n2:=nw.past p2 g0 (c37 held.2.2.1);have g2:=a12 nw p2 g0 (c37 fl'.2.2.1);have t2:=aE7 J1.hok p2 J1.stkFree fe ft;refine aS3 held λh3 fl3 p3=> ?_
  have J3:=J2.past (g:=s1.heap) p3 hstk hfr hex gs gp n2.he n2.ht fe t2;have n3:=n2.past p3 g2 (c37 fl3.2.2.1);have g3:=a12 n2 p3 g2 (c37 held.2.2.1);have t3:=aE7 J2.hok p3 J2.stkFree fe t2;obtain⟨oe,he,hcl⟩:=fl3.there;obtain⟨_,bm,⟨_,_,_,_,_,_,_,_,_,_,_,_,_,_,hC⟩,hin⟩:=d33 (b:=true) J3.kIn under;obtain⟨bm',_,_,⟨_,_,_,_,_,_,_,_,_,_,_,_,_,_,hRo⟩,_,_,tl'⟩:=b70 J3.kIn hR
  refine wpAny_handleBy_cons (codeAny_handlers_test<|rG (X:=X.inX a) (J3.inX a) hg hm ?_ hd) (by intro q;cases q)
  refine d31 hC hRo he hcl (tl'.hasType FB.hasBase) hin ?_
  refine codeAny_handlers_suite (aS3 fl3 λh4 fl4 p4=> ?_)
  have J4:=J3.past (g:=s1.heap) p4 hstk hfr hex gs gp n3.he n3.ht fe t3;exact bG (hsuite a pins _ σ H' D (J4.inX a) hth) (λf s2 q=>q.outX λ_=>J4.ok.hd hc) λ_ _ z=>z.elim
 refine bG (hbody _ E pins s σ H D (I.wish _) goX hb) (λf s1 q=> ?_) λ_ _ z=>z
 have q':=q.unwish;cases f with
 | next=>exact hV q'
 | ret v=>exact q'
 | brk=>exact q'
 | cont=>exact q'
end
section
variable {X:Cx}{CX:CXT}{k:Nat}{f C:Addr}{fd:FuncData}{ps:List Str}{sp:Sp}{dvs:List V}{ds:List Value}{E:XK}{x:Str}{p pos:Pos}{e:Expr}{es:List Expr}{t:TA}
theorem cR4 {pins:List (Addr×Obj)}{σ:St}{H:Hp}{s:Shared}{Q:VK}{us:List Value}{vs:List V}(M:Mk X.K C f)(F:sF X.prog X.w X.K X.mg X.base CX k f fd ps sp)(hr:fG (k+1) X.A)(hb:Binds X.K fd ps [])
  (hx:rS CX X E pins σ) (I:Inv X pins σ H s) (r:Vals vs us)
  (h: ∀x dx,H x=none->H dx=none->dx≠x->sp (.ref x::vs) (upd (upd H dx<|.own x) x<|.ins C dx []) (λv H2=>v= .non/\Q (.ref x) H2) E) :
  X∩(call (.ref C) us) (EP X pins σ Q) X.xe s:=by
 have hq:=h (s.heap.objs.size+1) s.heap.objs.size (I.hok.fresh<|uF _) (I.hok.fresh<|aG _) (bI<|pT _);have I2:=Inv.made (C:=C) I;have r2:Vals (V.ref (s.heap.objs.size+1)::vs) (Value.ref (s.heap.objs.size+1)::us):= .cons rfl r;have hl:(Value.ref (s.heap.objs.size+1)::us++[]).length=ps.length:=by
  have e:=r2.length;rw[F.len _ _ _ _ hq]at e;rw[iT];exact e.symm
 have bd:=hb (s:={s with heap:=(s.heap.push {cls:= .type "dict",data:= .dict #[]}).push (instObj C s.heap.objs.size)}) (Value.ref (s.heap.objs.size+1)::us) I2.kIn hl;rw[iT]at bd;refine nP (c05 (f:=f) I.kIn M.makes M.init (eX.mp M.fn) (pZ (F.run _ X.stack _ _ ⟨Value.ref (s.heap.objs.size+1)::us,[]⟩ (Value.ref (s.heap.objs.size+1)::us) _ _ E (hr.make C us [])
  (I2.env0.make C us []) bd r2 hq) λr s' hq'=> ?_))
 cases r with
 | error e=>exact hx _ _ e s' I2 hq'
 | ok fl=>
  cases fl with
  | ret u=>
   obtain⟨v,H',I3,rv,ev,q3⟩:=I2.after hq';subst ev;exact⟨rv,⟨V.ref<|s.heap.objs.size+1,H',I3,rfl,q3⟩⟩
  | next=>exact False.elim hq'
  | brk=>exact False.elim hq'
  | cont=>exact False.elim hq'
theorem dG7 {σ:St}{H:Hp}{Q:VK}(M:Mk X.K C f)(F:sF X.prog X.w X.K X.mg X.base CX k f fd ps sp)(hr:fG (k+1) X.A)(hg:Gl X x)(hm:X.mg x=some (.ref C))(hb:Binds X.K fd ps [])(hx:rS CX X E pins σ)
  (ha:PA X (e::es) t) (I:Inv X pins σ H s) (h:cJ4 C sp [] E t σ H Q) (hdb:x∪0) (he:starEach (e::es) X.env=(false,eval e X.env)::starEach es X.env) (hpl:(backTo pos<|starEach es X.env).any (·.1)=false) :
  X∩(eval (.Call (.Name x p) (e::es) [] pos) X.env) (EP X pins σ Q) X.xe s:=by
 refine mZ (rG I hg hm ?_ hdb)
 refine zE (h₀:=X.base) I.ok.mod.kin M.kp (thn (ha pos pins s σ H _ I h) λus s1 ⟨vs,H1,I1,r,q⟩=>⟨I1.kIn,?_⟩) he hpl
 exact cR4 M F hr hb hx I1 r λx dx a b c=>by have:=q x dx a b c;rw[iT]at this;exact this
end
end L2
namespace M
section
variable {X:Cx}{e:Expr}{es:List Expr}{pos:Pos}{te:UE}{K:PySem.W.Frag}{A:AS}{H:Hp}
def bK2 (f:Str)(t:UE):UE:=λρ Q=>t ρ λb ρ1=>match b.d with
 | .obj _ ks l=>(match(ks.zip l).lookup f with
  | some d=>Q (.pu d) ρ1
  | none=>False)
 | _=>False
theorem bQ.field {f:Str}{d:D}: ∀{ks:List Str} {l:List D} {vs:List V},bQ K A H l vs->(ks.zip l).lookup f=some d-> ∃v,(ks.zip vs).lookup f=some v/\Rep K A H d v/\f∈ks
 | [],_,_,_,h=>by simp at h
 | _::_,[],_,_,h=>by simp at h
 | q::ks,a::l,vs,r,h=>by
  obtain⟨v,vr,rfl,r1,r2⟩:=r.uncons;rw[aM1,cN]at h;rw[aM1,cN];cases c:f==q with
  | true=>
   rw[c]at h;cases h;exact⟨v,rfl,r1,by rw[eX.mp c];simp⟩
  | false=>
   rw[c]at h;obtain⟨w,h1,h2,h3⟩:=bQ.field r2 h;exact⟨w,h1,h2,eJ _ h3⟩
theorem bB6 {f:Str}(he:PU X e te)(hb:↥(attributeBase e f X.env (eval e X.env)=eval e X.env)):PU X (.Attribute e f pos) (bK2 f te):=
 gR (pe_fld he hb) λσ H Q ⟨C,ρ,Q0,I,h,k⟩=>⟨C,ρ,_,I,h,λb ρ1 v H1 q fz s r=>by
  have rr:=r.rep λa z=>I.avF fz z
  cases ed:b.d with
  | obj C' ks l=>
   rw[ed]at rr q;dsimp only at q;cases el:(ks.zip l).lookup f with
   | none=>rw[el]at q;exact q.elim
   | some d=>
    rw[el]at q;simp only[Rep]at rr;obtain⟨a,dx,vs,rfl,n,c,hl,rl,ok⟩:=rr;obtain⟨w,h1,h2,h3⟩:=rl.field el;exact⟨a,C',dx,ks.zip vs,w,rfl,c,ok.1,ok.2 f h3,h1,k _ ρ1 w H1 q fz s h2⟩
  | _=>rw[ed]at q;exact q.elim⟩
abbrev ΦM:=List D->(List D->Prop)->XP->Prop
nonrec def spI (K:PySem.W.Frag)(mg:Str->Option Value)(C:Addr)(ks:List Str)(φ:ΦM):Sp:=λvs H Q E=> ∃(x dx:Addr) (vs':List V) (A:AS) (ds:List D) (Q0:List D->Prop) (Ex:XP),vs=V.ref x::vs'/\H x=some (.ins C dx [])/\H dx=some (.own x)/\ ¬A x/\ ¬A dx/\(∀a,A a->H a≠none)/\bQ K (λb=>A b\/b=x) H ds vs'/\φ ds Q0 Ex/\
 (∀l ws H',Q0 l->(∀b o,b≠x->H b=some o->H' b=some o)->H' x=some (.ins C dx<|ks.zip ws)->ks.length=ws.length->bQ K (λb=>A b\/b=x) H' l ws->Q .non H')/\
 ∀n Cl es o H',Ex n es->mg n=some (.ref Cl)->(∀b o,b≠x->H b=some o->H' b=some o)->XR K A H' n es o->E (.ref Cl) o H'
structure MkX (P:Program)(w:World)(K:PySem.W.Frag)(mg:Str->Option Value)(base:Heap)(x:Str)(k:Nat)(ks:List Str)(φ:ΦM):Prop where
 ex: ∃C f fd ps,Mk K C f/\OkC K C ks/\sF P w K mg base (CXr P w base) k f fd ps (spI K mg C ks φ)/\Binds K fd ps []/\mg x=some (.ref C)
theorem dN8 {φ:ΦM}{t:UA}{E:XK}{C0:C0}{ρ:Ev}{σ:L2.St}{Q:VK}{Q0:Ev->List D->Prop}{Ex:Ev->XP}(ok:OkC X.K C ks)(I:EOk X.K C0 ρ σ H)(h:t ρ λds ρ1=>φ ds (Q0 ρ1) (Ex ρ1))
  (kq: ∀l ρ1 v H',Q0 ρ1 l->Frz ρ ρ1->gK H H'->Rep X.K (Av C0 ρ1 σ) H' (.obj C ks l) v->Q v H') (kx: ∀n Cl ρ1 es o H',Ex ρ1 n es->X.mg n=some (.ref Cl)->EOk X.K C0 ρ1 σ H'->XR X.K (Av C0 ρ1 σ) H' n es o->E (.ref Cl) o H') :
  cJ4 C (spI X.K X.mg C ks φ) [] E (lA X.K t) σ H Q:=by
 refine⟨C0,ρ,_,I,h,λds ρ1 vs H1 q f s r x dx nx nd ne=> ?_⟩
 have I1:=(I.frz f).same s;have hA: ∀a,Av C0 ρ1 σ a->H1 a≠none:=λa z=>I1.avSome z
 have s3:gK H1 (upd (upd H1 dx<|.own x) x<|.ins C dx []):=λb o z=>by
  rw[cD<|cQ z nx,cD<|cQ z nd];exact z
 have back: ∀H',(∀b o,b≠x->upd (upd H1 dx<|.own x) x (.ins C dx []) b=some o->H' b=some o)->gK H1 H':=λH' z b o q'=>z b o (cQ q' nx) (s3 b o q')
 rw[iT];refine⟨x,dx,vs,Av C0 ρ1 σ,ds,Q0 ρ1,Ex ρ1,rfl,iJ,by rw[cD ne];exact iJ,λz=>hA x z nx,λz=>hA dx z nd,λa z q'=> ?_,r.mono<|mC.fresh s3 nx,q,λl ws H' q0 kp hx hl rl=>⟨rfl,?_⟩,λn Cl es o H' ex hm kp xr=> ?_⟩
 .cases e':H1 a with
  | none=>exact hA a z e'
  | some o=>rw[s3 a o e']at q';cases q'
 .refine kq l ρ1 _ H' q0 f (s.trans<|back H' kp) ?_
  simp only[Rep];exact⟨x,dx,ws,rfl,λz=>hA x z nx,hx,hl,rl.mono<|.sub (.refl _) λa z=> .inl z,ok⟩
 .exact kx n Cl ρ1 es o H' ex hm (I1.same<|back H' kp) xr
def c38 (ks:List Str)(φ:ΦM)(t:UA):UE:=λρ Q=>t ρ λds ρ1=>φ ds (λl=> ∀C,Q (.pu<|.obj C ks l) ρ1) λ_ _=>False
theorem cL6 {φ:ΦM}{t:UA}(F:MkX X.prog X.w X.K X.mg X.base x k ks φ)(hr:fG (k'+1) X.A)(hk:k<=k')(hg:Gl X x)(ha:PUA X (e::es) t)(hdb:⇑(x∪0))
  (he:↥(starEach (e::es) X.env=(false,eval e X.env)::starEach es X.env)) (hpl:↥((backTo pos<|starEach es X.env).any (·.1)=false)):PU X (.Call (.Name x p) (e::es) [] pos) (c38 ks φ t):=by
 obtain⟨C,f,fd,ps,M,ok,G,b,m⟩:=F.ex;have hp:uL (CXr X.prog X.w X.base) X (λ_ _ _=>False):=by
  rintro pins σ H s e s' I ⟨_,_,_,_,_,_,_,_,_,_,_,_,z⟩;exact z.elim
 refine gR (dC5 M (G.mono hk) hr hg m b .nil hp ha hdb he hpl) λσ H Q ⟨C0,ρ,Q0,I,h,k⟩=> ?_
 exact dN8 (Q0:=λρ1 l=> ∀C,Q0 (.pu<|.obj C ks l) ρ1) (Ex:=λ_ _ _=>False) ok I h (λl ρ1 v H' q f s r=>k _ ρ1 v H' (q C) f s r) λn Cl ρ1 es o H' z=>z.elim
def d34 (i:Nat)(ks:List Str)(φ:ΦM)(t:UA)(names:List Str)(th:US):US:=λE ρ=>t ρ λds ρ1=>φ ds (λl=> ∀C,E.nx<|ρ1.set i<|some<|.pu<|.obj C ks l) λn _=>n∈names/\th E ρ1
theorem dG8 {φ:ΦM}{apos rp hpos:Pos}{t:UA}{b0:Stmt}{suite:List Stmt}{th:US}{B:String}(i:Nat)(names:List Str)(FB:ExcBaseFacts B newId initId bmB)(F:MkX X.prog X.w X.K X.mg X.base x k ks φ)(hr:fG (k'+1) X.A)(hk:k<=k')(hstk:X.stack=X.env::X.outer)(hfr:X.env.frame=some X.env.locals)(hex:X.ex=[])(hc:X.calm=true)
  (hg:Gl X x) (ha: ∀xe,PUA (X.wish xe) (e::es) t) (hN:X.N.Nodup) (hi:X.N[i]? =some y) (hy:Loc X.env.scope y) (hsuite: ∀a,qF (X.inX a) (b0::suite) th) (hgr:Gl X r) (hmr:X.mg r=some (.ref R)) (hR:excIn X.K R bmB newId=true) (hu: ∀n∈names,∀C,X.mg n=some (.ref C)->a91 X.K R C bmB newId)
  (hl: ∀pins σ H s,Inv X pins σ H s->i<σ.length) (hdb:⇑(x∪0)) (hd:⇑(r∪0))
  (he:↥(starEach (e::es) X.env=(false,eval e X.env)::starEach es X.env)) (hpl:↥((backTo cpos<|starEach es X.env).any (·.1)=false)) (hs:↥(swapsWith (.Call (.Name x p) (e::es) [] cpos) (some<|.Name y py) apos.line X.env=pure false)) (hf:X.fn y=true\/X.env.scope.names.lookup y=some .local:=by walk_at "z") :
  PUS X (.Try [.Assign [.Name y py] (.Call (.Name x p) (e::es) [] cpos) apos] [.ExceptHandler (some<|.Name r rp) none (b0::suite) hpos] [] [] pos) (d34 i ks φ t names th):=by
 obtain⟨C,f,fd,ps,M,ok,G,b,m⟩:=F.ex;intro pins s σ H D J q;refine ps_try (R:=R) (tb:=λE=>dB5 (cJ4 C (spI X.K X.mg C ks φ) [] E<|lA X.K t) (a76 i)) (th:=lS X.K th) FB hstk hfr hex hc (λxe E pins s σ H D I pa h=> ?_) hsuite hgr hmr hR hd pins s σ H D J ?_
 .refine nB (wpAny_Assign_Name (thn (dG7 (X:=X.wish xe) M (G.mono hk) hr hg m b pa (ha xe) I h hdb he hpl) λv s1 ⟨y',H1,I1,r1,q1⟩=> ?_) hs)
  exact uJ (X:=X.wish xe) I1 hN hi hy r1 (λs2 I2=>hV ⟨_,H1,I2,q1⟩) hf
 .obtain⟨C0,ρ,D0,I,h,k⟩:=q;refine⟨λcls _ H'=> ∃n Cl ρ1,cls=Value.ref Cl/\X.mg n=some (.ref Cl)/\n∈names/\th D0 ρ1/\EOk X.K C0 ρ1 σ H',?_,?_⟩
  .exact dN8 (Q0:=λρ1 l=> ∀C,D0.nx<|ρ1.set i<|some<|.pu<|.obj C ks l) (Ex:=λρ1 n _=>n∈names/\th D0 ρ1) ok I h
    (λl ρ1 v H' q f s1 r=>k.nx _ _ _ (q C) ((I.frz f).store s1 (show oU X.K (Av C0 ρ1 σ) H H' (.pu<|.obj C ks l) v from r)<|hl pins σ H s J)) λn Cl ρ1 es o H' z hm' I' _=>⟨n,Cl,ρ1,rfl,hm',z.1,z.2,I'⟩
  .rintro Cl o H' ⟨n,Cl',ρ1,e1,hm',hn,ht,I'⟩;cases e1;exact⟨hu n hn Cl hm',C0,ρ1,D0,I',ht,k⟩
end
section
variable {K:PySem.W.Frag}{C:C0}{ρ ρ':Ev}{σ:L2.St}{H H':Hp}
theorem EOk.poke {x:Addr}{o:HO}(I:EOk K C ρ σ H)(ax:C.A0 x)(hx: ∀vs,C.H0 x≠some (.lst vs)):EOk K ⟨λb=>if b=x then some o else C.H0 b,C.A0⟩ ρ σ (upd H x o):=by
 have ne: ∀a,C.H0 a=none->a≠x:=λa z e=>by subst e;exact I.a0 a ax z
 have P:mC (Av C ρ σ) H (Av ⟨λb=>if b=x then some o else C.H0 b,C.A0⟩ ρ σ) (upd H x o):=λb u nb e=>⟨nb,by rw[cD λz=>nb (by subst z;exact .inl ax)];exact e⟩
 refine⟨I.len,?_,?_,I.inj,?_,?_,?_⟩
 .intro i d h;obtain⟨v,h1,h2⟩:=I.pu i d h;exact⟨v,h1,h2.mono P⟩
 .intro i l h;obtain⟨a,vs,h1,h2,h3,h4⟩:=I.ow i l h;have na:=ne a h3;exact⟨a,vs,h1,by rw[cD na];exact h2,by show(if a=x then some o else C.H0 a)=none;rw[a8 na];exact h3,h4.mono P⟩
 .intro i l h;obtain⟨a,vs,h1,h2,h3,h4⟩:=I.bo i l h;have na:a≠x:=λz=>by subst z;exact hx vs h3
  exact⟨a,vs,h1,h2,by show(if a=x then some o else C.H0 a)=_;rw[a8 na];exact h3,h4.mono P⟩
 .intro b u h
  by_cases c:b=x
  .subst c;have h':(if b=b then some o else C.H0 b)=some u:=h;rw[aA rfl]at h';rw[iJ];exact h'
  .have h':(if b=x then some o else C.H0 b)=some u:=h;rw[a8 c]at h';rw[cD c];exact I.ext b u h'
 .intro a z;show(if a=x then some o else C.H0 a)≠none;split
  .simp
  .exact I.a0 a z
theorem bB7 {x Cl:Addr}{fs:List (Str×V)}{f:Str}{te:UE}{Q0:B->Ev->Prop}{D:aR5}(I:EOk K C ρ σ H)(ax:C.A0 x)(hx:H x=some (.ins Cl dx fs))(h0:ρ[0]? =some (some<|.pu<|.adr x))(cl:Cls K Cl)(na:a77 K Cl f)(hf:fs.length<1000)(h:te ρ Q0)
  (k: ∀b ρ1 w H',Q0 b ρ1->ρ1[0]? =some (some<|.pu<|.adr x)->(∀a o,a≠x->H a=some o->H' a=some o)->H' x=some (.ins Cl dx<|vZ f w fs)->(∃C1:C0,C1.A0=C.A0/\EOk K C1 ρ1 σ H')->Rep K C.A0 H' b.d w->(∀d v,Rep K C.A0 H d v->Rep K C.A0 H' d v)->D.nx σ H') :
  cW7 K (a75 0) (lE K te) f D σ H:=by
 refine⟨C,ρ,Q0,I,h,λb ρ1 w H1 q fz s r=> ?_⟩
 have I1:=(I.frz fz).same s;have h1:ρ1[0]? =some (some<|.pu<|.adr x):=by
  rcases fz.2 0 with z| ⟨l,z,_⟩
  .rw[z];exact h0
  .rw[h0]at z;cases z
 obtain⟨v,e1,e2⟩:=I1.pu 0 _ h1;simp only[Rep]at e2;subst e2;have hx1:=s _ _ hx;have nl: ∀vs,C.H0 x≠some (.lst vs):=λvs z=>by
  have:=I.ext x _ z;rw[hx]at this;cases this
 have P:mC C.A0 H1 C.A0 (upd H1 x<|.ins Cl dx<|vZ f w fs):=mC.upd ax;refine⟨.ref x,e1,x,Cl,dx,fs,rfl,hx1,cl,na,hf,k b ρ1 w _ q h1 (λa o ne e=>by rw[cD ne];exact s a o e) iJ ⟨⟨λb=>if b=x then some (.ins Cl dx<|vZ f w fs)else C.H0 b,C.A0⟩,rfl,I1.poke (o:= .ins Cl dx (vZ f w fs)) ax nl⟩ ?_ λd v r'=> ?_⟩
 .exact((r.rep λa z=>I.avF fz z).mono<|.sub (.refl _) λa z=> .inl z).mono P
 .exact(r'.mono<|.same s).mono P
end
section
variable {X:Cx}{E:XK}{st:Stmt}{sts:List Stmt}{t u:USX}{tS:TS}
theorem dG9 (h1:bK1 X E st t)(h2:PSs X sts tS):PSs X (st::sts) (λD=>lSX X.K X.mg E t {D with nx:=tS D}):=xV h1 h2
theorem b71 (h1:bK1 X E st t)(h2:PSs X sts (λD=>lSX X.K X.mg E u {D with nx:=tS D})):PSs X (st::sts) (λD=>lSX X.K X.mg E (λEx=>aQ (t Ex) (u Ex)) {D with nx:=tS D}):=
 b92 (xV h1 h2) λD σ H ⟨C,ρ,D0,Ex,I,h,k,kx⟩=>⟨C,ρ,{D0 with nx:=u Ex D0},Ex,I,h,⟨λρ' σ' H' q I'=>⟨C,ρ',D0,Ex,I',q,k,kx⟩,k.rt,k.bk,k.ct⟩,kx⟩
def tS3 (K:PySem.W.Frag)(f1 f2 f3:Str)(t1 t2 t3:UE):TS:=tSeq (cW7 K (a75 0) (lE K t1) f1) (tSeq (cW7 K (a75 0) (lE K t2) f2)<|cW7 K (a75 0) (lE K t3) f3)
end
theorem d35 {Cl:Addr}{ps:List Str}{φ:ΦM}{f3:Str}{t1 t2 t3:UE}(F:Fun K x qual st f fd)(S:aY N ps (aF st))(ok:OkC K Cl [f1,f2,f3])(n1:f1≠f2)(n2:f1≠f3)(n3:f2≠f3)
  (len: ∀ds Q Ex,φ ds Q Ex->ds.length+1=ps.length) (hN:N≠[]) {t:USX}
  (der: ∀(cdv:Value) (A:Around) (outer:List Env) (s:Shared) (H:Hp) (E:XK),fG k (A.deeper<|envOfC qual (aF st) s.heap.objs.size f cdv)->
   PSs (qE (CXr P w base) P w K mg base N qual (aF st) f cdv A outer s H E) (cV st) (λD=>lSX K mg E t {D with nx:=tS3 K f1 f2 f3 t1 t2 t3 D}))
  (rd: ∀a ds Q Ex,φ ds Q Ex->t Ex {nx:=λρ=>ρ[0]? =some (some<|.pu<|.adr a)/\t1 ρ λb1 ρ1=>t2 ρ1 λb2 ρ2=>t3 ρ2 λb3 _=>Q [b1.d,b2.d,b3.d],rt:=λ_=>False} (init N (.adr a::ds))) :
  sF P w K mg base (CXr P w base) (k+1) f fd ps (spI K mg Cl [f1,f2,f3] φ):=by
 obtain⟨oc,od,kV,doc,pm,an,cdv,ct,osl,rfl,lk,hcd⟩:=F.ex;refine cX1 lk hcd S (λvs H Q E h=> ?_) λA outer s H vs Q E hr h=> ?_
 .obtain⟨x,dx,vs',A,ds,Q0,Ex,rfl,_,_,_,_,_,r,h,_⟩:=h;have:=len ds Q0 Ex h;rw[dC,<-r.length];exact this
 .obtain⟨x,dx,vs',A',ds,Q0,Ex,rfl,hx,hdx,nx,nd,hA,r,h,q,qx⟩:=h;have hA2: ∀a,(A' a\/a=x)->H a≠none:=λa z=>by
   rcases z with z|rfl
   .exact hA a z
   .rw[hx];simp
  have r2:bQ K (λb=>A' b\/b=x) H (.adr x::ds) (.ref x::vs'):= .cons (by simp only[Rep]) r
  refine⟨_,der cdv A outer s H E hr,⟨H,λb=>A' b\/b=x⟩,init N (.adr x::ds),_,Ex,bU1 hA2 r2,rd x ds Q0 Ex h,⟨λρ σ H' z I=> ?_,λ_ _ _ z=>z.elim,λ_ _ _ z=>z.elim,λ_ _ _ z=>z.elim⟩,λn Cl' es o H' ex hm sm xr=>qx n Cl' es o H' ex hm (λb o _ e=>sm b o e) (xr.mono<|.sub (.refl _) λa z=> .inl z)⟩
  obtain⟨z0,z⟩:=z;have hx':H' x=some (.ins Cl dx []):=I.ext x _ hx;refine bB7 (C:=⟨H,λb=>A' b\/b=x⟩) I (.inr rfl) hx' z0 ok.1 (ok.2 f1 ae) ac z ?_
  rintro b1 ρ1 w1 H1 z1 z0 k1 x1 ⟨C1,a1,I1⟩ r1 m1;refine bB7 (C:=C1) I1 (by rw[a1];exact .inr rfl) x1 z0 ok.1 (ok.2 f2 ae) (show 1<1000 by decide) z1 ?_
  rintro b2 ρ2 w2 H2 z2 z0 k2 x2 ⟨C2,a2,I2⟩ r2 m2;refine bB7 (C:=C2) I2 (by rw[a2,a1];exact .inr rfl) x2 z0 ok.1 (ok.2 f3 ae) (by simp[vZ,n1]) z2 ?_
  rintro b3 ρ3 w3 H3 z3 z0 k3 x3 ⟨C3,a3,I3⟩ r3 m3;rw[a1]at m2 r2;rw[a2,a1]at m3 r3;refine q [b1.d,b2.d,b3.d] [w1,w2,w3] H3 z3 (λb o ne e=>k3 b o ne (k2 b o ne<|k1 b o ne<|I.ext b o e)) ?_ rfl (.cons (m3 _ _<|m2 _ _ r1)<|.cons (m3 _ _ r2)<|.cons r3 .nil)
  rw[x3];simp[vZ,n1,n2,n3]
def bV2 (s:Stmt):List Stmt:=match s with
 | .ClassDef _ _ _ b _ _ _ _ _ _ _=>b
 | _=>[]
section
variable {P:Program}{w:World}{K:PySem.W.Frag}{mg:Str->Option Value}{base:Heap}
theorem cL7 {an:Option Addr}{osl:Array (Option Value)}{kV doc pm cdv ct:Value}{nm:Str}{x0 x1 x2:Str}{p1 p3 p4 p5 p6 p7 p8:Pos}
  (l:K.lookup fI=some ⟨.type "function",od,.func<|fnOf nm qual (iY st) (cV st) (aF st) .none kV doc pm an cdv ct,osl⟩) (c:codeIn K cdv qual=true) (k:keepIn K (.ref fI)=true)
  (hb:cV st=[.Assign [.Attribute (.Name x0 p1) f1 p2] (.Name x1 p3) p4,.Assign [.Attribute (.Name x0 p5) f2 p6] (.Name x2 p7) p8]) (S:aY [x0,x1,x2] [x0,x1,x2] (aF st))
  (l0:(aF st).names.lookup x0=some .local) (l1:(aF st).names.lookup x1=some .local) (l2:(aF st).names.lookup x2=some .local) (d0:x0∪0) (d1:x1∪0) (d2:x2∪0)
  (bd: ∀(kV doc pm:Value) (an:Option Addr) (cdv ct:Value) (us:List Value),us.length=[x0,x1,x2].length->bindArgs (fnOf nm qual (iY st) (cV st) (aF st) .none kV doc pm an cdv ct) ⟨us,[]⟩=pure ([x0,x1,x2].zip us))
  {cd:ClassData} (hc:PySem.W.clsIn K C=some cd) (hm:uP cd.mro=true) (hd:cd.hasDict=true) (sa:PySem.W.findIn K (.ref C) "__setattr__"=some (some<|.builtin "object.__setattr__")) (n1:PySem.W.findIn K (.ref C) f1=some none) (n2:PySem.W.findIn K (.ref C) f2=some none) :
  c35 K C fI (fnOf nm qual (iY st) (cV st) (aF st) .none kV doc pm an cdv ct) f1 f2:=
 ⟨⟨_,od,nm,qual,iY st,aF st,kV,doc,pm,an,cdv,ct,osl,x0,x1,x2,p1,p2,p3,p4,p5,p6,p7,p8,by rw[hb],l,rfl,c,S,l0,l1,l2,d0,d1,d2,(aX5 (st:=st) l c k).binds bd⟩,⟨cd,hc,hm,hd⟩,sa,n1,n2⟩
theorem aE8 {cd:ClassData}(h:excIn K C bmB newId=true\/ ∃fI,a59 K C fI bmB newId=true)(hc:PySem.W.clsIn K C=some cd)(hm:cd.mro.contains (.ref R)=true):a91 K R C bmB newId:=⟨h,cd,hc,hm⟩
theorem Fn.mkA {ps:List Str}(F:Fun K y qual st f fd)(m:mg x=some (.ref f))(b:Binds K fd ps [])(S:aY N ps (aF st))
  (len: ∀ds Q,φ ds Q->ds.length=ps.length) {t:US}
  (der: ∀(cdv:Value) (A:Around) (outer:List Env) (s:Shared) (H:Hp) (E:XK),fG k (A.deeper<|envOfC qual (aF st) s.heap.objs.size f cdv)->qF (qE CX0 P w K mg base N qual (aF st) f cdv A outer s H E).nox (cV st) t)
  (rd: ∀ds Q,φ ds Q->t {Q with} (init N ds)):Fn<$>x ps (k+1) φ:=
 ⟨f,fd,bU2 F S len λcdv A outer s H E hr=>⟨t,der cdv A outer s H E hr,rd⟩,b,F.kp,m⟩
end
end M
end
section
namespace L2
open PySem PySem.Spec PySem.W PySem.Calls PyProof.Rows Builtin Builtin.ObjectAttr Builtin.Getset_descriptor
section
variable {prog:Program}{w:World}{A:Around}{E:Value->Shared->Prop}{s:Shared}{K:Frag}{x D:Addr}{ox:Obj}{a g:Value}{name:Str}
theorem cL8 {M:Model}(hx:h.get? x=some ox)(hc:ox.cls= .ref D):Looks M h (typeOf<|.ref x) (.ref D):=by
 rw[<-hc];exact(Looks.ld hx).andThen .now
theorem dH0 {M:Model}(X:K.In h)(ha:findIn K (.ref D) name=some (some a))(hg:specialIn K a "__get__"=some (some g))(ht:takesIn K a=some true):Looks M h (find (.ref x) (.ref D) name) (.bind g a):=by
 have u3:Looks M h (dataDescriptor? (some a)<|some g) (some (g,a)):=(looks_takesIn X ht).andThen .now;have u2:Looks M h (getOf<|some a) (some g):=looks_specialIn X hg;exact(looks_findIn X ha).andThen (u2.andThen<|u3.andThen<|Looks.tag .now)
theorem dH1 {Q:Option Value->Shared->Prop}(X:K.In s.heap)(hx:s.heap.get? x=some ox)(hc:ox.cls= .ref D)(hg:findIn K (.ref D) "__getattribute__"=some (some<|.builtin "BaseException.__getattribute__"))(hh:findIn K (.ref D) "__getattr__"=some none)(ha:findIn K (.ref D) "__class__"=some (some<|.builtin "object.__class__"))
  (hn:specialIn K (.builtin "object.__class__") "__get__"=some (some<|.builtin "getset_descriptor.__get__")) (ht:takesIn K (.builtin "object.__class__")=some true) (hm:mroIn K D (.type "object")=some true) (hb:mroIn K D (.type "BaseException")=some true) (h:Q (some<|.ref D) {s with toks:=s.toks+1}) :
  wpAny (model prog w) A (getAttr? (.ref x) "__class__") Q E s:=by
 obtain⟨hp,gn,dr,tn,os⟩:=s;have v0:=cL8 (M:=model prog w) hx hc;have v1:=looks_findIn (M:=model prog w) X hg;have v2:=dH0 (M:=model prog w) (x:=x) X ha hn ht;have v3:=looks_findIn (M:=model prog w) X hh;have v4:=looks_mroIn (M:=model prog w) X hm;have v5:=looks_mroIn (M:=model prog w) X hb
 have v6:Looks (model prog w) hp (bindSpecial (.builtin "BaseException.__getattribute__")<|.ref x) (.builtin "BaseException.__getattribute__",[.ref x]):=Looks.of_pure (PySem.F.excAttr_ValueError.ga.bind<|.ref x);unfold getAttr? getAttrBy?;unfold getAttrBy;refine a9 (wpAny_mkText<|a9<|nK<|gH<|a9<|v0.at<|a9<|v1.at ?_);show wpAny _ _ (getAttrByItsOwn _ _ _ _ _ _) _ _ _
 unfold getAttrByItsOwn hookBefore;refine a9 (v3.at<|a9<|nK<|gH ?_);show wpAny _ _ (boundAndCalled _ _ _) _ _ _;unfold boundAndCalled;refine a9 (v6.at ?_);have bk:builtinKind "BaseException.__getattribute__"=some .slot:=af
 have hsp:splitId "BaseException.__getattribute__"=some ("BaseException","__getattribute__"):=af
 have har:=F.args_bexc_ga (.ref x) (.str "__class__" tn);refine nP (aL3 PySem.F.excAttr_ValueError.ga.plain F.entry_bexc_ga ?_);simp only[checkBuiltinCall,bk,hsp];refine a9 ?_;unfold isInstance;have w1:=looks_findIn (M:=model prog w) X ha;have w2:Looks (model prog w) hp (getOf<|some<|.builtin "object.__class__") (some<|.builtin "getset_descriptor.__get__"):=looks_specialIn X hn
 have w3:Looks (model prog w) hp (dataDescriptor? (some<|.builtin "object.__class__")<|some<|.builtin "getset_descriptor.__get__") (some (.builtin "getset_descriptor.__get__",.builtin "object.__class__")):=(looks_takesIn X ht).andThen .now
 repeat (any_goals (first|assumption|with_reducible refine v0.at ?_|with_reducible refine v5.at ?_|with_reducible refine w1.at ?_|with_reducible refine w2.at ?_|with_reducible refine w3.at ?_|wp_step))
 refine aL3 KF.slot_gs.plain KF.entry_gs ?_
 refine KF.slot_gs.check _ _ _ _ _ _ _ _ KF.type_class (KF.args_gs _ _ _) ?_
 unfold Builtin.«getset_descriptor.__get__»; unfold descrGet;rw[dga_obj];refine a9 ?_;refine aH ?_;unfold descrGetter;unfold descrCheckInstance descrNameAndClass;unfold isInstance;simp only[KF.owner_class]
 repeat lk
 refine⟨aM2 _ af,?_⟩
 refine codeAny_builtin KF.entry_class ?_
 unfold Builtin.«object.__class__»; unfold shownTypeOf
 repeat lk
 repeat (first|exact h|wp_step)
structure cF8 (K:Frag)(C:Addr):Prop where
 ci:(clsIn K C).isSome=true
 ga:findIn K (.ref C) "__getattribute__"=some (some<|.builtin "BaseException.__getattribute__")
 gh:findIn K (.ref C) "__getattr__"=some none
 ha:findIn K (.ref C) "__class__"=some (some<|.builtin "object.__class__")
 hn:specialIn K (.builtin "object.__class__") "__get__"=some (some<|.builtin "getset_descriptor.__get__")
 tk:takesIn K (.builtin "object.__class__")=some true
 hm:mroIn K C (.type "object")=some true
 hb:mroIn K C (.type "BaseException")=some true
theorem c39 (k:cF8 K C):KitX K (.ref x) (.ref C) (λh=> ∃o,h.get? x=some o/\o.cls= .ref C) where
 ty:=λ_ _ _ ⟨_,h1,h2⟩=>cL8 h1 h2
 it:=λM h X _=>by
  obtain⟨cd,e⟩:=yV.mp k.ci;unfold clsIn at e;split at e
  .rename_i look
   intro A' Q' E' s' keep q;unfold isType loadHead;exact a9 (wpAny_loadPart (keep _ _<|X _ _ look)<|aH q)
  .cases e
 ne:=λh tp dd its n sl X at_=>by
  obtain⟨cd,e⟩:=yV.mp k.ci;rw[Bool.eq_false_iff];intro q;cases (eX.mp q:Value.ref C= .ref tp);unfold clsIn at e;split at e
  .rename_i look
   cases (X _ _ look).symm.trans at_
  .cases e
 ca:=λX ⟨_,h1,h2⟩ q=>dH1 X h1 h2 k.ga k.gh k.ha k.hn k.tk k.hm k.hb q
end
end L2
namespace M
def XD (a:Addr)(oe:Obj)(x:D):Prop:=x= .adr a\/ ∃d ks l,x= .xob a d ks l/\oe.dict=some d/\ ∀c,oe.data≠ .cls c
theorem XD.rep {A:AS}{H:Hp}{x:D}{v:V}(h:XD a oe x)(r:Rep K A H x v):v= .ref a:=by
 rcases h with rfl| ⟨d,ks,l,rfl,_⟩
 .simpa only[Rep]using r
 .simp only[Rep]at r;obtain⟨vs,e,_⟩:=r;exact e
def gIs (x d:D)(b:Bool):List D->(B->Prop)->Prop:=λds Q=>ds=[x,d]/\Q (.pu<|.bl b)
def clsV:D->Option (V×Value)
 | .adr R=>some (.ref R,.ref R)
 | .ty T=>some (.ty T,.type T)
 | _=>none
section
variable {X:Cx}{a C:Addr}{oe:Obj}{e0 d:D}{v:V}{u:Value}{b:Bool}
theorem cu_is (k:cF8 X.K C)(hp:(a,oe)∈X.pn)(hc:oe.cls= .ref C)(h0:XD a oe e0)(hd:clsV d=some (v,u))(e:kitOne X.K (.ref C) u=some b):wB X (.builtin "isinstance") (gIs e0 d b):=by
 intro A H ds vs Q0 Q hA r ⟨g1,g2⟩ q;subst g1;obtain⟨x,vr,rfl,r1,r2⟩:=r.uncons;obtain⟨y,vr2,rfl,r3,r4⟩:=r2.uncons;cases r4.unnil;have ex:x= .ref a:=h0.rep r1;have ey:y=v/\ ∀z,RelV v z->z=u:=by
  cases d with
  | adr R=>cases hd;exact⟨by simpa only[Rep]using r3,λz h=>h⟩
  | ty T=>cases hd;exact⟨by simpa only[Rep]using r3,λz h=>h⟩
  | _=>cases hd
 obtain⟨rfl,ey⟩:=ey;subst ex;refine⟨λxs H Q=>xs=[.ref a,y]/\Q (.bl b) H,?_,rfl,q _ _ H g2 (.refl _) nQ⟩
 rintro pins s σ H' xs us Q' I rv ⟨rfl,hq⟩;obtain⟨w1,w2,rfl,q1,q2⟩:=vals2 rv;obtain rfl:w1=Value.ref a:=q1;obtain rfl:=ey _ q2;have pin:=I.pin (a,oe) (d4.mpr<|.inl hp);exact PySem.W.kia_one (c39 k) I.kIn ⟨_,pin.1,hc⟩ e (λz=>nomatch z) λtk=>⟨.bl b,H',I.tok _,rfl,hq⟩
end
end M
end
section
namespace L2
section
variable {X:Cx}{pins:List (Addr×Obj)}{σ:St}{H:Hp}{s:Shared}
theorem b72 {M:Model}{Q:Unit->Shared->Prop}(I:Inv X pins σ H s)(hN:X.N.Nodup)(hi:X.N[i]? =some y)(hy:X.env.scope.names.lookup y=some .local)
  (h: ∀s',Inv X pins (σ.set i none) H s'->Q () s'):wpAny M A (do bindName X.env y .none;unbindBehindTheSuite X.env y pos) Q E s:=by
 obtain⟨m,hn,hl⟩:=id I.loc;have lt: ∀{b:Addr} {o:Obj},X.s₀.heap.get? b=some o->b≠X.env.locals:=λe=>bI (b9 (aV e) I.ok.above)
 have iσ:i<σ.length:=by rw[I.len];exact(jK.mp hi).1
 refine wpAny_nameGoes_keeps hy hn (by rw[I.ok.kind];rfl) λh' v hn' hs=>h _ ⟨I.ok,I.os,I.bare,⟨λb o e n hb hx=>(hs.2 b<|lt e).trans (I.base.keep b o e n hb hx),λb o e n hb hx=> ?_,I.base.free,λb o e hx=> ?_,I.base.tups,I.base.frzs,I.base.tbls⟩,⟨_,hn',λj z v' e1 e2 e3=> ?_⟩,λz c e=> ?_,I.free,I.freeC,λp hp=> ?_,λb ob e=> ?_,by exists I.len⟩
 .obtain⟨sl,e1⟩:=I.base.slot b o e n hb hx;exact⟨sl,(hs.2 b<|lt e).trans e1⟩
 .obtain⟨o',e1⟩:=I.base.there b o e hx;exact⟨o',(hs.2 b<|lt e).trans e1⟩
 .by_cases hj:j=i
  .subst hj;rw[yW iσ]at e2;cases e2
  .rw[pI<|Ne.symm hj]at e2;obtain⟨u',r',q⟩:=hl j z v' e1 e2 e3;refine⟨u',r',?_⟩;rcases q with⟨k,e⟩| ⟨k,c,e,t⟩
   .have ne:z≠y:=λe=>hj (b87 hN e1<|e▸hi)
    exact .inl ⟨k,by simp[ne,e]⟩
   .exact .inr ⟨k,c,e,t.sameBut hs<|I.cne z c e⟩
 .obtain⟨w',t⟩:=I.cell z c e;exact⟨w',t.sameBut hs<|I.cne z c e⟩
 .obtain⟨e,n,ne,nf,d⟩:=I.pin p hp;exact⟨(hs.2 p.1 ne).trans e,n,ne,nf,d⟩
 .refine(I.hok b ob e).stay (λc w' hc q=>(hs.2 c ?_).trans q) (λ_ q=>q) λ_ _ q=>q
  intro z;subst z;have fr:=I.free;rcases hc with hc|hc
  .subst hc;rw[fr]at e;cases e
  .rw[fr]at hc;cases hc
def XOk (K:PySem.W.Frag)(C:Addr)(bmB:List Value)(newId:String):Prop:=excIn K C bmB newId=true\/ ∃fI,a59 K C fI bmB newId=true
theorem xok_of (X:K.In h)(a:XOk K C bmB newId): ∃N bm,XO h C N bm newId/\OwnTail h bmB bm:=by
 rcases a with a| ⟨fI,a⟩
 .obtain⟨bm,N,_,o,_,_,tl⟩:=b70 X a;exact⟨N,bm,o,tl⟩
 .obtain⟨bm,N,_,o,_,_,tl⟩:=bB4 X a;exact⟨N,bm,o,tl⟩
theorem dH2 {M:Model}{A:Around}{E:Value->Shared->Prop}{s:Shared}{e C R:Addr}{oe:Obj}{Q:Bool->Shared->Prop}{b:Bool}{K:PySem.W.Frag}{B newId initId:String}{bmB:List Value}(FB:ExcBaseFacts B newId initId bmB)(X:K.In s.heap)(u:cF7 K R C bmB newId b)(hR:XOk K R bmB newId)
  (he:s.heap.get? e=some oe) (hcl:oe.cls= .ref C) (hq:Q b s):wpAny M A (excMatches (.ref e)<|.ref R) Q E s:=by
 obtain⟨N,bm,⟨_,_,_,_,_,_,_,_,_,_,_,_,_,_,hC⟩,hin⟩:=d33 X u;obtain⟨_,bm',⟨_,_,_,_,_,_,_,_,_,_,_,_,_,_,hRo⟩,tl'⟩:=xok_of X hR;have hb:=tl'.hasType FB.hasBase;obtain⟨hp,gn,dr,tn,os⟩:=s;have t1:(Value.ref R::bm').contains (.type "BaseException")=true:=by rw[zF,hb,zY]
 have t2:=tc_notTuple;unfold excMatches
 repeat (first
  | (with_reducible refine jN he ?_;rw[hcl])
  | with_reducible refine jN hRo ?_
  | (with_reducible refine pM hRo ?_;rw[t1])
  | (with_reducible refine pM hC ?_;rw[hin])
  | wp_step)
 cases b with
 | true=>repeat (first|exact hq|wp_step)
 | false=>repeat (first|exact hq|wp_step)
end
section
variable {X:Cx}
noncomputable abbrev Cx.asX (X:Cx)(a:Addr)(oe:Obj):Cx:={X.inX a with pn:=(a,oe)::X.pn}
def bV3 (i:Nat)(D:aR5):aR5:={D with nx:=λσ H=>D.nx (σ.set i none) H,bk:=λσ H=>D.bk (σ.set i none) H,ct:=λσ H=>D.ct (σ.set i none) H}
end
section
variable {X:Cx}{CX:CXT}{k:Nat}{f:Addr}{fd:FuncData}{ps:List Str}{sp:Sp}{E:XK}{x:Str}{p pos:Pos}{e:Expr}{es:List Expr}{t:TA}
theorem dH3 {pins:List (Addr×Obj)}{σ:St}{H:Hp}{s:Shared}{Q:VK}(F:sF X.prog X.w X.K X.mg X.base CX k f fd ps sp)(hr:fG k X.A)(hg:Gl X x)(hm:X.mg x=some (.ref f))(hk:keepIn X.K (.ref f)=true)(hb:Binds X.K fd ps [])(hx:rS CX X E pins σ)
  (ha:PA X (e::es) t) (I:Inv X pins σ H s) (h:cJ3 sp [] E t σ H Q) (hdb:x∪0) (he:starEach (e::es) X.env=(false,eval e X.env)::starEach es X.env) (hpl:(backTo pos<|starEach es X.env).any (·.1)=false) :
  X∩(eval (.Call (.Name x p) (e::es) [] pos) X.env) (EP X pins σ Q) X.xe s:=by
 refine mZ (rG I hg hm ?_ hdb)
 refine zE (h₀:=X.base) I.ok.mod.kin hk (thn (ha pos pins s σ H _ I h) λus s1 ⟨vs,H1,I1,r,q⟩=>⟨I1.kIn,?_⟩) he hpl
 have r2:Vals (vs++[]) (us++[]):=r.append .nil;have hl:(us++[]).length=ps.length:=by rw[<-r2.length];exact F.len _ _ _ _ q
 refine nP (pZ (F.run X.A X.stack s1 H1 ⟨us,[]⟩ (us++[]) (vs++[]) Q E hr I1.env0 (hb s1 us I1.kIn hl) r2 q) λr s' hq=> ?_)
 cases r with
 | error e=>exact hx H1 s1 e s' I1 hq
 | ok fl=>
  cases fl with
  | ret u=>exact I1.after hq
  | next=>exact False.elim hq
  | brk=>exact False.elim hq
  | cont=>exact False.elim hq
end
end L2
namespace M
abbrev USY:=(Str->List D->Ev->Prop)->US
def lSY (K:PySem.W.Frag)(mg:Str->Option Value)(E:XK)(t:USY):TS:=λD σ H=> ∃C ρ D0 Ex,EOk K C ρ σ H/\t Ex D0 ρ/\DOk K C D0 D/\ ∀n Cl es o ρ1 H',Ex n es ρ1->mg n=some (.ref Cl)->EOk K C ρ1 σ H'->XR K (Av C ρ1 σ) H' n es o->E (.ref Cl) o H'
def PUY (X:Cx)(body:List Stmt)(t:USY):Prop:= ∀(xe:Value->Shared->Prop) (E:XK) (pins:List (Addr×Obj)) (s:Shared) (σ:L2.St) (H:Hp) (D:aR5),Inv (X.wish xe) pins σ H s->rS (CXr X.prog X.w X.base) (X.wish xe) E pins σ->lSY X.K X.mg E t D σ H->X∩(execs body X.env) (SP (X.wish xe) pins D) xe s
def aY6 (φ:ΦX)(t:UA)(Ex:Str->List D->Ev->Prop):UE:=λρ Q=>t ρ λds ρ1=>φ ds (λb=>Q b ρ1) λn es=>Ex n es ρ1
section
variable {X:Cx}{e c:Expr}{es:List Expr}{a b:List Stmt}{pos:Pos}{t u:USY}{tc:UT}{K:PySem.W.Frag}{C:C0}{ρ:Ev}{σ:L2.St}{H:Hp}
theorem b73 {ps:List Str}{φ:ΦX}{t:UA}(F:FnX X.prog X.w X.K X.mg X.base x ps k φ)(hr:fG k' X.A)(hk:k<=k')(hg:Gl X x)(ha: ∀xe,PUA (X.wish xe) (e::es) t)(hdb:⇑(x∪0))
  (he:↥(starEach (e::es) X.env=(false,eval e X.env)::starEach es X.env)) (hpl:↥((backTo cpos<|starEach es X.env).any (·.1)=false)) (hs:↥(swapsWith (.Call (.Name x p) (e::es) [] cpos) none pos.line X.env=pure false)) :
  PUY X [.Expr (.Call (.Name x p) (e::es) [] cpos) pos] (λEx=>kU (aY6 φ t Ex)):=by
 rintro xe E pins s σ H D I pa ⟨C,ρ,D0,Ex,I0,h,k,kx⟩;obtain⟨f,fd,G,b,kp,m⟩:=F.ex;refine nB (wpAny_Expr_any (thn (dH3 (X:=X.wish xe) (Q:=λ_ H1=>D.nx σ H1) G (hr.mono hk) hg m kp b pa (ha xe) I ⟨C,ρ,_,I0,h,λds ρ1 vs H1 q f s r=> ?_⟩ hdb he hpl) λv s1 ⟨_,H1,I1,_,q1⟩=>hV ⟨σ,H1,I1,q1⟩) I.quiet hs)
 have I1:=(I0.frz f).same s;show spX X.K X.mg φ (vs++[]) H1 _ E;rw[iT];exact⟨Av C ρ1 σ,ds,_,_,λa z=>I1.avSome z,r,q,λb v H' q' s' r'=>k.nx _ _ _ q' (I1.same s'),λn Cl es o H' ex hm s' xr=>kx n Cl es o ρ1 H' ex hm (I1.same s') xr⟩
theorem EOk.gone (I:EOk K C ρ σ H)(i:Nat):EOk K C (ρ.set i none) (σ.set i none) H:=by
 have at_: ∀{j:Nat} {b:B},(ρ.set i none)[j]? =some (some b)->j≠i/\ρ[j]? =some (some b):=λ{j b} e=>by
  by_cases c:j=i
  .subst c
   by_cases l:j<ρ.length
   .rw[yW l]at e;cases e
   .rw[eV (by rw[dL];omega)]at e;cases e
  .rw[pI<|Ne.symm c]at e;exact⟨c,e⟩
 have own: ∀a,Av C (ρ.set i none) (σ.set i none) a->Av C ρ σ a:=λa z=>by
  rcases z with z| ⟨j,l,e1,e2⟩
  .exact .inl z
  .obtain⟨n,e1⟩:=at_ e1;rw[pI<|Ne.symm n]at e2;exact .inr ⟨j,l,e1,e2⟩
 have pr:mC (Av C ρ σ) H (Av C (ρ.set i none)<|σ.set i none) H:=λb o n q=>⟨λz=>n (own b z),q⟩
 have sg: ∀{j:Nat},j≠i->(σ.set i none)[j]? =σ[j]? :=λn=>pI (Ne.symm n)
 refine⟨by simpa using I.len,λj d e=> ?_,λj l e=> ?_,λj j' l l' a e1 e2 e3 e4=> ?_,λj l e=> ?_,I.ext,I.a0⟩
 .obtain⟨n,e⟩:=at_ e;obtain⟨v,e1,r⟩:=I.pu j d e;exact⟨v,by rw[sg n];exact e1,r.mono pr⟩
 .obtain⟨n,e⟩:=at_ e;obtain⟨a,vs,e1,e2,e3,r⟩:=I.ow j l e;exact⟨a,vs,by rw[sg n];exact e1,e2,e3,r.mono pr⟩
 .obtain⟨n1,e1⟩:=at_ e1;obtain⟨n2,e2⟩:=at_ e2;rw[sg n1]at e3;rw[sg n2]at e4;exact I.inj j j' l l' a e1 e2 e3 e4
 .obtain⟨n,e⟩:=at_ e;obtain⟨a,vs,e1,e2,e3,r⟩:=I.bo j l e;exact⟨a,vs,by rw[sg n];exact e1,e2,e3,r.mono pr⟩
def bP7 (i:Nat)(E:UD):UD:={E with nx:=λρ=>E.nx (ρ.set i none),bk:=λρ=>E.bk (ρ.set i none),ct:=λρ=>E.ct (ρ.set i none)}
def mkX (n:Str)(mk:Addr->Addr->List D->D):Prop:=(a90 n=[]/\mk=λa _ _=> .adr a)\/(a90 n≠[]/\mk=λa d es=> .xob a d (a90 n) es)
theorem bK3:bootBuiltins "ValueError"=some (.type "ValueError"):=af
def cF9 (x:D)(i:Nat)(b:Bool):UE:=λρ Q=>ρ[i]? =some (some<|.pu x)/\Q (.pu<|.bl b) ρ
theorem sI (hg:Gl X r)(hm:X.mg r=some (.ref R))(hd:⇑(r∪0)):PU X (.Name r p) (uC<|.adr R):=b66 (bS8 (v:= .ref R) hg hm rfl hd) λA H=>by simp only[Rep]
theorem d36 {x:Addr}{e0:D}{C:Addr}{d:D}{v:V}{w:Value}{o:Bool}{pr:Pos}(i:Nat)(k:cF8 X.K C)(hp:(x,oe)∈X.pn)(hc:oe.cls= .ref C)(h0:XD x oe e0)(hy:PE X (.Name y py) (a75 i))(hr:PU X (.Name r pr) (uC d))(hv:clsV d=some (v,w))(hk:kitOne X.K (.ref C) w=some o)
  (hg:Gl X "isinstance") (hm:X.mg "isinstance"=none) (he:↥(starEach [.Name y py,.Name r pr] X.env=(false,eval (.Name y py) X.env)::starEach [.Name r pr] X.env)) (he2:↥(starEach [.Name r pr] X.env=(false,eval (.Name r pr) X.env)::starEach [] X.env)) (hpl:↥((backTo pos<|starEach [.Name r pr] X.env).any (·.1)=false)) :
  PU X (.Call (.Name "isinstance" p) [.Name y py,.Name r pr] [] pos) (cF9 e0 i o):=
 gR (iL (cu_is k hp hc h0 hv hk) hg hm boot_isinstance (aD (cR i hy) (aD hr aB he2) he) ac ac he hpl) λσ H Q ⟨C0,ρ,Q0,I,⟨h1,h2⟩,kk⟩=>⟨C0,ρ,Q0,I,by
  simp only[aS,a7,aC,a78,h1,uC,aM,B.d]
  first|exact⟨rfl,h2⟩|exact⟨trivial,h2⟩,kk⟩
end
end M
end
section
namespace L2
section
variable {X:Cx}
def tTryN (C1:Addr)(i:Nat)(tb:XK->TS)(th1:Addr->Option Addr->TS):TS:=λD σ H=> ∃E,tb E D σ H/\ ∀C o H',E (.ref C) o H'->C=C1/\ ∀a,th1 a o (bV3 i D) (σ.set i<|some<|.ref a) H'
theorem dH4 {body:List Stmt}{b0:Stmt}{suite1:List Stmt}{hrest:List ExceptHandler}{r1 y:Str}{rp1 hp1 pos:Pos}{C1 R1:Addr}{B newId initId:String}{bmB:List Value}{tb:XK->TS}{th1:Addr->Option Addr->TS}{i:Nat}(FB:ExcBaseFacts B newId initId bmB)(hstk:X.stack=X.env::X.outer)(hfr:X.env.frame=some X.env.locals)(hex:X.ex=[])(hc:X.calm=true)
  (hbody: ∀(xe:Value->Shared->Prop) (E:XK) (pins:List (Addr×Obj)) (s:Shared) (σ:St) (H:Hp) (D:aR5),Inv (X.wish xe) pins σ H s->rS (CXr X.prog X.w X.base) (X.wish xe) E pins σ->tb E D σ H->X∩(execs body X.env) (SP (X.wish xe) pins D) xe s)
  (hs1: ∀a oe o,oe.cls= .ref C1->(∀d,o=some d->oe.dict=some d)->(∀c,oe.data≠ .cls c)->PSs (X.asX a oe) (b0::suite1) (th1 a o)) (hg1:Gl X r1) (hm1:X.mg r1=some (.ref R1)) (hR1:XOk X.K R1 bmB newId)
  (hu:cF7 X.K R1 C1 bmB newId true) (hN:X.N.Nodup) (hi:X.N[i]? =some y) (hy:X.env.scope.names.lookup y=some .local) (hd1:⇑(r1∪0)) :
  PS X (.Try body (.ExceptHandler (some<|.Name r1 rp1) (some y) (b0::suite1) hp1::hrest) [] [] pos) (tTryN C1 i tb th1):=by
 rintro pins s σ H D I ⟨E,hb,hx⟩;refine wpAny_Try_except ?_
 have goX:rS (CXr X.prog X.w X.base) (X.wish λe s1=>X∩(noteFrame e X.env) (λ_ s2=>X∩(setFlight e none) (λ_ s3=>X∩(handleBy e X.env (.ExceptHandler (some<|.Name r1 rp1) (some y) (b0::suite1) hp1::hrest)) (SP X pins D) X.xe s3) X.xe s2) X.xe s1) E pins σ:=by
  rintro H1 s1 e s' J ⟨a,C,o',H',rfl,ho,hbr,un,hok,⟨⟨a0,fl⟩,fe,ft⟩,nw,xa,hE⟩;have J0:=J.unwish;have J1:Inv X pins σ H' s':=J0.call' ho un hok hbr (λb z=>absurd z ae)
  have fl':FlyingW X.base X.stack a (.ref C) a0 s'.heap:=fl;have frs':=J1.ok.frames;have g0: ∀b o,s1.heap.get? b=some o-> ∃o',s'.heap.get? b=some o':=λb o q=>un.there b o q ae
  have gs: ∀b o,X.s₀.heap.get? b=some o-> ∃o',s1.heap.get? b=some o':=λb o q=>J0.base.there b o q (by rw[hex];simp)
  have gp: ∀q∈X.pn++pins,∃o',s1.heap.get? q.1=some o':=λq hq=>⟨_,(J0.pin q hq).1⟩
  show wpAny _ _ (noteFrame (.ref a) X.env) _ _ s'
  rw[hstk]at fl' frs';refine c33 frs' hfr fl' λh2 held p2=> ?_
  rw[<-hstk]at p2 held fl';have J2:=J1.past (g:=s1.heap) p2 hstk hfr hex gs gp nw.he nw.ht fe ft;have n2:=nw.past p2 g0 (c37 held.2.2.1);have g2:=a12 nw p2 g0 (c37 fl'.2.2.1);have t2:=aE7 J1.hok p2 J1.stkFree fe ft;refine aS3 held λh3 fl3 p3=> ?_
  have J3:=J2.past (g:=s1.heap) p3 hstk hfr hex gs gp n2.he n2.ht fe t2;have n3:=n2.past p3 g2 (c37 fl3.2.2.1);have g3:=a12 n2 p3 g2 (c37 held.2.2.1);have t3:=aE7 J2.hok p3 J2.stkFree fe t2;obtain⟨oe,he,hcl⟩:=fl3.there;obtain⟨rfl,hth⟩:=hx C o' H' hE
  .refine wpAny_handleBy_cons (codeAny_handlers_test<|rG (X:=X.inX a) (J3.inX a) hg1 hm1 ?_ hd1) (by intro q;cases q)
   refine dH2 FB J3.kIn hu hR1 he hcl ?_
   refine codeAny_handlers_suite_as (aS3 fl3 λh4 fl4 p4=> ?_)
   have J4:=J3.past (g:=s1.heap) p4 hstk hfr hex gs gp n3.he n3.ht fe t3;obtain⟨oe4,he4,hcl4⟩:=fl4.there;have xa4: ∀d,o'=some d->oe4.dict=some d:=λd q=>by
    obtain⟨o5,e1,e2⟩:=((xa.dk p2.dk).dk p3.dk).dk p4.dk d q;rw[he4]at e1;cases e1;exact e2
   have nc4: ∀c,oe4.data≠ .cls c:=λc z=>by
    obtain⟨_,_,_,oe5,vs5,_,_,_,he5,_,hd5,_⟩:=fl4;rw[he5]at he4;cases he4;rw[hd5]at z;cases z
   have notF:a ∉ frs X.stack:=λz=>by
    obtain⟨_,o',q',n⟩:=fl4.2.2.1.mem (b:=a) z;obtain⟨_,_,_,oe5,vs5,_,_,_,he5,_,hd5,_⟩:=fl4;rw[he5]at q';cases q';exact n vs5 hd5
   have hin: ∀b,b∈frs X.stack↔b=X.env.locals\/b∈X.fs:=λb=>by
    rw[hstk];unfold Cx.fs frs;rw[iQ,hfr];exact aZ
   have J5:Inv (X.asX a oe4) pins σ H' {s' with heap:=h4}:=by
    have K4:=J4.inX a;refine⟨⟨K4.ok.mod,K4.ok.kind,K4.ok.glob,K4.ok.blt,K4.ok.above,K4.ok.inj,K4.ok.has,K4.ok.cab,K4.ok.hd,K4.ok.frames,K4.ok.stk,K4.ok.exf,K4.ok.bs,K4.ok.bsz,K4.ok.noex,K4.ok.exfs,K4.ok.funs,K4.ok.frf⟩,K4.os,K4.bare,K4.base,K4.loc,K4.cell,K4.free,K4.freeC,λp hp=> ?_,K4.hok,K4.len⟩
    rcases aZ.mp (show p∈(a,oe4)::(X.pn++pins)from hp)with rfl|hp
    .refine⟨he4,fe,λz=>notF ((hin a).mpr<|.inl z),λz=>notF ((hin a).mpr<|.inr z),λv z=> ?_⟩
     obtain⟨_,_,_,oe5,vs5,_,_,_,he5,_,hd5,_⟩:=fl4;rw[he5]at he4;cases he4;rw[hd5]at z;cases z
    .exact K4.pin p hp
   refine uJ (X:=X.asX a oe4) J5 hN hi (.inl hy) (show RelV (.ref a) (.ref a)from rfl) (λs6 J6=> ?_) (.inr hy)
   have out: ∀{σ':St} {H2:Hp} {s7:Shared},Inv (X.asX a oe4) pins σ' H2 s7->Inv X pins σ' H2 s7:=λz=>
    Inv.outX (e:=a) ⟨⟨z.ok.mod,z.ok.kind,z.ok.glob,z.ok.blt,z.ok.above,z.ok.inj,z.ok.has,z.ok.cab,z.ok.hd,z.ok.frames,z.ok.stk,z.ok.exf,z.ok.bs,z.ok.bsz,z.ok.noex,z.ok.exfs,z.ok.funs,z.ok.frf⟩,z.os,z.bare,z.base,z.loc,z.cell,z.free,z.freeC,λp hp=>z.pin p (eJ _ hp),z.hok,z.len⟩ λ_=>J4.ok.hd hc
   refine bG (hs1 a oe4 o' hcl4 xa4 nc4 pins _ _ H' (bV3 i D) J6<|hth a) (λf s7 q=> ?_) λ_ _ z=>z.elim
   show wpAny _ _ (do bindName X.env y .none;unbindBehindTheSuite X.env y hp1) _ _ s7
   cases f with
   | next=>obtain⟨σ',H2,I7,q⟩:=q;exact b72 (out I7) hN hi hy λs8 I8=>⟨_,H2,I8,q⟩
   | brk=>obtain⟨σ',H2,I7,q⟩:=q;exact b72 (out I7) hN hi hy λs8 I8=>⟨_,H2,I8,q⟩
   | cont=>obtain⟨σ',H2,I7,q⟩:=q;exact b72 (out I7) hN hi hy λs8 I8=>⟨_,H2,I8,q⟩
   | ret u=>obtain⟨v,σ',H2,I7,r,q⟩:=q;exact b72 (out I7) hN hi hy λs8 I8=>⟨v,_,H2,I8,r,q⟩
 refine bG (hbody _ E pins s σ H D (I.wish _) goX hb) (λf s1 q=> ?_) λ_ _ z=>z
 have q':=q.unwish;cases f with
 | next=>exact hV q'
 | ret v=>exact q'
 | brk=>exact q'
 | cont=>exact q'
end
end L2
namespace M
section
variable {X:Cx}{e c:Expr}{es:List Expr}{a b:List Stmt}{pos:Pos}{t u:USY}{tc:UT}{K:PySem.W.Frag}
def d37 (i:Nat)(n1:Str)(mk:Addr->Addr->List D->D)(tb:USY)(th1:D->US):US:=λE ρ=>tb (λn es ρ1=>n=n1/\ ∀a d,th1 (mk a d es) (bP7 i E)<|ρ1.set i<|some<|.pu<|mk a d es) E ρ
theorem dH5 {b0:Stmt}{suite1:List Stmt}{hrest:List ExceptHandler}{r1:Str}{rp1 hp1:Pos}{R1:Addr}{B:String}{tb:USY}{th1:D->US}{mk:Addr->Addr->List D->D}(i:Nat)(hmk:mkX r1 mk)(FB:ExcBaseFacts B newId initId bmB)(hstk:X.stack=X.env::X.outer)(hfr:X.env.frame=some X.env.locals)(hex:X.ex=[])(hc:X.calm=true)
  (hbody:PUY X body tb) (hs1: ∀a oe x,oe.cls= .ref R1->XD a oe x->qF (X.asX a oe) (b0::suite1) (th1 x)) (hg1:Gl X r1) (hm1:X.mg r1=some (.ref R1)) (hR1:XOk X.K R1 bmB newId)
  (hu:a91 X.K R1 R1 bmB newId) (hN:X.N.Nodup) (hi:X.N[i]? =some y) (hy:X.env.scope.names.lookup y=some .local) (hl: ∀pins σ H s,Inv X pins σ H s->i<σ.length) (hd1:⇑(r1∪0)) :
  PUS X (.Try body (.ExceptHandler (some<|.Name r1 rp1) (some y) (b0::suite1) hp1::hrest) [] [] pos) (d37 i r1 mk tb th1):=by
 intro pins s σ H D J ⟨C0,ρ,D0,I,h,k⟩;refine dH4 (C1:=R1) (R1:=R1) (i:=i) (tb:=λE=>lSY X.K X.mg E tb) (th1:=λa o D σ H=> ∃x,(x= .adr a\/ ∃d ks l,x= .xob a d ks l/\o=some d)/\lS X.K (th1 x) D σ H) FB hstk hfr hex hc hbody (λa oe o ho hod hnc=> ?_) hg1 hm1 hR1 hu hN hi hy hd1 pins s σ H D J ?_
 .rintro pins s σ H D J ⟨x,hx,hl⟩;refine hs1 a oe x ho ?_ pins s σ H D J hl;rcases hx with rfl| ⟨d,ks,l,rfl,e⟩
  .exact .inl rfl
  .exact .inr ⟨d,ks,l,rfl,hod d e,hnc⟩
 refine⟨λcls o H'=> ∃n Cl es ρ1,cls=Value.ref Cl/\X.mg n=some (.ref Cl)/\(n=r1/\ ∀a d,th1 (mk a d es) (bP7 i D0)<|ρ1.set i<|some<|.pu<|mk a d es)/\EOk X.K C0 ρ1 σ H'/\XR X.K (Av C0 ρ1 σ) H' n es o,?_,?_⟩
 .exact⟨C0,ρ,D0,_,I,h,k,λn Cl es o ρ1 H' ex hm I' xr=>⟨n,Cl,es,ρ1,rfl,hm,ex,I',xr⟩⟩
 .rintro Cl o H' ⟨n,Cl',es,ρ1,e1,hm,ex,I',xr⟩;cases e1;obtain⟨rfl,ht⟩:=ex
  .rw[hm1]at hm;cases hm;refine⟨rfl,λa=> ?_⟩
   have fin:DOk X.K C0 (bP7 i D0) (bV3 i D):=⟨λρ' σ' H2 q I2=>k.nx _ _ _ q (I2.gone i),k.rt,λρ' σ' H2 q I2=>k.bk _ _ _ q (I2.gone i),λρ' σ' H2 q I2=>k.ct _ _ _ q (I2.gone i)⟩
   rcases hmk with⟨hk,rfl⟩| ⟨hk,rfl⟩
   .exact⟨.adr a,.inl rfl,C0,_,bP7 i D0,I'.store (.refl _) (show oU X.K (Av C0 ρ1 σ) H' H' (.pu<|.adr a) (.ref a)from by simp only[oU,Rep])<|hl pins σ H s J,ht a a,fin⟩
   .cases o with
    | none=>exact absurd xr hk
    | some d=>
     refine⟨.xob a d (a90 n) es,.inr ⟨d,_,_,rfl,rfl⟩,C0,_,bP7 i D0,I'.store (.refl _) (show oU X.K (Av C0 ρ1 σ) H' H' (.pu<|.xob a d (a90 n) es) (.ref a)from ?_)<|hl pins σ H s J,ht a d,fin⟩
     obtain⟨vs,x1,x2,x3,x4⟩:=xr;simp only[oU,Rep];exact⟨vs,trivial,x1,x2,x3,x4⟩
theorem tP {ps:List Str}{φ:ΦX}{t:UA}(F:FnX X.prog X.w X.K X.mg X.base x ps k φ)(hr:fG k' X.A)(hk:k<=k')(hg:Gl X x)(ha:PUA X (e::es) t)(hdb:⇑(x∪0))
  (he:↥(starEach (e::es) X.env=(false,eval e X.env)::starEach es X.env)) (hpl:↥((backTo pos<|starEach es X.env).any (·.1)=false)):PU X (.Call (.Name x p) (e::es) [] pos) (mF φ t λ_ _=>False):=by
 obtain⟨f,fd,G,b,kp,m⟩:=F.ex;exact gR (b63 (E:=λ_ _ _=>False) G (hr.mono hk) hg m kp b .nil (λpins σ H s e s' I ⟨_,_,_,_,_,_,_,_,_,_,_,_,hE⟩=>hE.elim) ha hdb he hpl) λσ H Q ⟨C,ρ,Q0,I,h,k⟩=>⟨C,ρ,_,I,h,λds ρ1 vs H1 q f s r=>cF6 I f s r q (λb v H' q' s' r'=>k b ρ1 v H' q' f (s.trans s') (r'.from s)) λn Cl es o H' ex=>ex.elim⟩
theorem uy_ifs {fS:List Stmt}{v:US}(hc: ∀xe,PUT (X.wish xe) c tc)(ha:PUY X a t)(hr:PUY X fS u)(hq: ∀xe,qF (X.wish xe) fS v):PUY X (.If c a [] pos::fS) (λEx D ρ=>tc ρ λb ρ1=>if b=true then t Ex {D with nx:=v D} ρ1 else u Ex D ρ1):=by
 rintro xe E pins s σ H D I pa ⟨C,ρ,D0,Ex,I0,h,k,kx⟩
 refine nB (bG (Q:=SP (X.wish xe) pins {D with nx:=λσ' H'=>lS X.K v D σ' H'\/(σ'=σ/\lSY X.K X.mg E u D σ H')}) (wpAny_If<|thn (hc xe pins s σ H (λd H1=>if d=true then lSY X.K X.mg E t {D with nx:=λσ' H'=>lS X.K v D σ' H'\/(σ'=σ/\lSY X.K X.mg E u D σ H')} σ H1 else lSY X.K X.mg E u D σ H1) I ⟨C,ρ,_,I0,h,λd ρ1 H1 q f s=> ?_⟩) λd s1 ⟨H1,I1,q1⟩=> ?_) (λf s1 q=> ?_) λ_ _ z=>z)
 .have I1:=(I0.frz f).same s;cases d with
  | true=>exact(aA rfl).mpr ⟨C,ρ1,{D0 with nx:=v D0},Ex,I1,by simpa using q,⟨λρ' σ' H' q' I'=> .inl ⟨C,ρ',D0,I',q',k⟩,k.rt,k.bk,k.ct⟩,kx⟩
  | false=>exact(a8 ac).mpr ⟨C,ρ1,D0,Ex,I1,by simpa using q,k,kx⟩
 .cases d with
  | true=>exact ha xe E pins s1 σ H1 _ I1 pa (by exists q1)
  | false=>exact hV ⟨σ,H1,I1,.inr ⟨rfl,by exists q1⟩⟩
 .cases f with
  | next=>
   obtain⟨σ',H',I',q⟩:=q;rcases q with q| ⟨rfl,q⟩
   .exact hq xe pins s1 σ' H' D I' q
   .exact hr xe E pins s1 σ' H' D I' pa q
  | ret v=>exact q
  | brk=>exact q
  | cont=>exact q
theorem uy_nil:PUY X [] (λ_=>cW):=λxe E pins s σ H D I pa ⟨C,ρ,D0,Ex,I0,h,k,kx⟩=>hV ⟨σ,H,I,k.nx _ _ _ h I0⟩
end
section
variable {X:Cx}{a C:Addr}{oe:Obj}{e0 d:D}{v:V}{u:Value}{b:Bool}{pos:Pos}
theorem c40 {K:PySem.W.Frag}{A:AS}{H:Hp}: ∀{rs:List Addr} {vs:List V},bQ K A H (rs.map .adr) vs->vs=rs.map .ref
 | [],vs,r=>r.unnil
 | R::rs,vs,r=>by
  obtain⟨x,vr,rfl,r1,r2⟩:=bQ.uncons r;rw[c40 r2];have:x= .ref R:=by simpa only[Rep]using r1
  rw[this];rfl
theorem c41: ∀{rs:List Addr} {us:List Value},Vals (rs.map V.ref) us->us=rs.map .ref
 | [],us,r=>by cases r;rfl
 | R::rs,us,r=>by
  cases r with
  | cons h t=>
   rename_i w ws
   have e:w=Value.ref R:=h;rw[e,c41 t];rfl
theorem cu_isT {rs:List Addr}(k:cF8 X.K C)(hp:(a,oe)∈X.pn)(hc:oe.cls= .ref C)(h0:XD a oe e0)(e:kitAny X.K (.ref C) (rs.map .ref)=some b):wB X (.builtin "isinstance") (gIs e0 (.tup<|rs.map .adr) b):=by
 intro A H ds vs Q0 Q hA r ⟨g1,g2⟩ q;subst g1;obtain⟨x,vr,rfl,r1,r2⟩:=r.uncons;obtain⟨y,vr2,rfl,r3,r4⟩:=r2.uncons;cases r4.unnil;have ex:x= .ref a:=h0.rep r1;subst ex;simp only[Rep]at r3;obtain⟨tp,ws,rfl,c,rs'⟩:=r3;have ew:=c40 rs';subst ew;have sq:SqT X.K H tp (rs.map V.ref):=c.imp cJ id
 refine⟨λxs H Q=> ∃tp,xs=[.ref a,.ref tp]/\SqT X.K H tp (rs.map V.ref)/\Q (.bl b) H,?_,⟨tp,rfl,sq,q _ _ H g2 (.refl _) nQ⟩⟩
 rintro pins s σ H' xs us Q' I rv ⟨tp,rfl,sq,hq⟩;obtain⟨w1,w2,rfl,q1,q2⟩:=vals2 rv;obtain rfl:w1=Value.ref a:=q1;obtain rfl:w2=Value.ref tp:=q2;obtain⟨its,hv,it,_⟩:=I.tuple sq;have ei:=c41 hv;subst ei;obtain⟨⟨c,dd,dt,sl⟩,ho,h1,n,h2⟩:=it;cases h1;cases h2;have pin:=I.pin (a,oe) (d4.mpr<|.inl hp)
 exact PySem.W.kia_tup (c39 k) I.kIn ⟨_,pin.1,hc⟩ ho e (λz=>nomatch z) λtk=>⟨.bl b,H',I.tok _,rfl,hq⟩
theorem cL9 {x:Addr}{rs:List Addr}{o:Bool}{eT:Expr}{te:UE}(i:Nat)(k:cF8 X.K C)(hp:(x,oe)∈X.pn)(hc:oe.cls= .ref C)(h0:XD x oe e0)(hy:PE X (.Name y py) (a75 i))(hr:PU X eT te)(hte: ∀ρ Q,Q (.pu<|.tup<|rs.map .adr) ρ->te ρ Q)(hk:kitAny X.K (.ref C) (rs.map .ref)=some o)
  (hg:Gl X "isinstance") (hm:X.mg "isinstance"=none) (he:↥(starEach [.Name y py,eT] X.env=(false,eval (.Name y py) X.env)::starEach [eT] X.env)) (he2:↥(starEach [eT] X.env=(false,eval eT X.env)::starEach [] X.env)) (hpl:↥((backTo pos<|starEach [eT] X.env).any (·.1)=false)) :
  PU X (.Call (.Name "isinstance" p) [.Name y py,eT] [] pos) (cF9 e0 i o):=
 gR (iL (cu_isT k hp hc h0 hk) hg hm boot_isinstance (aD (cR i hy) (aD hr aB he2) he) ac ac he hpl) λσ H Q ⟨C0,ρ,Q0,I,⟨h1,h2⟩,kk⟩=>⟨C0,ρ,Q0,I,by
  simp only[aS,a7,aC,a78,h1,aM,B.d];refine hte _ _ ?_
  first|exact⟨rfl,h2⟩|exact⟨trivial,h2⟩,kk⟩
end
def lEX (K:PySem.W.Frag)(mg:Str->Option Value)(E:XK)(t:XP->UE):TE:=λσ H Q=> ∃C ρ Q0 Ex,EOk K C ρ σ H/\t Ex ρ Q0/\(∀b ρ' v H',Q0 b ρ'->Frz ρ ρ'->gK H H'->oU K (Av C ρ' σ) H H' b v->Q v H')/\
 ∀n Cl es o H',Ex n es->mg n=some (.ref Cl)->gK C.H0 H'->XR K C.A0 H' n es o->E (.ref Cl) o H'
def PUE (X:Cx)(E:XK)(e:Expr)(t:XP->UE):Prop:=PE X e (lEX X.K X.mg E t)
section
variable {X:Cx}{E:XK}{e:Expr}{es:List Expr}{pos:Pos}{K:PySem.W.Frag}
theorem dH6 {ps:List Str}{φ:ΦX}{t:UA}(F:FnX X.prog X.w X.K X.mg X.base x ps k φ)(hr:fG k' X.A)(hk:k<=k')(hp:uL (CXr X.prog X.w X.base) X E)(hg:Gl X x)(ha:PUA X (e::es) t)(hdb:⇑(x∪0))
  (he:↥(starEach (e::es) X.env=(false,eval e X.env)::starEach es X.env)) (hpl:↥((backTo pos<|starEach es X.env).any (·.1)=false)):PUE X E (.Call (.Name x p) (e::es) [] pos) (λEx=>mF φ t Ex):=by
 obtain⟨f,fd,G,b,kp,m⟩:=F.ex;exact gR (b63 G (hr.mono hk) hg m kp b .nil hp ha hdb he hpl) λσ H Q ⟨C,ρ,Q0,Ex,I,h,k,kx⟩=>⟨C,ρ,_,I,h,λds ρ1 vs H1 q f s r=>cF6 I f s r q (λb v H' q' s' r'=>k b ρ1 v H' q' f (s.trans s') (r'.from s)) kx⟩
theorem dH7 {te:XP->UE}(i:Nat)(hN:X.N.Nodup)(hi:X.N[i]? =some y)(hx:Loc X.env.scope y)(he:PUE X E e te)(hs:↥(swapsWith e (some<|.Name y pos') pos.line X.env=pure false))(hf:X.fn y=true\/X.env.scope.names.lookup y=some .local:=by walk_at "z")
  (hl: ∀pins σ H s,Inv X pins σ H s->i<σ.length:=by intro pins σ H s I;rw[I.len];decide):bK1 X E (.Assign [.Name y pos'] e pos) (λEx=>bF i (te Ex)):=by
 intro pins s σ H D I q;refine cW1 hN hi hx he hs hf pins s σ H D I ?_;obtain⟨C,ρ,D0,Ex,J,h,k,kx⟩:=q;exact⟨C,ρ,_,Ex,J,h,λb ρ1 v H1 q f s1 r=>k.nx _ _ _ q ((J.frz f).store s1 r<|hl pins σ H s I),kx⟩
def bP8 (tc:UT)(t u:USY)(v:US):USY:=λEx D ρ=>tc ρ λb ρ1=>if b=true then t Ex {D with nx:=v D} ρ1 else u Ex D ρ1
theorem b74 {a fS:List Stmt}{pos:Pos}{tc:UT}{t u:USY}{v:US}(hc: ∀xe,PUT (X.wish xe) c tc)(ha:PUY X a t)(hr:PUY X fS u)(hq: ∀xe,qF (X.wish xe) fS v):PUY X (.If c a [] pos::fS) (bP8 tc t u v):=uy_ifs hc ha hr hq
end
end M
end
end
open L2
section
open PySem L2 M
local macro_rules| `(tactic| left)=> `(tactic| simp only[aQ,bF,dU,oX,fH,dJ,uOp,uC,aC,a78,aW,c14,uV,uIx,gIx,kT,oY,aS,a7,aM,fT,gL,aN7,mM,kS,fE,M.gSub,dQ,aN8,lL,b96,gI2,w6,gP,isB,B.d,cD1,uOr,dD3,c15,cK0,bY,cW,uPar,c17,uSl,mO,jT,gSl,cD7,dE2,gMin,b99,cA,aR9,g1,g2,dE1,a56,uIf,dF2,gSum,kU,dE6,rO,a07,dE7,bind_some,Option.bind_none,Option.map_some,Option.map_none,Option.join,u5,List.getElem?_cons_succ,b85,b86,dC,kM,gE,nI,pW,aM6,decide_eq_false_iff_not,hX,qD,reduceCtorEq,d08,gSlT,cL0,bP1,bJ9,D.isN,cF0,cE9,cY6,rN,eC,rM,gN,b95,bA3,cK8,d12,cK6,fU,aY6,d37,cF9,bP7,bB5,aS5,mF,bP8])
namespace M
local macro_rules|`(!$t)=>`(some (B.pu (D.int $t)))|`(~~~$t)=>`(some (B.pu $t))|`(↑$t)=>`(some (B.ow $t))|`(∅)=>`(Nat->Int)
abbrev Ra (a:Φ)(t:US)(N:List Str):Prop:=∀ds Q,a ds Q->t {Q with} (init N ds)
variable {j x b a z c s:Int}{i k last t0 n m e:Nat}{ui:UI}{g:UG}{tb:US}{ρ:Ev}{ws l r p:List Int}{js:List Nat}{cap:List (Option Nat)}{te:UE}{Q:B->Ev->Prop}{t T:Nat->∅}{f u:∅}{E:UD}{s11:Option B}
def a92:Φ:=λds Q=> ∃c k p:Int,ds=[.int c,.int k,.int p]/\0<=k/\k<4294967296/\0<p/\ ∀r:Int,0<=r->r<p->Q (.pu<|.int r)
def bB8:US:=(aQ (bF 3<|uOp lL (uOp dQ (uOp fE (uOp fE (uOp fE (aC 0)<|uOp dQ (uOp dQ @7<|aC 1)<|aC 1)<|uOp dQ @13<|aC 1)<|@5)<|@48271)<|@2147483647)<|aQ (bF 3<|uOp lL (uOp dQ (aC 3)<|aC 3)<|@2147483629)<|dU<|uOp lL (uOp dQ (aC 3)<|@39373)<|aC 2)
theorem cU (i:Int)(h:0<j):i.fmod j=i%j:=Int.fmod_eq_emod_of_nonneg i (le_of_lt h)
theorem mR (i:Int)(h:0<j):i.fdiv j=i/j:=Int.fdiv_eq_ediv_of_nonneg i (le_of_lt h)
theorem cmR {i:Int}(h1: -18446744073709551616<j)(h2:j<18446744073709551616):cB9 i j\/(Sm i/\Sm j):= .inl (.inr ⟨h1,h2⟩)
theorem cmL {i:Int}(h1: -18446744073709551616<i)(h2:i<18446744073709551616):cB9 i j\/(Sm i/\Sm j):= .inl (.inl ⟨h1,h2⟩)
theorem d38: Ra a92 bB8 ["c","k","p","f"]:=by
 rintro ds Q ⟨c,k,p,rfl,h0,h1,hp,h⟩;unfold bB8;show(aQ _ _:US) _ [!c,!k,!p,none];left;rw[cU _ (by decide:(0:Int)<2147483647),cU _ (by decide:(0:Int)<2147483629),cU _ hp]
 refine⟨cmL ac ac,cmR aa aa,cmL ac ac,cmR ac ac,ac,cmR aa aa,ac,cmR ac ac,aa,?_⟩
 exact h _ (cO _ aa) (cY _ hp)
theorem bE {D:UD}(n:Nat)(it:Nat->M.D)(ρ1:Ev)(hui: ∀Q:Nat->(Nat->M.D)->Ev->Prop,Q n it ρ1->ui ρ Q)(Pv:Nat->Ev->Prop)(h0:Pv 0 ρ1)
  (hs: ∀i ρ,i<n->Pv i ρ->g (.pu<|it i) ρ λρ2=>tb {D with nx:=Pv (i+1),ct:=Pv (i+1),bk:=D.nx} ρ2) (hd: ∀ρ,Pv n ρ->D.nx ρ):gW ui g tb D ρ:=hui _ ⟨Pv,h0,hs,hd⟩
theorem cM0 (h:i<ws.length):atI (ws.map D.int) (0+(i:Int))=some (.int ws[i]):=by
 rw[dM];exact cB (by rw[bP,aU h];rfl)
def Below (xs ws:List Int):Prop:=xs.length=ws.length/\ ∀(j:Nat) (x w:Int),xs[j]? =some x->ws[j]? =some w->0<=x/\x<w
theorem cpl {i:Int}(h1:0<=j)(h2:j<=1000000)(h3:i.natAbs<2^64):dB8 i j:=⟨h1,h2,h3⟩
def oF:Φ:=λds Q=> ∃(c:Int) (ws:List Int) (p:Int),ds=[.int c,.lst<|ws.map .int,.int p]/\ws.length<=1000/\0<p/\(∀w∈ws,0<w/\w<18446744073709551616)/\ ∀xs:List Int,Below xs ws->Q (.ow<|xs.map .int)
def bB9:US:=(aQ (bF 3<|@0)<|aQ (fH (dJ<|uOp (w6 λi j=>decide (j<=i)) (aC 0)<|uOp b96 @10<|@18) (bF 3<|uOp M.gSub (aC 0)<|uOp b96 @10<|@18) cW)<|aQ (bF 4<|fT aM)<|aQ (gW (gN<|a7 (kT<|aW 1) aM) (bY 5)<|fH (dJ<|uOp (w6 λi j=>decide (j<i)) (aC 3)<|@1) (aQ (aN7 4<|uOp lL (aC 3)<|uIx (aW 1)<|aC 5)<|bF 3<|uOp aN8 (aC 3)<|uIx (aW 1)<|aC 5)<|aN7 4<|uOp lL (aS a92<|a7 (aC 0)<|a7 (aC 5)<|a7 (aC 2) aM)<|uIx (aW 1)<|aC 5)<|oX 4)
theorem aY7 {i:Int}(h1: -18446744073709551616<i)(h2:i<18446744073709551616):Sm i:=by
 unfold Sm;have h3:i.natAbs<18446744073709551616:=aa
 exact b9 h3 af
theorem bC0 {xs:List Int}(h: ∀(j:Nat) (x w:Int),xs[j]? =some x->ws[j]? =some w->0<=x/\x<w)(hl:xs.length<ws.length)(h0:0<=x)(h1:x<ws[xs.length]) :
  ∀(j:Nat) (y w:Int),(xs++[x])[j]? =some y->ws[j]? =some w->0<=y/\y<w:=by
 intro j y w e1 e2
 by_cases hj:j<xs.length
 .rw[hG hj]at e1;exact h j y w e1 e2
 .rw[gZ ad]at e1
  by_cases hj':j=xs.length
  .subst hj';simp at e1;subst e1;rw[aU hl]at e2;cases e2;exact⟨h0,h1⟩
  .have:j-xs.length≠0:=ad
   cases e:j-xs.length with
   | zero=>lia
   | succ n=>rw[e]at e1;simp at e1
theorem d39: Ra oF bB9 ["c","w","p","l","f","k"]:=by
 rintro ds Q ⟨c,ws,p,rfl,hlen,hp,hw,h⟩;unfold bB9;have tail: ∀left:Int,(aQ (bF 4<|fT aM) (aQ (gW (gN<|a7 (kT<|aW 1) aM) (bY 5)<|fH (dJ<|uOp (w6 λi j=>decide (j<i)) (aC 3)<|@1) (aQ (aN7 4<|uOp lL (aC 3)<|uIx (aW 1)<|aC 5)<|bF 3<|uOp aN8 (aC 3)<|uIx (aW 1)<|aC 5)<|aN7 4<|uOp lL (aS a92<|a7 (aC 0)<|a7 (aC 5)<|a7 (aC 2) aM)<|uIx (aW 1)<|aC 5)<|oX 4):US)
   {Q with} [!c,~~~.lst (ws.map .int),!p,!left,none,none]:=by
  intro left;rw[aQ];left;refine⟨ac,?_⟩
  refine bE ws.length (λi=> .int (0+i)) [!c,~~~.lst (ws.map .int),!p,!left,↑[],none] ?_
   (λi ρ=> ∃(l:Int) (xs:List Int) (kk:Option B),ρ=[!c,~~~.lst (ws.map .int),!p,!l,↑(xs.map .int),kk]/\xs.length=i/\ ∀(j:Nat) (x w:Int),xs[j]? =some x->ws[j]? =some w->0<=x/\x<w)
   ⟨left,[],none,rfl,rfl,λj x w e=>by simp at e⟩ ?_ ?_
  .intro Q q;simp only[gN];left;rw[aJ];refine⟨⟨ad,ad⟩,?_⟩
   rw[bW];exact q
  .rintro i ρ hi ⟨l,xs,kk,rfl,hl,hb⟩;subst hl;obtain⟨w0,w1⟩:=hw _ (cL hi);left;refine⟨ac,?_⟩
   by_cases hc:1<l
   .rw[aA hc];simp only[cM0 hi];rw[cU _ w0,mR _ w0];refine⟨ad,?_,⟨ad,aY7 ad w1⟩,_,xs++[l%ws[xs.length]],_,by rw[cH];rfl,ae,bC0 hb hi (cO _ ad)<|cY _ w0⟩
    rw[aJ];exact b9 hi (aK hlen ac)
   .rw[a8 hc];refine⟨c,(0+(xs.length:Int)),p,rfl,ad,ad,hp,λr r0 r1=> ?_⟩
    simp only[cM0 hi];rw[cU _ w0];refine⟨ad,?_,l,xs++[r%ws[xs.length]],_,by rw[cH];rfl,ae,bC0 hb hi (cO _ ad)<|cY _ w0⟩
    rw[aJ];exact b9 hi (aK hlen ac)
  .rintro ρ ⟨l,xs,kk,rfl,hl,hb⟩;left;exact h xs ⟨hl,hb⟩
 show(aQ _ _:US) _ [!c,~~~.lst (ws.map .int),!p,none,none,none]
 refine(show dB8 10 18/\(if decide ((10:Int)^(18:Int).toNat<=c)=true then _ else _)from⟨cpl ac ac ac,?_⟩)
 split
 .exact⟨cpl ac ac ac,tail _⟩
 .exact tail _
theorem aS6 {d:D}{l:List D}:atI (d::l) 0=some d:=cB (j:=0) rfl
theorem mS (k:Nat)(z:Int):(replicate k [D.int z]).flatten=(replicate k z).map .int:=by
 induction k with
 | zero=>rfl
 | succ k ih=>rw[jL,n6,ih,jL];rfl
def a13:Φ:=λds Q=> ∃(ns:List Int) (k:Int),ds=[.rol<|ns.map .int,.int k]/\ns.length<=63/\0<=k/\k<4294967296/\ ∀r:Int,Q (.pu<|.int r)
def bV4:US:=(aQ (fH (dJ<|uOp (gP false) (kT<|aW 0)<|@0) (dU<|uOp dQ @7919<|uOp fE (aC 1)<|@1) cW)<|aQ (fH (dJ<|uOp (w6 λi j=>decide (i<j)) (aC 1)<|kT<|aW 0) (dU<|uIx (aW 0)<|aC 1) cW)<|dU<|uOp fE (uIx (aW 0)<|uOp lL (aC 1)<|kT<|aW 0)<|uOp dQ @104729<|aC 1)
theorem d40 {ns:List Int}{k:Int}(h0:0<=k)(h1:k<ns.length): ∃z,atI (ns.map D.int) k=some (.int z):=by
 obtain⟨i,rfl⟩: ∃i:Nat,k=(i:Int):=⟨k.toNat,ad⟩
 have hi:i<ns.length:=ad
 exact⟨ns[i],cB (by rw[bP,aU hi];rfl)⟩
theorem dH8: Ra a13 bV4 ["s","k"]:=by
 rintro ds Q ⟨ns,k,rfl,hl,k0,k1,h⟩;unfold bV4;show(aQ _ _:US) _ [~~~.rol (ns.map .int),!k];left;rw[aJ];split
 .exact⟨cmL ac ac,h _⟩
 .split
  .obtain⟨z,hz⟩:=d40 (ns:=ns) k0 ad
   rw[hz];exact h z
  .refine⟨ad,?_⟩
   rw[cU _ ad]
   obtain⟨z,hz⟩:=d40 (ns:=ns) (k:=k%ns.length) (cO _ ad) (cY _ ad)
   rw[hz];exact⟨cmL ac ac,h _⟩
theorem bC1:bootBuiltins "abs"=some (.builtin "abs"):=af
theorem d41:bootBuiltins "max"=some (.builtin "max"):=af
theorem bt_min:bootBuiltins "min"=some (.builtin "min"):=af
theorem d42:bootBuiltins "int"=some (.type "int"):=af
theorem dB:bootBuiltins "tuple"=some (.type "tuple"):=af
theorem bV5:bootBuiltins "list"=some (.type "list"):=af
theorem dH9: ∀ds Q,bO2 ds Q->ds.length=1:=by rintro ds Q ⟨i,rfl,_⟩;rfl
theorem lM (t:UE)(D:UD)(ρ:Ev):dU t D ρ=t ρ (λb _=>D.rt b):=rfl
theorem eE (φ:Φ)(t:UA)(ρ:Ev)(Q:B->Ev->Prop):aS φ t ρ Q=t ρ λds ρ1=>φ ds λb=>Q b ρ1:=rfl
theorem eF (t:UE)(u:UA)(ρ:Ev)(Q:List D->Ev->Prop):a7 t u ρ Q=t ρ λx ρ1=>u ρ1 λxs ρ2=>Q (x.d::xs) ρ2:=rfl
theorem aN (t u:US)(D:UD)(ρ:Ev):aQ t u D ρ=t {D with nx:=u D} ρ:=rfl
theorem iM (i:Nat)(t:UE)(D:UD)(ρ:Ev):bF i t D ρ=t ρ λb ρ1=>D.nx (ρ1.set i<|some b):=rfl
theorem dR (n:Nat)(it:Nat->D)(ρ1:Ev)(hui: ∀Q:Nat->(Nat->D)->Ev->Prop,Q n it ρ1->ui ρ Q)(hn:n<=1000000)
  (G:Option B->List D->Ev) (x0:Option B) (h0:rO (a07 ρ1 js) cap last=G x0 []) (h1: ∀x l b,(G x l).set t0 (some b)=G (some b) l) (h1': ∀x l,t0< (G x l).length) (h2: ∀x l (Q:List D->Prop),Q l->mM (G x l) last Q) (h3: ∀x l l',(G x l).set last (↑l')=G x l')
  (f:Nat->D) (hte: ∀i l (Q':B->Ev->Prop),i<n->Q' (.pu<|f i) (G (~~~it i) l)->te (G (~~~it i) l) Q') (hq:Q (.ow<|(List.range n).map f) (a07 ρ1 js)) :
  eI js cap last ui (bY t0) (λρ Q=>Q true ρ) te ρ Q:=by
 refine hui _ ⟨λi ρ'=> ∃x,ρ'=G x ((List.range i).map f),⟨x0,h0⟩,?_,?_⟩
 .rintro i ρ' hi ⟨x,rfl⟩;refine⟨h1' _ _,?_⟩;rw[h1];right;rw[aA rfl];refine hte i _ _ hi (h2 _ _ _ ⟨?_,~~~it i,?_⟩)
  .rw[aJ,kL];exact b9 hi (aK hn ac)
  .rw[h3,cI,cH];rfl
 .rintro ρ' ⟨x,rfl⟩;exact h2 _ _ _ hq
nonrec def aL (r:List Int):D:= .tup (r.map .int)
nonrec def cR5 (t:List (List Int)):D:= .tup (t.map aL)
theorem bV6 (l:List D)(i:Nat)(h:i<=l.length):cutD l none (some (i:Int))=l.take i:=by
 unfold cutD;rw[HT.sIx_none,HT.sIx_nat,jP h];simp
theorem aS7 (l:List D)(i:Nat)(h:i<=l.length):cutD l (some (i:Int)) none=l.drop i:=by
 unfold cutD;rw[HT.sIx_none,HT.sIx_nat,jP h];rw[List.take_of_length_le (by rw[zK];exact aG _)]
def a14:Φ:=λds Q=> ∃(t:List (List Int)) (i:Nat),ds=[cR5 t,.int (i:Int)]/\i<t.length/\2<=t.length/\t.length<=1000/\(∀r∈t,1<=r.length)/\Q (.pu<|cR5<|(t.eraseIdx i).map List.tail)
def a15:US:=(dU<|aS cA<|a7 (eI [] [none,none] 1 (fU<|uOp fE (uSl (aW 0) jT<|mO<|aC 1)<|uSl (aW 0) (mO<|uOp fE (aC 1)<|@1) jT) (bY 0) (λρ Q=>Q true ρ)<|uSl (aW 0) (mO<|@1) jT) aM)
theorem c42 {t:List (List Int)}(hi:i<t.length):cutD (t.map aL) none (some (i:Int))++cutD (t.map aL) (some<|(i:Int)+1) none=(t.eraseIdx i).map aL:=by
 have hl:(t.map aL).length=t.length:=aJ _;have e1:cutD (t.map aL) none (some (i:Int))=(t.take i).map aL:=by rw[bV6 _ _ ad,nL]
 have e2:cutD (t.map aL) (some<|(i:Int)+1) none=(t.drop<|i+1).map aL:=by
  have:=aS7 (t.map aL) (i+1) ad
  rw[map_drop]
  exact_mod_cast this
 rw[e1,e2,<-cH,<-List.eraseIdx_eq_take_drop_succ]
theorem bC2 {t:List (List Int)}(hi:i<t.length)(h1000:t.length<=1000)(hr: ∀r∈t,1<=r.length)(hui: ∀Q':Nat->(Nat->D)->Ev->Prop,Q' ((t.eraseIdx i).map aL).length (λk=>((t.eraseIdx i).map aL).getD k .non) ρ->ui ρ Q')(h:Q (.ow<|((t.eraseIdx i).map List.tail).map aL) ρ) :
  eI [] [none,none] 1 ui (bY 0) (λρ Q=>Q true ρ) (uSl (aW 0) (mO<|@1) jT) ρ Q:=by
 have le:(t.eraseIdx i).length=t.length-1:=yT hi;refine dR (t0:=0) ((t.eraseIdx i).map aL).length (λk=>((t.eraseIdx i).map aL).getD k .non) ρ hui (by rw[aJ];lia)
  (λx l=>[x,↑l]) none rfl (λ_ _ _=>rfl) (λ_ _=>cC _) (λ_ _ _ q=>q) (λ_ _ _=>rfl) (λk=>aL (((t.eraseIdx i).getD k []).tail)) ?_ ?_
 .intro k l Q' hk q;rw[aJ]at hk;have ek:((t.eraseIdx i).map aL).getD k .non=aL ((t.eraseIdx i).getD k []):=by
   rw[aR,aR,bP,aU hk];rfl
  have hm:1<=((t.eraseIdx i).getD k []).length:=by
   rw[aR,aU hk];exact hr _ (aJ8<|cL hk)
  rw[ek]at q⊢;generalize (t.eraseIdx i).getD k []=r at hm q;simp only[aL]at q⊢;left;have lr:(r.map D.int).length=r.length:=aJ _;have ec:cutD (r.map D.int) (some 1) none=r.tail.map D.int:=by
   have:=aS7 (r.map D.int) 1 ad
   rw[show((1:Nat):Int)=1 from rfl]at this
   rw[this,<-map_drop,List.drop_one]
  refine⟨?_,by rw[ec];exact q⟩
  rw[lr];have:HT.sIx r.length 0 (some 1)=min 1 r.length:=HT.sIx_nat r.length 0 1;rw[this];lia
 .have em:(List.range ((t.eraseIdx i).map aL).length).map (λk=>aL (((t.eraseIdx i).getD k []).tail))=((t.eraseIdx i).map List.tail).map aL:=by
   rw[aJ];apply pU
   .simp
   .intro k h1 h2;simp at h1;simp[h1,aR]
  rw[em];exact h
theorem bV7: Ra a14 a15 ["t","i"]:=by
 rintro ds Q ⟨t,i,rfl,hi,h2,h1000,hr,h⟩;unfold a15;show(dU _:US) _ [~~~cR5 t,!(i:Int)];have hl:(t.map aL).length=t.length:=aJ _;rw[lM,eE,eF];refine bC2 hi h1000 hr (λQ' q=> ?_) ?_
 .simp only[fU,cR5];left;rw[<-bO,c42 hi];refine⟨?_,?_,aK (show _<=2000 by rw[aJ,yT hi];lia) ac,q⟩
  .rw[hl,HT.sIx_none,HT.sIx_nat];lia
  .rw[hl,HT.sIx_none];have:HT.sIx t.length 0 (some<|(i:Int)+1)=min (i+1) t.length:=by exact_mod_cast HT.sIx_nat t.length 0 (i+1)
   rw[this];lia
 .left
  exact h
nonrec def lN:Nat->List (List Int)->Int
 | 0,_=>0
 | n+1,t=>if t.length=1 then(t.getD 0 []).getD 0 0 else((List.range t.length).map λi=>(if i%2=0 then 1 else -1)*(t.getD i []).getD 0 0*lN n ((t.eraseIdx i).map List.tail)).sum
structure Sq (n:Nat)(t:List (List Int)):Prop where
 pos:1<=t.length
 le:t.length<=n
 row: ∀r∈t,r.length=t.length
 small: ∀r∈t,∀x∈r,x.natAbs<2^2000
def fW (n:Nat):Φ:=λds Q=> ∃t:List (List Int),ds=[cR5 t]/\Sq n t/\Q (.pu<|.int<|lN n t)
def bC3 (fW:Φ):US:=(aQ (fH (dJ<|uOp (gP false) (kT<|aW 0)<|@1) (dU<|uIx (uV<|uIx (aW 0)<|@0)<|@0) cW)<|aQ (bF 1<|@0)<|aQ (bF 2<|@1)<|aQ (gW (gN<|a7 (kT<|aW 0) aM) (bY 3)<|aQ (c17 1 (gI2 λi j Q=>Q (.pu<|.int<|i+j))<|uOp dQ (uOp dQ (aC 2)<|uIx (uV<|uIx (aW 0)<|aC 3)<|@0)<|aS fW<|a7 (aS a14<|a7 (aC 0)<|a7 (aC 3) aM) aM)<|bF 2<|kS<|aC 2)<|oX 1)
theorem aE9 (n:Nat): ∀ds Q,fW n ds Q->ds.length=1:=by rintro ds Q ⟨a,rfl,_⟩;rfl
theorem Sq.less {t:List (List Int)}(h:Sq (n+1) t)(h2:t.length≠1)(hi:i<t.length):Sq n ((t.eraseIdx i).map List.tail):=by
 have le:(t.eraseIdx i).length=t.length-1:=yT hi;have hp:=h.pos;have hl:=h.le;refine⟨by rw[aJ];lia,by rw[aJ];lia,λr hr=> ?_,λr hr x hx=> ?_⟩
 .obtain⟨r',hr',rfl⟩:=gI.mp hr;rw[aJ,List.length_tail,h.row r'<|aJ8 hr',le]
 .obtain⟨r',hr',rfl⟩:=gI.mp hr;exact h.small r' (aJ8 hr') x (List.mem_of_mem_tail hx)
theorem aY8 (f:∅)(b:Nat): ∀n:Nat,(∀i,i<n->(f i).natAbs<=b)->(((List.range n).map f).sum).natAbs<=n*b
 | 0,_=>ae
 | n+1,h=>by
  rw[cI,cH,aN5];have h1:=aY8 f b n λi hi=>h i (kK hi)
  have h2:=h n (pT n);have h3:((List.map f [n]).sum)=f n:=ae
  rw[h3,Nat.succ_mul];omega
theorem aY9: ∀(n:Nat) (t:List (List Int)),n<=4->Sq n t->(lN n t).natAbs<=2^(2010*n)
 | 0,t,_,h=>by have:=h.pos;have:=h.le;lia
 | n+1,t,hn,h=>by
  have entry: ∀i,i<t.length->((t.getD i []).getD 0 0).natAbs<=2^2000:=λi hi=>by
   have eg:t.getD i []=t[i]:=by rw[aR,aU hi];rfl
   rw[eg];have hr:=h.row _ (cL hi);have hp:=h.pos;have h0:0< (t[i]).length:=ad
   rw[aR,aU h0];exact nM (h.small _ (cL hi) _<|cL h0)
  unfold lN;split
  .have:=entry 0 (by have:=h.pos;lia)
   exact aK this (fL ac ad)
  .rename_i h1
   refine aK (aY8 _ (2^2000*2^(2010*n)) _ λi hi=> ?_) ?_
   .rw[eK,eK];have e1:(if i%2=0 then(1:Int)else -1).natAbs=1:=by split<;>rfl
    rw[e1,uG];exact gG (entry i hi) (aY9 n _ ad<|h.less h1 hi)
   .have hl:=h.le;have e:2^(2010*(n+1))=2^10*(2^2000*2^(2010*n)):=by
     rw[<-iV,<-iV];congr 1;lia
    rw[e];exact aL4 _ ad
theorem Sm.pow {i:Int}(h:i.natAbs<=2^k)(hk:k<9000):Sm i:=pP h (aL5 ac hk)
theorem b75 {t:List (List Int)}(h:i<t.length):atI (t.map aL) (0+(i:Int))=some (aL<|t.getD i []):=by
 rw[dM];refine cB ?_;rw[bP,aU h,aR,aU h];rfl
theorem a93 (h:0<r.length):atI (r.map D.int) 0=some (.int<|r.getD 0 0):=by
 refine cB (j:=0) ?_
 rw[bP,aU h,aR,aU h];rfl
theorem aS8 (n:Nat)(hn:n<4): ∀ds Q,fW (n+1) ds Q->bC3 (fW n) {Q with} (init ["t","o","s","i"] ds):=by
 rintro ds Q ⟨t,rfl,sq,h⟩;have hp:=sq.pos;have hle:=sq.le;have lt:(t.map aL).length=t.length:=aJ _;have lrow: ∀i,i<t.length->0< (t.getD i []).length:=λi hi=>by
  rw[aR,aU hi];have:=sq.row _ (cL hi);show 0< (t[i]).length
  lia
 unfold bC3;show(aQ _ _:US) _ [~~~.tup (t.map aL),none,none,none];left;rw[lt];split
 .rename_i h1
  have h1':t.length=1:=ad
  have:=b75 (t:=t) (i:=0) ad
  rw[show(0:Int)+((0:Nat):Int)=0 from rfl]at this
  rw[this];simp only[aL];rw[a93<|lrow 0 ad]
  unfold lN at h;rw[aA h1']at h;exact h
 .rename_i h1
  have h1':t.length≠1:=ad
  unfold lN at h;rw[a8 h1']at h;refine bE t.length (λi=> .int (0+i)) [~~~.tup (t.map aL),!0,!1,none] ?_ (λi ρ=> ∃x,ρ=[~~~.tup (t.map aL),some<|.pu<|.int ((List.range i).map λi=>(if i%2=0 then 1 else -1)*(t.getD i []).getD 0 0*lN n ((t.eraseIdx i).map List.tail)).sum,!if i%2=0 then 1 else -1,x]) ?_ ?_ ?_
  .intro Q' q;simp only[gN];left;rw[lt];refine⟨⟨ad,ad⟩,?_⟩
   rw[bW];exact q
  .exact⟨none,rfl⟩
  .rintro i ρ hi ⟨x,rfl⟩;left;refine⟨ac,?_⟩
   rw[b75 hi];simp only[aL];rw[a93<|lrow i hi];have sg:Sm (if i%2=0 then(1:Int)else -1):=by split<;>exact aY7 ac ac
   have eg:t.getD i []=t[i]:=by rw[aR,aU hi];rfl
   have en:((t.getD i []).getD 0 0).natAbs<=2^2000:=by
    have h0:=lrow i hi;rw[eg]at h0⊢;rw[aR,aU h0];exact nM (sq.small _ (cL hi) _<|cL h0)
   have se:Sm ((t.getD i []).getD 0 0):=Sm.pow en ac
   refine⟨.inr ⟨sg,se⟩,t,i,by rw[dM];rfl,hi,ad,ad,λr hr=>by rw[sq.row r hr];exact hp,?_⟩
   refine⟨_,rfl,sq.less h1' hi,?_⟩
   have sd:Sm (lN n<|(t.eraseIdx i).map List.tail):=Sm.pow (aY9 n _ ad<|sq.less h1' hi) ad
   have sp:Sm ((if i%2=0 then(1:Int)else -1)*(t.getD i []).getD 0 0):=by
    refine Sm.pow (k:=2000) ?_ ac
    rw[eK];have e1:(if i%2=0 then(1:Int)else -1).natAbs=1:=by split<;>rfl
    rw[e1,uG];exact en
   left
   refine⟨.inr ⟨sp,sd⟩,!(0+(i:Int)),?_⟩
   have e2: -(if i%2=0 then(1:Int)else -1)=(if(i+1)%2=0 then 1 else -1):=by
    by_cases q:i%2=0
    .rw[aA q,a8 ad]
    .rw[a8 q,aA ad];rfl
   rw[e2,cI,cH,aN5];simp
  .rintro ρ ⟨x,rfl⟩;left;exact h
nonrec def kX (p:List Int)(k:Nat)(sums:List Int):Int:=
 -(((List.range<|min (k-1)<|p.length-1).map λi=>p.getD (p.length-1-(i+1)) 0*sums.getD (k-(i+1)) 0).sum+(if k<=p.length-1 then(k:Int)*p.getD (p.length-1-k) 0 else 0))
nonrec def dY (p:List Int):Nat->List Int
 | 0=>[((p.length-1:Nat):Int)]
 | k+1=>dY p k++[kX p (k+1)<|dY p k]
theorem uR (p:List Int): ∀k,(dY p k).length=k+1
 | 0=>rfl
 | k+1=>by unfold dY;rw[bO,uR p k];rfl
structure b76 (p:List Int):Prop where
 lo:3<=p.length
 hi:p.length<=5
 small: ∀x∈p,x.natAbs<=499
theorem eZ {b:Nat}(h: ∀x∈l,x.natAbs<=b)(i:Nat):(l.getD i 0).natAbs<=b:=by
 rw[aR];cases e:l[i]? with
 | none=>exact eW _
 | some x=>exact h x (aL0 e)
theorem a16 {p:List Int}(hp:b76 p): ∀k,k<=6-> ∀x∈dY p k,x.natAbs<=2^(15*k+3)
 | 0,_,x,hx=>by
  have:=hp.hi;have e:x=((p.length-1:Nat):Int):=by simpa[dY]using hx
  rw[e,Int.natAbs_natCast];have:(2:Nat)^(15*0+3)=8:=rfl;omega
 | k+1,hk,x,hx=>by
  have ih:=a16 hp k aa
  have ep:(2:Nat)^(15*(k+1)+3)=32768*2^(15*k+3):=by
   rw[show 15*(k+1)+3=15+(15*k+3)by omega,iV]
  have hb:8<=2^(15*k+3):=by
   rw[iV];have:1<=2^(15*k):=Nat.one_le_two_pow;omega
  unfold dY at hx;rcases d4.mp hx with hx|hx
  .have:=ih x hx;omega
  .have e:x=kX p (k+1) (dY p k):=by exists hx
   rw[e];unfold kX;rw[natAbs_neg];have hl:=hp.hi;have s1:=aY8 (λi=>p.getD (p.length-1-(i+1)) 0*(dY p k).getD (k+1-(i+1)) 0) (499*2^(15*k+3)) (min (k+1-1)<|p.length-1) λi _=>by
    rw[eK];exact gG (eZ hp.small _) (eZ ih _)
   have s2:(if k+1<=p.length-1 then((k+1:Nat):Int)*p.getD (p.length-1-(k+1)) 0 else 0).natAbs<=4*499:=by
    split
    .rw[eK,Int.natAbs_natCast];exact gG aa (eZ hp.small _)
    .exact eW _
   have s3:min (k+1-1) (p.length-1)*(499*2^(15*k+3))<=4*(499*2^(15*k+3)):=aL4 _ aa
   have s4:=zH (((List.range<|min (k+1-1)<|p.length-1).map λi=>p.getD (p.length-1-(i+1)) 0*(dY p k).getD (k+1-(i+1)) 0).sum) (if k+1<=p.length-1 then((k+1:Nat):Int)*p.getD (p.length-1-(k+1)) 0 else 0)
   omega
def uS:Φ:=λds Q=> ∃(p:List Int) (m:Nat),ds=[aL p,.int (m:Int)]/\b76 p/\1<=m/\m<=7/\Q (.ow<|(dY p<|m-1).map .int)
def uT:US:=(aQ (bF 2<|uOp M.gSub (kT<|aW 0)<|@1)<|aQ (bF 3<|fT<|a7 (aC 2) aM)<|aQ (gW (b95<|a7 @1<|a7 (aC 1) aM) (bY 4)<|aQ (bF 5<|aS gSum<|a7 (eI [2,4] [none,some 0,some 2,some 3,some 4,none] 5 (b95<|a7 @1<|a7 (uOp fE (aS gMin<|a7 (uOp M.gSub (aC 4)<|@1)<|a7 (aC 2) aM)<|@1) aM) (bY 0) (λρ Q=>Q true ρ)<|uOp dQ (uIx (aW 1)<|uOp M.gSub (aC 2)<|aC 0)<|uIx (aW 3)<|uOp M.gSub (aC 4)<|aC 0) aM)<|aQ (fH (dJ<|uOp (w6 λi j=>decide (i<=j)) (aC 4)<|aC 2) (c17 5 (gI2 λi j Q=>Q (.pu<|.int<|i+j))<|uOp dQ (aC 4)<|uIx (aW 0)<|uOp M.gSub (aC 2)<|aC 4) cW)<|aN7 3<|kS<|aC 5)<|oX 3)
theorem a94 {ns:List Int}(h:k<ns.length):atI (ns.map D.int) (k:Int)=some (.int<|ns.getD k 0):=by
 refine cB ?_
 rw[bP,aU h,aR,aU h];rfl
theorem bC4: Ra uS uT ["p","m","n","s","k","t"]:=by
 rintro ds Q ⟨p,m,rfl,hp,m1,m7,h⟩;have hlo:=hp.lo;have hhi:=hp.hi;have lp:(p.map D.int).length=p.length:=aJ _;unfold uT;show(aQ _ _:US) _ [~~~.tup (p.map .int),!(m:Int),none,none,none,none];rw[aN,iM];left;rw[lp];refine⟨ac,?_⟩
 have en:(p.length:Int)-1=((p.length-1:Nat):Int):=ad
 rw[en];refine bE (m-1) (λi=> .int (1+i)) [~~~.tup (p.map .int),!(m:Int),!((p.length-1:Nat):Int),↑((dY p 0).map .int),none,none] ?_
  (λi ρ=> ∃x4 x5,ρ=[~~~.tup (p.map .int),!(m:Int),!((p.length-1:Nat):Int),↑((dY p i).map .int),x4,x5]) ⟨none,none,rfl⟩ ?_ ?_
 .intro Q' q;simp only[b95];left;refine⟨ad,?_⟩
  rw[show((m:Int)-1).toNat=m-1 by lia]
  exact q
 .rintro i ρ hi ⟨x4,x5,rfl⟩;have bn:=a16 hp i ad
  refine⟨by show 4<6;decide,?_⟩
  dsimp only[set_cons_succ,set_cons_zero];rw[aN,iM,eE,eF];refine dR (t0:=0) (min i<|p.length-1) (λj=> .int (1+j)) [~~~.tup (p.map .int),!(m:Int),!((p.length-1:Nat):Int),↑((dY p i).map .int),!(1+(i:Int)),x5] ?_ ad
   (λx l=>[x,~~~.tup (p.map .int),!((p.length-1:Nat):Int),some<|.bo<|(dY p i).map .int,!(1+(i:Int)),↑l]) none rfl (λ_ _ _=>rfl) (λ_ _=>cC _) (λ_ _ _ q=>q) (λ_ _ _=>rfl)
   (λj=> .int (p.getD (p.length-1-(j+1)) 0*(dY p i).getD (i+1-(j+1)) 0)) ?_ ?_
  .intro Q' q;simp only[b95];left;have e:(if((p.length-1:Nat):Int)<1+(i:Int)-1 then((p.length-1:Nat):Int)else 1+(i:Int)-1)=((min i (p.length-1):Nat):Int):=by split<;>lia
   rw[e];refine⟨ad,?_⟩
   rw[show(((min i (p.length-1):Nat):Int)+1-1).toNat=min i (p.length-1)by lia]
   exact q
  .intro j l Q' hj q;have hj1:j<i:=ad
   have hj2:j<p.length-1:=ad
   left
   rw[show((p.length-1:Nat):Int)-(1+(j:Int))=((p.length-1-(j+1):Nat):Int)by lia,show 1+(i:Int)-(1+(j:Int))=((i+1-(j+1):Nat):Int)by lia]
   rw[a94 ad,a94 (by rw[uR];lia)]
   exact⟨.inr ⟨Sm.pow (k:=9) (aK (eZ hp.small _) ac) ac,Sm.pow (eZ bn _) ad⟩,q⟩
  .have es:((List.range<|min i<|p.length-1).map λj=>D.int (p.getD (p.length-1-(j+1)) 0*(dY p i).getD (i+1-(j+1)) 0))=((List.range<|min i<|p.length-1).map λj=>p.getD (p.length-1-(j+1)) 0*(dY p i).getD (i+1-(j+1)) 0).map D.int:=by
    rw[kO];rfl
   rw[es];generalize hT:((List.range<|min i<|p.length-1).map λj=>p.getD (p.length-1-(j+1)) 0*(dY p i).getD (i+1-(j+1)) 0)=T
   left
   rw[cP9];right;have last: ∀z:Int,z= -(kX p (i+1)<|dY p i)->(dY p i).map D.int++[D.int<|-z]=(dY p<|i+1).map D.int:=λz hz=>by
    rw[hz]
    conv=>rhs;unfold dY
    rw[cH];simp
   have lz:((dY p i).map D.int).length<sizeLine:=by
    rw[aJ,uR];exact b9 (show _<100 by lia) ac
   by_cases hk:i+1<=p.length-1
   .rw[aA ad]
    rw[show((p.length-1:Nat):Int)-(1+(i:Int))=((p.length-1-(i+1):Nat):Int)by lia,a94 ad]
    have hz1:T.sum+(1+(i:Int))*p.getD (p.length-1-(i+1)) 0= -(kX p (i+1)<|dY p i):=by
     unfold kX;rw[Int.neg_neg,aA hk,<-hT];rw[show i+1-1=i from rfl,show((i+1:Nat):Int)=1+(i:Int)by lia]
    right;rw[last _ hz1];exact⟨.inr ⟨aY7 ad ad,Sm.pow (k:=9) (aK (eZ hp.small _) ac) ac⟩,lz,_,_,rfl⟩
   .rw[a8 ad]
    have hz1:T.sum= -(kX p (i+1)<|dY p i):=by
     unfold kX;rw[Int.neg_neg,a8 hk,<-hT,zZ];rfl
    rw[last _ hz1];exact⟨lz,_,_,rfl⟩
 .rintro ρ ⟨x4,x5,rfl⟩;left;exact h
theorem cG0: ∀ds Q,¬fW 0 ds Q:=by
 rintro ds Q ⟨t,rfl,sq,_⟩;have:=sq.pos;have:=sq.le;omega
theorem aO2 {t1:Nat}(n:Nat)(i1 i2:Nat->D)(ρ1:Ev)(hui: ∀Q:Nat->(Nat->D)->Ev->Prop,Q n (λi=> .tup [i1 i,i2 i]) ρ1->ui ρ Q)(hn:n<=1000000)
  (G:Option B->Option B->List D->Ev) (x0 y0:Option B) (h0:rO (a07 ρ1 js) cap last=G x0 y0 []) (h1: ∀x y l b c,((G x y l).set t0<|some b).set t1 (some c)=G (some b) (some c) l) (h1': ∀x y l,t0< (G x y l).length/\t1< (G x y l).length)
  (h2: ∀x y l (Q:List D->Prop),Q l->mM (G x y l) last Q) (h3: ∀x y l l',(G x y l).set last (↑l')=G x y l')
  (f:Nat->D) (hte: ∀i l (Q':B->Ev->Prop),i<n->Q' (.pu<|f i) (G (~~~i1 i) (~~~i2 i) l)->te (G (~~~i1 i) (~~~i2 i) l) Q') (hq:Q (.ow<|(List.range n).map f) (a07 ρ1 js)) :
  eI js cap last ui (rN<|eC t0<|eC t1 rM) (λρ Q=>Q true ρ) te ρ Q:=by
 refine hui _ ⟨λi ρ'=> ∃x y,ρ'=G x y ((List.range i).map f),⟨x0,y0,h0⟩,?_,?_⟩
 .rintro i ρ' hi ⟨x,y,rfl⟩;refine⟨(h1' _ _ _).1,by rw[dL];exact(h1' _ _ _).2,rfl,?_⟩
  rw[h1];right;rw[aA rfl];refine hte i _ _ hi (h2 _ _ _ _ ⟨?_,~~~i1 i,~~~i2 i,?_⟩)
  .rw[aJ,kL];exact b9 hi (aK hn ac)
  .rw[h3,cI,cH];rfl
 .rintro ρ' ⟨x,y,rfl⟩;exact h2 _ _ _ _ hq
nonrec def rwF (n:Nat)(f:∅):List Int:=(List.range n).map f
theorem a17 (n:Nat)(f:∅):(rwF n f).length=n:=by simp[rwF]
theorem dI0 (h:i<n):(rwF n f)[i]? =some (f i):=by simp[rwF,h]
theorem b7 (n:Nat)(f:∅):((rwF n f).map D.int).length=n:=by simp[rwF]
theorem fX (h:i<n):((rwF n f).map D.int)[i]? =some (.int<|f i):=by simp[rwF,h]
theorem j6 (h:i<n):((rwF n f).map D.int).getD i .non= .int (f i):=by rw[aR,fX h];rfl
theorem kA (h:i<n):atI ((rwF n f).map D.int) (i:Int)=some (.int<|f i):=cB (fX h)
theorem a18 {j:Nat}{v:Int}(h:j<n):((rwF n f).map D.int).set j (.int v)=(rwF n λx=>if x=j then v else f x).map D.int:=by
 apply pS
 intro k
 by_cases hk:k<n
 .rw[fX hk]
  by_cases e:j=k
  .subst e;rw[hZ (by rw[b7];exact hk),aA rfl]
  .rw[get_set_ne e,fX hk,a8 λz=>e z.symm]
 .rw[eV (by rw[dL,b7];omega),eV (by rw[b7];omega)]
theorem j7 {g:∅}(h: ∀i,i<n->f i=g i):rwF n f=rwF n g:=by
 unfold rwF;apply zD;intro i hi;exact h i (dX.mp hi)
theorem bC5 (r:List Int):r=rwF r.length (λj=>r.getD j 0):=by
 apply pS
 intro k
 by_cases hk:k<r.length
 .rw[dI0 hk,aU hk,aR,aU hk];rfl
 .rw[eV aa,eV (by rw[a17];omega)]
theorem mT (n:Nat)(f:∅):(List.range n).map (λk=>D.int (f k))=(rwF n f).map D.int:=by
 unfold rwF;rw[kO];rfl
nonrec def tbF (n m:Nat)(t:Nat->∅):List D:=(List.range n).map λi=>aL (rwF m<|t i)
theorem a19 (n m:Nat)(t:Nat->∅):(tbF n m t).length=n:=by simp[tbF]
theorem cM1 (h:i<n):(tbF n m t)[i]? =some (aL<|rwF m<|t i):=by simp[tbF,h]
theorem cG1 (h:i<n):atI (tbF n m t) (i:Int)=some (aL<|rwF m<|t i):=cB (cM1 h)
theorem bC6 (n m:Nat)(t:Nat->∅)(f:∅):tbF n m t++[aL<|rwF m f]=tbF (n+1) m (λi=>if i=n then f else t i):=by
 unfold tbF;rw[cI,cH]
 congr 1
 .apply zD
  intro i hi;have:=dX.mp hi;show _=aL (rwF m<|if i=n then f else t i);rw[a8 aa]
 .simp
theorem bV8 (h:i<n):ixN n (i:Int)=some i:=by
 unfold ixN;have h2:(i:Int)< (n:Int):=aa
 simp[h,h2]
theorem bV9 (t:UE)(ρ:Ev)(Q:Bool->Ev->Prop):dJ t ρ Q=t ρ (isB Q):=rfl
theorem aZ0 (g:D->D->(B->Prop)->Prop)(ta tb:UE)(ρ:Ev)(Q:B->Ev->Prop):uOp g ta tb ρ Q=ta ρ λx ρ1=>tb ρ1 λy ρ2=>g x.d y.d λb=>Q b ρ2:=rfl
theorem b77 (c:UT)(t u:US)(E:UD)(ρ:Ev):fH c t u E ρ=c ρ λb ρ1=>if b=true then t E ρ1 else u E ρ1:=rfl
theorem bW0 {d:D}(h:ρ[i]? =some (~~~d)):aC i ρ Q=Q (.pu d) ρ:=by unfold aC a78;rw[h]
theorem dI1 {l:List D}(h:ρ[i]? =some (↑l)):aC i ρ Q=Q (.pu<|.lst l) (ρ.set i<|~~~.lst l):=by unfold aC a78;rw[h]
theorem c43: ∀r:List Int,pdL (r.map D.int)=some (r.map PyData.int)
 | []=>by simp[pdL]
 | a::r=>by simp[pdL,pd,c43 r]
theorem d43 (r:List Int):pd (aL r)=some (.tuple<|r.map .int):=by simp[aL,pd,c43]
theorem c44: ∀r:List Int,PyData.depthAll (r.map PyData.int)=0
 | []=>by simp[PyData.depthAll]
 | a::r=>by simp[PyData.depthAll,PyData.depth,c44 r]
theorem dI2 (r:List Int):(PyData.tuple<|r.map .int).depth<=60:=by simp[PyData.depth,c44]
theorem dI3 (a b:List Int):(PyData.tuple<|a.map .int).eqv (.tuple<|b.map .int)=decide (a=b):=by simp only[PyData.eqv];exact PySem.W.ked_eqvAll a b
theorem c45 {neg:Bool}{a b:List Int}{Q:B->Prop}(h:Q (.pu<|.bl<|neg ^^ decide (a=b))):dF7 neg (aL a) (aL b) Q:=⟨_,_,d43 a,d43 b,dI2 a,by rw[dI3];exact h⟩
structure Tri (n:Nat)(t:Nat->∅):Prop where
 pos: ∀i,i<n->1<=t i i
 zero: ∀i,i<n-> ∀j,i<j->t i j=0
nonrec def mE (m:Int)(i:Nat):∅:=λj=>if j=i then m else 0
theorem aH5 (h:x.natAbs<=2^e)(he:e<9000):Sm x:=Sm.pow h he
theorem cM2 (h:k<=n):cutD ((rwF n f).map D.int) none (some (k:Int))=(rwF k f).map D.int:=by
 rw[bV6 _ _ (by rw[b7];exact h),<-nL]
 congr 1
 unfold rwF;rw[<-nL,List.take_range,jP h]
theorem p6:(2:Nat)^600<=2^1000:=fL ac ac
nonrec def oZ (t:Nat->∅)(i:Nat)(f:∅):∅:=λj=>f j-(f i/t i i)*t i j
nonrec def lZ (t:Nat->∅):Nat->∅->∅
 | 0,f=>f
 | i+1,f=>lZ t i (oZ t i f)
theorem wD {n:Nat}{t:Nat->∅}(S:Tri n t): ∀(i:Nat) (f:∅),i<=n-> ∀j,i<=j->lZ t i f j=f j
 | 0,f,_,j,_=>rfl
 | i+1,f,hi,j,hj=>by
  show lZ t i (oZ t i f) j=f j
  rw[wD S i _ ad j ad]
  unfold oZ;rw[S.zero i ad j ad]
  lia
theorem b22 {n:Nat}{t:Nat->∅}(S:Tri n t): ∀(i:Nat) (f:∅),i<=n-> ∀j,j<i->0<=lZ t i f j/\lZ t i f j<t j j
 | i+1,f,hi,j,hj=>by
  show 0<=lZ t i (oZ t i f) j/\lZ t i (oZ t i f) j<t j j
  by_cases e:j=i
  .subst e;rw[wD S j _ ad j<|aG _]
   have hp:=S.pos j ad
   have h1:=cO (f j) (show t j j≠0 by lia)
   have h2:=cY (f j) (show 0<t j j by lia)
   have h3:oZ t j f j=f j%t j j:=by
    have:=Int.emod_add_mul_ediv (f j) (t j j);unfold oZ;rw[uD<|f j/t j j]
    lia
   rw[h3];exact⟨h1,h2⟩
  .exact b22 S i _ ad j ad
theorem b23 {g:∅}{b:Nat}(ht: ∀j,(t i j).natAbs<=2^600)(hg: ∀j,(g j).natAbs<=2^b): ∀j,(oZ t i g j).natAbs<=2^(b+601):=by
 intro j;unfold oZ;have h1:=hg j;have h2:(g i/t i i).natAbs<=2^b:=aK (yU _ _) (hg i);have h3:((g i/t i i)*t i j).natAbs<=2^b*2^600:=by rw[eK];exact gG h2 (ht j)
 have h4:(g j-(g i/t i i)*t i j).natAbs<=(g j).natAbs+((g i/t i i)*t i j).natAbs:=aM8 _ _;have e:2^(b+601)=2^b*2^600+2^b*2^600:=by
  rw[show b+601=b+600+1 from rfl,a00,iV];lia
 have h5:2^b<=2^b*2^600:=aK1 _ (Nat.pow_pos ac)
 generalize 2^b*2^600=X at *;generalize 2^b=Y at *;generalize 2^(b+601)=Z at *
 lia
def aZ1:Φ:=λds Q=> ∃(i n:Nat) (t:Nat->∅) (f:∅),ds=[.lst<|tbF i n t,aL<|rwF i f]/\i<=n/\n<=8/\(∀r,r<i->0<t r r)/\(∀r j,(t r j).natAbs<=2^600)/\(∀j,(f j).natAbs<=2^600)/\Q (.pu<|aL<|rwF i<|lZ t i f)
def aH6:US:=(bF 2<|aS cA<|a7 (eI [4] [none,none,some 4,none] 3 (d12<|a7 (aC 2)<|a7 (uIx (aW 0)<|aC 3) aM) (rN<|eC 0<|eC 1 rM) (λρ Q=>Q true ρ)<|uOp M.gSub (aC 0)<|uOp dQ (aC 2)<|aC 1) aM)
def wQ:US:=(aQ (bF 4<|uOp aN8 (uIx (aW 2)<|aC 3)<|uIx (uV<|uIx (aW 0)<|aC 3)<|aC 3) aH6)
def b24:US:=(oX 2)
def b25:US:=(aQ (gW (cK8<|a7 (kT<|aW 1) aM) (bY 3) wQ) b24)
def aZ2:US:=(aQ (bF 2<|aC 1) b25)
theorem cR6: Ra aZ1 aZ2 ["t","r","l","i","m"]:=by
 rintro ds Q ⟨I,n,t,f,rfl,hI,n8,tp,tb,fb,h⟩;unfold aZ2;show(aQ _ _:US) _ [~~~.lst (tbF I n t),~~~aL (rwF I f),none,none,none];left;unfold b25;rw[aN];refine bE I (λk=> .int (((I:Int))-1-k)) [~~~.lst (tbF I n t),~~~aL (rwF I f),~~~aL (rwF I f),none,none] ?_
  (λk ρ=> ∃g x y,ρ=[~~~.lst (tbF I n t),~~~aL (rwF I f),~~~aL (rwF I g),x,y]/\lZ t (I-k) g=lZ t I f/\ ∀j,(g j).natAbs<=2^(600+601*k)) ⟨f,none,none,rfl,rfl,λj=>fb j⟩ ?_ ?_
 .intro Q' q;simp only[aL];left;rw[b7];refine⟨⟨ad,ad⟩,?_⟩
  rw[bW];exact q
 .rintro k ρ hk ⟨g,x,y,rfl,hr,hb⟩;obtain⟨i,hi⟩: ∃i:Nat,i=I-1-k:=⟨_,rfl⟩;have hin:i<I:=ad
  have ei:(I:Int)-1-(k:Int)=(i:Int):=ad
  have hpos:=tp i hin;rw[ei];refine⟨ae,?_⟩
  show wQ _ [~~~.lst (tbF I n t),~~~aL (rwF I f),~~~aL (rwF I g),!(i:Int),y]
  unfold wQ;rw[aN];have e1:atI ((rwF I g).map D.int) (i:Int)=some (.int<|g i):=kA hin;have e2:atI (tbF I n t) (i:Int)=some (.tup<|(rwF n<|t i).map .int):=cG1 hin;have e3:atI ((rwF n<|t i).map D.int) (i:Int)=some (.int<|t i i):=kA ad
  simp only[aL];left;simp only[e1,e2,e3];rw[mR _ hpos];refine⟨⟨ad,aH5 (tb i i) ad⟩,?_⟩
  unfold aH6;rw[iM,eE,eF];refine aO2 (t0:=0) (t1:=1) I (λj=>((rwF I g).map D.int).getD j .non) (λj=>((rwF n<|t i).map D.int).getD j .non) [~~~.lst (tbF I n t),~~~.tup ((rwF I f).map .int),~~~.tup ((rwF I g).map .int),!(i:Int),!g i/t i i] ?_ ad
   (λx y l=>[x,y,!g i/t i i,↑l]) none none rfl (λ_ _ _ _ _=>rfl) (λ_ _ _=>⟨ae,ae⟩) (λ_ _ _ _ q=>q) (λ_ _ _ _=>rfl) (λj=> .int (oZ t i g j)) ?_ ?_
  .intro Q' q;left;rw[e2];left;rw[b7,b7,jP hI];exact q
  .intro j l Q' hj q;rw[j6 hj,j6 ad]at q⊢
   left
   refine⟨.inr ⟨aH5 (aK (yU _ _)<|hb i) ad,aH5 (tb i j) ac⟩,?_⟩
   exact q
  .left
   rw[mT];refine⟨oZ t i g,_,_,rfl,?_,λj=> ?_⟩
   .rw[<-hr,show I-k=i+1 by lia,show I-(k+1)=i by lia]
    rfl
   .have:=b23 (i:=i) (tb i) hb j;rw[show 600+601*(k+1)=600+601*k+601 by lia]
    exact this
 .rintro ρ ⟨g,x,y,rfl,hr,hb⟩;unfold b24;left;rw[qA]at hr;have:g=lZ t I f:=hr;rw[this];exact h
nonrec def fnL (l:List Int):∅:=λj=>l.getD j 0
theorem dI4 (h:l.length=n):aL l=aL (rwF n<|fnL l):=by
 rw[<-h];exact dN aL (bC5 l)
theorem d44 (h:l.length=n): ∀j,n<=j->fnL l j=0:=λj hj=>by
 unfold fnL;rw[aR,eV ad]
 rfl
theorem d45 {m:Int}(hi:i<n):((replicate i [D.int 0]).flatten++[D.int m]++(replicate (n-i-1) [D.int 0]).flatten:List D)=(rwF n<|mE m i).map .int:=by
 rw[mS,mS];apply pS;intro j
 by_cases h1:j<i
 .rw[hG (by simp;lia),hG (by simp;exact h1),fX ad,bP,tZ,aA h1]
  show _=some (D.int<|mE m i j)
  rw[show mE m i j=0 from a8 ad]
  rfl
 .by_cases h2:j=i
  .subst h2;rw[hG ae,gZ ae,fX hi,aJ,kI,qA]
   show _=some (D.int<|mE m j j)
   rw[show mE m j j=m from aA rfl]
   rfl
  .rw[gZ (by simp;lia)]
   simp only[bO,aJ,kI,dC,kM];rw[bP,tZ]
   by_cases h3:j<n
   .rw[aA ad,fX h3]
    show _=some (D.int<|mE m i j)
    rw[show mE m i j=0 from a8 h2]
    rfl
   .rw[a8 ad,eV (by rw[b7];lia)]
    rfl
nonrec def i7 (t:Nat->∅):Nat->Nat->∅
 | 0=>λ_ _=>0
 | i+1=>λr=>if r=i then lZ (i7 t i) i (t i)else i7 t i r
theorem aS9 (t:Nat->∅): ∀{i r:Nat},r<i->i7 t i r=lZ (i7 t r) r (t r)
 | i+1,r,h=>by
  show(if r=i then lZ (i7 t i) i (t i)else i7 t i r)=_
  by_cases e:r=i
  .rw[aA e,e]
  .rw[a8 e];exact aS9 t ad
theorem dI5 (t:Nat->∅){r:Nat}(h:r<i)(h2:r<k):i7 t i r=i7 t k r:=by rw[aS9 t h,aS9 t h2]
theorem dI6 (hi:i<=n)(h: ∀j,i<=j->f j=t i j):(rwF i f).map D.int++cutD ((rwF n<|t i).map D.int) (some (i:Int)) none=(rwF n f).map D.int:=by
 rw[aS7 _ _ (by rw[b7];exact hi)]
 apply pS
 intro j
 by_cases h1:j<i
 .rw[hG (by rw[b7];exact h1),fX h1,fX ad]
 .rw[gZ (by rw[b7];lia),b7,List.getElem?_drop,show i+(j-i)=j by lia]
  by_cases h2:j<n
  .rw[fX h2,fX h2,h j ad]
  .rw[eV (by rw[b7];lia),eV (by rw[b7];lia)]
theorem aT0 (h:i<n):(tbF n m t).getD i .non=aL (rwF m<|t i):=by rw[aR,cM1 h];rfl
theorem nl_row (l:List Int):D.nl (.tup<|l.map D.int)=true:=by
 simp only[D.nl];exact c29 l
nonrec def tbX (n m:Nat)(t:Nat->∅):List D:=(List.range n).map λi=> .lst ((rwF m<|t i).map .int)
theorem aF0 (n m:Nat)(t:Nat->∅):(tbX n m t).length=n:=by simp[tbX]
theorem aT1 (h:i<n):(tbX n m t)[i]? =some (.lst<|(rwF m<|t i).map .int):=by simp[tbX,h]
theorem cG2 (h:i<n):atI (tbX n m t) (i:Int)=some (.lst<|(rwF m<|t i).map .int):=cB (aT1 h)
theorem cM3 {u u':Nat->∅}(hi:i<n)(h: ∀r,r≠i->u' r=u r):(tbX n m u).set i (.lst<|(rwF m<|u' i).map .int)=tbX n m u':=by
 apply pS
 intro j
 by_cases e:i=j
 .subst e;rw[hZ (by rw[aF0];exact hi),aT1 hi]
 .rw[get_set_ne e]
  by_cases hj:j<n
  .rw[aT1 hj,aT1 hj,h j λz=>e z.symm]
  .rw[eV (by rw[aF0];lia),eV (by rw[aF0];lia)]
def swp (u:Nat->∅)(l:∅)(i:Nat):Nat->∅:=λr=>if r=i then l else u r
def bC7 (u:Nat->∅)(l:∅)(m q:Int)(i:Nat):∅:=λj=>if j<i then(u i j-q*l j)%m else if j=i then u i i-q*l i else 0
theorem dI7 {u:Nat->∅}{l:∅}(hi:i<n)(T:Tri n u)(lz: ∀j,i<j->l j=0)(l1:1<=l i):Tri n (swp u l i):=by
 have nr: ∀r,r≠i->swp u l i r=u r:=λr hr=>a8 hr
 have nl:swp u l i i=l:=aA rfl;refine⟨λr hr=> ?_,λr hr j hj=> ?_⟩
 .by_cases e:r=i
  .subst e;rw[nl];exact l1
  .rw[nr r e];exact T.pos r hr
 .by_cases e:r=i
  .subst e;rw[nl];exact lz j hj
  .rw[nr r e];exact T.zero r hr j hj
theorem d46 {u:Nat->∅}{l:∅}{m q:Int}(hi:i<n):((rwF i λj=>(u i j-q*l j)%m).map D.int++[D.int<|u i i-q*l i]++(replicate (n-1-i) [D.int 0]).flatten:List D)=(rwF n<|bC7 u l m q i).map .int:=by
 rw[mS];apply pS;intro j
 by_cases h1:j<i
 .rw[hG (by simp[rwF];lia),hG (by simp[rwF];lia),fX h1,fX ad]
  congr 2
  unfold bC7;rw[aA h1]
 .by_cases h2:j=i
  .subst h2;rw[hG<|by simp[rwF],gZ<|by simp[rwF],b7,qA,fX hi]
   unfold bC7;rw[a8 h1,aA rfl];rfl
  .rw[gZ (by simp[rwF];lia)]
   simp only[bO,b7,dC,kM];rw[bP,tZ]
   by_cases h3:j<n
   .rw[aA ad,fX h3]
    unfold bC7;rw[a8 h1,a8 h2];rfl
   .rw[a8 ad,eV (by rw[b7];lia)]
    rfl
structure Tk (n:Nat)(m:Int)(t:Nat->∅):Prop extends Tri n t where
 lo: ∀i j,0<=t i j
 hi: ∀i j,t i j<=m
structure FK (i:Nat)(T:Nat->∅):Prop where
 tri:Tri i T
 bd: ∀r j,(T r j).natAbs<=2^500
theorem p5':(2:Int)^500=((2^500:Nat):Int):=by norm_cast
theorem b78 {n:Nat}{m:Int}{t:Nat->∅}(ok:Tk n m t)(m2:m.natAbs<=2^500): ∀i,i<=n->FK i (i7 t i)
 | 0,_=>⟨⟨λi hi=>absurd hi (zQ _),λi hi=>absurd hi (zQ _)⟩,λr j=>eW _⟩
 | i+1,hi=>by
  have F:=b78 ok m2 i ad
  have new:i7 t (i+1) i=lZ (i7 t i) i (t i):=aA rfl;have old: ∀r,r≠i->i7 t (i+1) r=i7 t i r:=λr hr=>a8 hr
  have ab: ∀j,i<=j->lZ (i7 t i) i (t i) j=t i j:=wD F.tri i (t i) (aG _);refine⟨⟨λr hr=> ?_,λr hr j hj=> ?_⟩,λr j=> ?_⟩
  .by_cases e:r=i
   .subst e;rw[new,ab r<|aG _];exact ok.pos r ad
   .rw[old r e];exact F.tri.pos r ad
  .by_cases e:r=i
   .subst e;rw[new,ab j ad];exact ok.zero r ad j hj
   .rw[old r e];exact F.tri.zero r ad j hj
  .by_cases e:r=i
   .subst e;rw[new]
    by_cases hj:j<r
    .have:=b22 F.tri r (t r) (aG _) j hj;have:=F.bd j j
     lia
    .rw[ab j ad]
     have:=ok.lo r j;have:=ok.hi r j
     lia
   .rw[old r e];exact F.bd r j
def aT2:Φ:=λds Q=> ∃(n:Nat) (m:Int) (L:List (List Int)),ds=[.int (n:Int),.int m,.lst<|L.map aL]/\1<=n/\n<=8/\1<=m/\m<=2^500/\(∀l∈L,l.length=n)/\ ∀T,Tri n T->(∀r j,(T r j).natAbs<=2^500)->Q (.pu<|.tup<|tbF n n T)
def yA:US:=(bF 5<|uOp fE (uOp fE (aC 9)<|fT<|a7 (aC 8) aM)<|uOp dQ (fT<|a7 @0 aM)<|uOp M.gSub (uOp M.gSub (aC 0)<|@1)<|aC 6)
def qH:US:=(aQ (a56 3 (aC 5)<|aC 6) yA)
def qI:US:=(aQ (bF 9<|eI [7,1] [none,none,some 7,some 1,none] 4 (d12<|a7 (aC 9)<|a7 (aC 5) aM) (rN<|eC 0<|eC 1 rM) (λρ Q=>Q true ρ)<|uOp lL (uOp M.gSub (aC 0)<|uOp dQ (aC 2)<|aC 1)<|aC 3) qH)
def yB:US:=(aQ (bF 9<|uSl (uV<|uIx (aW 3)<|aC 6) jT<|mO<|aC 6) qI)
def qJ:US:=(aQ (bF 8<|uOp M.gSub (uIx (uV<|uIx (aW 3)<|aC 6)<|aC 6)<|uOp dQ (aC 7)<|uIx (aW 5)<|aC 6) yB)
def qK:US:=(aQ (bF 7<|uOp aN8 (uIx (uV<|uIx (aW 3)<|aC 6)<|aC 6)<|uIx (aW 5)<|aC 6) qJ)
def uU:US:=(aX6 (dJ<|uOp (gP true) (uIx (aW 5)<|aC 6)<|@0) qK)
def a20:US:=(gW (bA3<|a7 (uOp M.gSub (aC 0)<|@1)<|a7 (kS<|@1)<|a7 (kS<|@1) aM) (bY 6) uU)
def a21:US:=(aQ (bF 5<|eI [1] [none,some 1,none] 2 (fU<|aC 4) (bY 0) (λρ Q=>Q true ρ)<|uOp lL (aC 0)<|aC 1) a20)
def a95:US:=(a56 3 (eI [7] [none,none,some 7,none] 3 (d12<|a7 (uIx (aW 3)<|aC 10)<|a7 (uIx (aW 3)<|aC 11) aM) (rN<|eC 0<|eC 1 rM) (λρ Q=>Q true ρ)<|uOp M.gSub (aC 0)<|uOp dQ (aC 2)<|aC 1)<|aC 10)
def uW:US:=(aQ (bF 7<|uOp aN8 (uIx (uV<|uIx (aW 3)<|aC 10)<|aC 11)<|uIx (uV<|uIx (aW 3)<|aC 11)<|aC 11) a95)
def aT3:US:=(gW (bA3<|a7 (uOp M.gSub (aC 10)<|@1)<|a7 (kS<|@1)<|a7 (kS<|@1) aM) (bY 11) uW)
def bC8:US:=(dU<|aS cA<|a7 (eI [] [none,none] 1 (fU<|aC 3) (bY 0) (λρ Q=>Q true ρ)<|aS cA<|a7 (aC 0) aM) aM)
def bC9:US:=(aQ (gW (gN<|a7 (aC 0) aM) (bY 10) aT3) bC8)
def aO3:US:=(aQ (gW (fU<|aC 2) (bY 4) a21) bC9)
def bD0:US:=(aQ (bF 3<|eI [0,1] [none,some 0,some 1,none] 3 (gN<|a7 (aC 0) aM) (bY 0) (λρ Q=>Q true ρ)<|eI [2,0] [none,some 2,some 0,none] 3 (gN<|a7 (aC 1) aM) (bY 0) (λρ Q=>Q true ρ)<|uOp dQ (aC 1)<|aS b99<|a7 (uOp (gP false) (aC 2)<|aC 0) aM) aO3)
theorem d47 {m:Int}{L:List (List Int)}{s4 s10:Option B}(n8:n<=8)(hin:i<n)(m1:1<=m)(m2:m<=2^500)
  (h: ∀u l x5 x7 x8 x9,x5=some (B.pu<|.lst<|(rwF n l).map .int)\/x5=some (B.ow<|(rwF n l).map .int)->Tri n u->(∀r j,0<=u r j)->(∀r j,u r j<=m)->(∀j,i<=j->l j=0)->(∀j,0<=l j/\l j<m)->
   E.nx [!(n:Int),!m,~~~.lst (L.map aL),↑(tbX n n u),s4,x5,!(i:Int),x7,x8,x9,s10,s11])
  {u:Nat->∅} {l:∅} {x5 x7 x8 x9:Option B} (hx5:x5=some (B.pu<|.lst<|(rwF n l).map .int)\/x5=some (B.ow<|(rwF n l).map .int)) (T:Tri n u) (lo: ∀r j,0<=u r j) (hi: ∀r j,u r j<=m) (lz: ∀j,i<j->l j=0) (lb: ∀j,0<=l j/\l j<m) :
  uU E [!(n:Int),!m,~~~.lst (L.map aL),↑(tbX n n u),s4,x5,!(i:Int),x7,x8,x9,s10,s11]:=by
 have big:(10000:Nat)<=sizeLine:=ac
 rw[p5']at m2;have t6: ∀x:Int,0<=x->x<=m->Sm x:=λx h1 h2=>aH5 (e:=500) ad ad
 unfold uU
 refine⟨λk ρ=> ∃u l x5 x7 x8 x9,ρ=[!(n:Int),!m,~~~.lst (L.map aL),↑(tbX n n u),s4,x5,!(i:Int),x7,x8,x9,s10,s11]/\(x5=some (B.pu<|.lst<|(rwF n l).map .int)\/x5=some (B.ow<|(rwF n l).map .int))/\k=(l i).toNat/\Tri n u/\(∀r j,0<=u r j)/\(∀r j,u r j<=m)/\(∀j,i<j->l j=0)/\(∀j,0<=l j/\l j<m),⟨_,u,l,x5,x7,x8,x9,rfl,hx5,rfl,T,lo,hi,lz,lb⟩,?_⟩
 rintro k ρ ⟨u,l,x5,x7,x8,x9,rfl,hx5,rfl,T,lo,hi,lz,lb⟩;have e1:atI ((rwF n l).map D.int) (i:Int)=some (.int<|l i):=kA hin;have e2:atI (tbX n n u) (i:Int)=some (.lst<|(rwF n<|u i).map .int):=cG2 hin;have e3:atI ((rwF n<|u i).map D.int) (i:Int)=some (.int<|u i i):=kA hin
 have body:1<=l i-> ∀(Z:UD),(∀l' x7 x8 x9,l'=bC7 u l m (u i i/l i) i->Z.nx [!(n:Int),!m,~~~.lst (L.map aL),↑(tbX n n (swp u l i)),s4,↑((rwF n l').map .int),!(i:Int),x7,x8,x9,s10,s11])->
   qK Z [!(n:Int),!m,~~~.lst (L.map aL),↑(tbX n n u),s4,x5,!(i:Int),x7,x8,x9,s10,s11]:=by
  intro l1 Z hD;have sl:Sm (l i):=t6 _ (lb i).1 (by have:=(lb i).2;lia)
  have sq:Sm (u i i/l i):=aH5 (e:=500) (aK (yU _ _) (by have:=lo i i;have:=hi i i;lia)) ad
  have el: ∀j,Sm (l j):=λj=>t6 _ (lb j).1 (by have:=(lb j).2;lia)
  have fin:qI Z [!(n:Int),!m,~~~.lst (L.map aL),↑(tbX n n u),s4,x5,!(i:Int),!u i i/l i,!u i i-u i i/l i*l i,↑((rwF i<|u i).map .int),s10,s11]:=by
   unfold qI;rw[aN,iM]
   refine aO2 (t0:=0) (t1:=1) i (λj=>((rwF i<|u i).map D.int).getD j .non) (λj=>((rwF n l).map D.int).getD j .non) [!(n:Int),!m,~~~.lst (L.map aL),↑(tbX n n u),s4,~~~.lst ((rwF n l).map .int),!(i:Int),!u i i/l i,!u i i-u i i/l i*l i,~~~.lst ((rwF i<|u i).map .int),s10,s11] ?_ ad
    (λx y z=>[x,y,!u i i/l i,!m,↑z]) none none rfl (λ_ _ _ _ _=>rfl) (λ_ _ _=>⟨ae,ae⟩) (λ_ _ _ _ q=>q) (λ_ _ _ _=>rfl) (λj=> .int ((u i j-u i i/l i*l j)%m)) ?_ ?_
   .intro Q' q;rcases hx5 with rfl|rfl
    .left
     rw[b7,b7,jP ad]
     exact q
    .left
     rw[b7,b7,jP ad]
     exact q
   .intro j z Q' hj q;rw[j6 hj,j6 ad]at q⊢
    left
    rw[cU _ ad]
    exact⟨.inr ⟨sq,el j⟩,ad,q⟩
   rw[mT];show qH _ [!(n:Int),!m,~~~.lst (L.map aL),↑(tbX n n u),s4,~~~.lst ((rwF n l).map .int),!(i:Int),!u i i/l i,!u i i-u i i/l i*l i,some<|.ow<|(rwF i λj=>(u i j-u i i/l i*l j)%m).map .int,s10,s11]
   unfold qH;rw[aN];left;rw[aF0,cL4 hin];right;have es:(tbX n n u).set i (.lst<|(rwF n l).map .int)=tbX n n (swp u l i):=by
    have:=cM3 (m:=n) (u:=u) (u':=swp u l i) hin λr hr=>a8 hr
    rw[show swp u l i i=l from aA rfl]at this
    exact this
   rw[es];unfold yA;left;rw[show((n:Int)-1-(i:Int)).toNat=n-1-i by lia]
   have er:=d46 (u:=u) (l:=l) (m:=m) (q:=u i i/l i) hin;have eln:=dN length er;rw[b7]at eln;simp only[bO,b7,dC,kM]at eln;refine⟨ad,by rw[b7];lia,ad,⟨ad,ad,ad⟩,?_,?_⟩
   .simp only[bO,b7,dC,kM]
    lia
   .rw[er];exact hD _ _ _ _ rfl
  have tail:qJ Z [!(n:Int),!m,~~~.lst (L.map aL),↑(tbX n n u),s4,x5,!(i:Int),!u i i/l i,x8,x9,s10,s11]:=by
   unfold qJ;rw[aN];rcases hx5 with rfl|rfl
   all_goals
    left
    simp only[e1,e2,e3];refine⟨.inr ⟨sq,sl⟩,?_⟩;unfold yB;rw[aN];left;simp only[e2];rw[cM2 ad]
    exact fin
  unfold qK;rw[aN];rcases hx5 with rfl|rfl
  all_goals
   left
   simp only[e1,e2,e3];rw[mR _ ad]
   exact⟨⟨ad,sl⟩,tail⟩
 have lp:=lb i;have lz0:l i=0-> ∀j,i<=j->l j=0:=λc j hj=>by
  by_cases e:j=i
  .rw[e];exact c
  .exact lz j ad
 have stp:1<=l i-> ∀(l':∅),l'=bC7 u l m (u i i/l i) i->(l' i).toNat< (l i).toNat/\Tri n (swp u l i)/\(∀r j,0<=swp u l i r j)/\(∀r j,swp u l i r j<=m)/\(∀j,i<j->l' j=0)/\(∀j,0<=l' j/\l' j<m):=λl1 l' e=>by
  subst e;have em:=Int.emod_add_mul_ediv (u i i) (l i);have m0:=cO (u i i) (show l i≠0 by lia)
  have mlt:=cY (u i i) (show 0<l i by lia)
  rw[uD]at em;have ei:bC7 u l m (u i i/l i) i i=u i i-u i i/l i*l i:=by
   unfold bC7;rw[a8 ad,aA rfl]
  have sw: ∀r j,0<=swp u l i r j/\swp u l i r j<=m:=λr j=>by
   unfold swp;split
   .have:=lb j;lia
   .exact⟨lo r j,hi r j⟩
  refine⟨by rw[ei];lia,dI7 hin T lz l1,λr j=>(sw r j).1,λr j=>(sw r j).2,λj hj=> ?_,λj=> ?_⟩
  .unfold bC7;rw[a8 ad,a8 ad]
  .by_cases c1:j<i
   .unfold bC7;rw[aA c1];exact⟨cO _ ad,cY _ ad⟩
   .by_cases c2:j=i
    .rw[c2,ei];lia
    .unfold bC7;rw[a8 c1,a8 c2];lia
 rcases hx5 with e5|e5
 all_goals
  subst e5;left;simp only[e1]
  by_cases c:l i=0
  .rw[a8 ad]
   exact h u l _ x7 x8 x9 (by first|exact .inl rfl|exact .inr rfl) T lo hi (lz0 c) lb
  .rw[aA c];refine body ad _ λl' y7 y8 y9 e=> ?_
   obtain⟨s1,s2,s3,s4',s6,s7⟩:=stp ad l' e
   exact⟨_,s1,swp u l i,l',_,y7,y8,y9,rfl,.inr rfl,rfl,s2,s3,s4',s6,s7⟩
theorem dI8 {m:Int}{L:List (List Int)}{x5 x6 x7 x8 x9 s10:Option B}(n1:1<=n)(n8:n<=8)(m1:1<=m)(m2:m<=2^500)(ok:Tk n m t)(hr:r.length=n)
  (h: ∀u s4 x5 x6 x7 x8 x9,Tk n m u->E.nx [!(n:Int),!m,~~~.lst (L.map aL),↑(tbX n n u),s4,x5,x6,x7,x8,x9,s10,s11]) :
  a21 E [!(n:Int),!m,~~~.lst (L.map aL),↑(tbX n n t),~~~aL r,x5,x6,x7,x8,x9,s10,s11]:=by
 have big:(10000:Nat)<=sizeLine:=ac
 unfold a21;rw[aN,iM,dI4 hr];simp only[aL]
 refine dR (t0:=0) n (λj=>((rwF n<|fnL r).map D.int).getD j .non) [!(n:Int),!m,~~~.lst (L.map aL),↑(tbX n n t),~~~.tup ((rwF n<|fnL r).map .int),x5,x6,x7,x8,x9,s10,s11] ?_ ad (λx l=>[x,!m,↑l]) none rfl (λ_ _ _=>rfl) (λ_ _=>cC _) (λ_ _ _ q=>q) (λ_ _ _=>rfl) (λj=> .int (fnL r j%m)) ?_ ?_
 .intro Q' q;left;rw[b7];exact q
 .intro j l Q' hj q;rw[j6 hj]at q⊢;left;rw[cU _ ad]
  exact⟨ad,q⟩
 rw[mT];show a20 _ [!(n:Int),!m,~~~.lst (L.map aL),↑(tbX n n t),~~~.tup ((rwF n<|fnL r).map .int),some<|.ow<|(rwF n λj=>fnL r j%m).map .int,x6,x7,x8,x9,s10,s11]
 unfold a20;have l0: ∀j,0<=(λj=>fnL r j%m) j/\(λj=>fnL r j%m) j<m:=λj=>⟨cO _ ad,cY _ ad⟩
 have lz: ∀j,n<=j->(λj=>fnL r j%m) j=0:=λj hj=>by
  show fnL r j%m=0
  rw[d44 hr j hj];rfl
 generalize (λj=>fnL r j%m)=l00 at l0 lz⊢
 refine bE n (λk=> .int ((n:Int)-1-k)) [!(n:Int),!m,~~~.lst (L.map aL),↑(tbX n n t),~~~.tup ((rwF n<|fnL r).map .int),↑((rwF n l00).map .int),x6,x7,x8,x9,s10,s11] ?_
  (λk ρ=> ∃(u:Nat->∅) (l:∅) (y5 y6 y7 y8 y9:Option B),ρ=[!(n:Int),!m,~~~.lst (L.map aL),↑(tbX n n u),~~~.tup ((rwF n<|fnL r).map .int),y5,y6,y7,y8,y9,s10,s11]/\(y5=some (B.pu<|.lst<|(rwF n l).map .int)\/y5=some (B.ow<|(rwF n l).map .int))/\Tri n u/\(∀r j,0<=u r j)/\(∀r j,u r j<=m)/\(∀j,n-k<=j->l j=0)/\(∀j,0<=l j/\l j<m))
  ⟨t,l00,_,_,_,_,_,rfl,.inr rfl,ok.toTri,ok.lo,ok.hi,lz,l0⟩ ?_ ?_
 .intro Q' q;left;refine⟨trivial,⟨ad,ad,ad,ad⟩,?_⟩
  rw[show((n:Int)-1- -1).toNat=n by lia]
  exact q
 .rintro k ρ hk ⟨u,l,y5,y6,y7,y8,y9,rfl,h5,T,lo,hi,lz,lb⟩;obtain⟨i,hi0⟩: ∃i:Nat,i=n-1-k:=⟨_,rfl⟩;have ei:(n:Int)-1-(k:Int)=(i:Int):=ad
  have eN:n-k=i+1:=ad
  have eN':n-(k+1)=i:=ad
  rw[ei];rw[eN]at lz;refine⟨ae,?_⟩
  refine d47 (i:=i) n8 ad m1 m2 ?_ h5 T lo hi (λj hj=>lz j ad) lb
  intro u l z5 z7 z8 z9 h1 h2 h3 h4 h6 h7;exact⟨u,l,z5,!(i:Int),z7,z8,z9,rfl,h1,h2,h3,h4,(by rw[eN'];exact h6),h7⟩
 .rintro ρ ⟨u,l,y5,y6,y7,y8,y9,rfl,h5,T,lo,hi,lz,lb⟩;exact h u _ _ _ _ _ _ ⟨T,lo,hi⟩
theorem cG3 (n:Nat)(it:Nat->D)(ρ1:Ev)(hui: ∀Q:Nat->(Nat->D)->Ev->Prop,Q n it ρ1->ui ρ Q)(hn:n<=1000000)
  (G:Option B->List D->Ev) (x0:Option B) (h0:rO (a07 ρ1 js) cap last=G x0 []) (h1: ∀x l b,(G x l).set t0 (some b)=G (some b) l) (h1': ∀x l,t0< (G x l).length) (h2: ∀x l (Q:List D->Prop),Q l->mM (G x l) last Q) (h3: ∀x l l',(G x l).set last (↑l')=G x l')
  (f:Nat->List D) (hte: ∀i l (Q':B->Ev->Prop),i<n->Q' (.ow<|f i) (G (~~~it i) l)->te (G (~~~it i) l) Q') (hq:Q (.ow<|(List.range n).map λi=> .lst (f i)) (a07 ρ1 js)) :
  eI js cap last ui (bY t0) (λρ Q=>Q true ρ) te ρ Q:=by
 refine hui _ ⟨λi ρ'=> ∃x,ρ'=G x ((List.range i).map λi=> .lst (f i)),⟨x0,h0⟩,?_,?_⟩
 .rintro i ρ' hi ⟨x,rfl⟩;refine⟨h1' _ _,?_⟩;rw[h1];right;rw[aA rfl];refine hte i _ _ hi (h2 _ _ _ ⟨?_,~~~it i,?_⟩)
  .rw[aJ,kL];exact b9 hi (aK hn ac)
  .rw[h3,cI,cH];rfl
 .rintro ρ' ⟨x,rfl⟩;exact h2 _ _ _ hq
theorem d48 (i:Nat)(t ti:UE)(D:UD)(ρ:Ev):a56 i t ti D ρ=t ρ λb ρ1=>mM ρ1 i λ_=>ti ρ1 λj ρ2=>mM ρ2 i λl=>match j.d with
 | .int k=>(match ixN l.length k with
  | some n=>D.nx (ρ2.set i<|↑(l.set n b.d))
  | none=>False)
 | _=>False:=rfl
nonrec def rT (t:Nat->∅)(i:Nat)(g:∅):Nat->∅:=λr=>if r<i then i7 t i r else if r=i then g else t r
theorem d49: Ra aT2 bD0 ["a","b","c","d","e","f","g","h","i","j","k","l"]:=by
 rintro ds Q ⟨n,m,L,rfl,n1,n8,m1,m2,ok,h⟩;have big:(10000:Nat)<=sizeLine:=ac
 have m2':m.natAbs<=2^500:=by have:=m2;rw[p5']at this;lia
 unfold bD0;show(aQ _ _:US) _ [!(n:Int),!m,~~~.lst (L.map aL),none,none,none,none,none,none,none,none,none];rw[aN,iM]
 refine cG3 (t0:=0) n (λk=> .int (0+(k:Int))) [!(n:Int),!m,~~~.lst (L.map aL),none,none,none,none,none,none,none,none,none] ?_ ad (λx l=>[x,!(n:Int),!m,↑l]) none rfl (λ_ _ _=>rfl) (λ_ _=>cC _) (λ_ _ _ q=>q) (λ_ _ _=>rfl) (λk=>(rwF n<|mE m k).map .int) ?_ ?_
 .intro Q' q;left;refine⟨⟨ad,ad⟩,?_⟩
  rw[bW];exact q
 .intro k l Q' hk q;refine dR (t0:=0) n (λj=> .int (0+(j:Int))) [!(0+(k:Int)),!(n:Int),!m,↑l] ?_ ad (λx l=>[x,!m,!(0+(k:Int)),↑l]) none rfl (λ_ _ _=>rfl) (λ_ _=>cC _) (λ_ _ _ q=>q) (λ_ _ _=>rfl) (λj=> .int (mE m k j)) ?_ ?_
  .intro Q' q;left;refine⟨⟨ad,ad⟩,?_⟩
   rw[bW];exact q
  .intro j l Q' hj q;left;have em:(m*if 0+(k:Int)=0+(j:Int)then 1 else 0)=mE m k j:=by
    unfold mE
    by_cases e:j=k
    .subst e;rw[aA rfl,aA rfl];lia
    .rw[a8 ad,a8 e];lia
   rw[em];exact⟨.inr ⟨aH5 m2' ad,by split<;>exact aH5 (e:=1) ac ac⟩,q⟩
  .rw[mT];exact q
 show aO3 _ [!(n:Int),!m,~~~.lst (L.map aL),↑(tbX n n (mE m)),none,none,none,none,none,none,none,none]
 unfold aO3;rw[aN];have ok0:Tk n m (mE m):=by
  refine⟨⟨λi _=>by unfold mE;rw[aA rfl];exact m1,λi _ j hj=>by unfold mE;rw[a8 ad]⟩,λi j=> ?_,λi j=> ?_⟩
  .unfold mE;split<;>lia
  .unfold mE;split<;>lia
 refine bE (L.map aL).length (λi=>(L.map aL).getD i .non) [!(n:Int),!m,~~~.lst (L.map aL),↑(tbX n n (mE m)),none,none,none,none,none,none,none,none] ?_
  (λi ρ=> ∃(t:Nat->∅) (x4 x5 x6 x7 x8 x9:Option B),ρ=[!(n:Int),!m,~~~.lst (L.map aL),↑(tbX n n t),x4,x5,x6,x7,x8,x9,none,none]/\Tk n m t)
  ⟨_,none,none,none,none,none,none,rfl,ok0⟩ ?_ ?_
 .intro Q' q;left;exact q
 .rintro i ρ hi ⟨t,x4,x5,x6,x7,x8,x9,rfl,okt⟩;rw[aJ]at hi;have hm:=cL hi;have ei:(L.map aL).getD i .non=aL L[i]:=by rw[aR,bP,aU hi];rfl
  rw[ei];refine⟨ae,?_⟩
  refine dI8 n1 n8 m1 m2 okt (ok _ hm) ?_
  intro u s4 y5 y6 y7 y8 y9 oku;exact⟨u,_,_,_,_,_,_,rfl,oku⟩
 .rintro ρ ⟨t,x4,x5,x6,x7,x8,x9,rfl,okt⟩;have up: ∀{x:Int},x.natAbs<=2^500->x.natAbs<=2^600:=λh=>aK h (fL ac ac)
  have tt: ∀r j,(t r j).natAbs<=2^600:=λr j=>up (by have:=okt.lo r j;have:=okt.hi r j;lia)
  try right
  unfold bC9;rw[aN];have mid0: ∀i,rT t i (t i)=λr=>if r<i then i7 t i r else t r:=λi=>by
   funext r
   unfold rT;split
   .rfl
   .split
    .rename_i e;rw[e]
    .rfl
  refine bE n (λi=> .int (0+(i:Int))) [!(n:Int),!m,~~~.lst (L.map aL),↑(tbX n n t),x4,x5,x6,x7,x8,x9,none,none] ?_
   (λi ρ=> ∃(y7 y10 y11:Option B),ρ=[!(n:Int),!m,~~~.lst (L.map aL),↑(tbX n n (rT t i (t i))),x4,x5,x6,y7,x8,x9,y10,y11]) ⟨x7,none,none,?_⟩ ?_ ?_
  .intro Q' q;left;refine⟨⟨ad,ad⟩,?_⟩
   rw[bW];exact q
  .rw[mid0];rfl
  .rintro i ρ hi ⟨y7,y10,y11,rfl⟩;refine⟨ae,?_⟩
   have F:=b78 okt m2' i ad
   unfold aT3;show(gW _ _ _:US) _ [!(n:Int),!m,~~~.lst (L.map aL),↑(tbX n n (rT t i (t i))),x4,x5,x6,y7,x8,x9,!(0+(i:Int)),y11]
   refine bE i (λk=> .int (0+(i:Int)-1-k)) [!(n:Int),!m,~~~.lst (L.map aL),↑(tbX n n (rT t i (t i))),x4,x5,x6,y7,x8,x9,!(0+(i:Int)),y11] ?_
    (λk ρ=> ∃(g:∅) (y7 y11:Option B),ρ=[!(n:Int),!m,~~~.lst (L.map aL),↑(tbX n n (rT t i g)),x4,x5,x6,y7,x8,x9,!(0+(i:Int)),y11]/\lZ (i7 t i) (i-k) g=lZ (i7 t i) i (t i)/\ ∀j,(g j).natAbs<=2^(600+601*k)) ⟨t i,_,_,rfl,rfl,λj=>by rw[Nat.mul_zero];exact tt i j⟩ ?_ ?_
   .intro Q' q;left;refine⟨trivial,⟨ad,ad,ad,ad⟩,?_⟩
    rw[show(0+(i:Int)-1- -1).toNat=i by lia]
    exact q
   .rintro k ρ hk ⟨g,z7,z11,rfl,hr,hb⟩;obtain⟨q,hq⟩: ∃q:Nat,q=i-1-k:=⟨_,rfl⟩;have eq:0+(i:Int)-1-(k:Int)=(q:Int):=ad
    have ez:0+(i:Int)=(i:Int):=ad
    rw[eq,ez];refine⟨ae,?_⟩
    show uW _ [!(n:Int),!m,~~~.lst (L.map aL),↑(tbX n n (rT t i g)),x4,x5,x6,z7,x8,x9,!(i:Int),!(q:Int)]
    have ri:rT t i g i=g:=by unfold rT;rw[a8 ad,aA rfl]
    have rq:rT t i g q=i7 t i q:=by unfold rT;rw[aA ad]
    have e1:atI (tbX n n<|rT t i g) (i:Int)=some (.lst<|(rwF n g).map .int):=by rw[cG2 ad,ri]
    have e2:atI (tbX n n<|rT t i g) (q:Int)=some (.lst<|(rwF n<|i7 t i q).map .int):=by rw[cG2 ad,rq]
    have e3:atI ((rwF n g).map D.int) (q:Int)=some (.int<|g q):=kA ad
    have e4:atI ((rwF n<|i7 t i q).map D.int) (q:Int)=some (.int<|i7 t i q q):=kA ad
    have dp:=F.tri.pos q ad
    unfold uW;rw[aN];left;simp only[e1,e2,e3,e4];rw[mR _ ad]
    refine⟨⟨ad,aH5 (F.bd q q) ad⟩,?_⟩
    unfold a95;rw[d48];refine aO2 (t0:=0) (t1:=1) n (λj=>((rwF n g).map D.int).getD j .non) (λj=>((rwF n<|i7 t i q).map D.int).getD j .non) [!(n:Int),!m,~~~.lst (L.map aL),↑(tbX n n (rT t i g)),x4,x5,x6,!g q/i7 t i q q,x8,x9,!(i:Int),!(q:Int)] ?_ ad
     (λx y z=>[x,y,!g q/i7 t i q q,↑z]) none none rfl (λ_ _ _ _ _=>rfl) (λ_ _ _=>⟨ae,ae⟩) (λ_ _ _ _ q=>q) (λ_ _ _ _=>rfl) (λj=> .int (oZ (i7 t i) q g j)) ?_ ?_
    .intro Q' q';left;simp only[e1,e2];rw[b7,b7,Nat.min_self];exact q'
    .intro j l Q' hj q';rw[j6 hj,j6 ad]at q'⊢
     left
     refine⟨.inr ⟨aH5 (aK (yU _ _)<|hb q) ad,aH5 (F.bd q j) ac⟩,?_⟩
     exact q'
    .left
     rw[mT,aF0,cL4 hi];right;have es:(tbX n n<|rT t i g).set i (.lst<|(rwF n<|oZ (i7 t i) q g).map .int)=tbX n n (rT t i<|oZ (i7 t i) q g):=by
      have:=cM3 (m:=n) (u:=rT t i g) (u':=rT t i (oZ (i7 t i) q g)) hi λr hr=>by unfold rT;rw[a8 hr,a8 hr]
      rw[show rT t i (oZ (i7 t i) q g) i=oZ (i7 t i) q g by unfold rT;rw[a8 ad,aA rfl]]at this
      exact this
     rw[es];refine⟨oZ (i7 t i) q g,_,_,rfl,?_,λj=> ?_⟩
     .rw[<-hr,show i-k=q+1 by lia,show i-(k+1)=q by lia]
      rfl
     .have:=b23 (i:=q) (λj=>up (F.bd q j)) hb j
      rw[show 600+601*(k+1)=600+601*k+601 by lia]
      exact this
   .rintro ρ ⟨g,z7,z11,rfl,hr,hb⟩;refine⟨z7,!(0+(i:Int)),z11,?_⟩;rw[qA]at hr;have eg:g=lZ (i7 t i) i (t i):=hr;have:rT t i g=rT t (i+1) (t<|i+1):=by
     rw[mid0,eg]
     funext r
     unfold rT
     by_cases c1:r<i
     .rw[aA c1,aA ad]
      exact dI5 t c1 ad
     .by_cases c2:r=i
      .subst c2;rw[a8 c1,aA rfl,aA ad]
       exact(aS9 t ad).symm
      .rw[a8 c1,a8 c2,a8 ad]
    rw[this]
  .rintro ρ ⟨y7,y10,y11,rfl⟩;unfold bC8;have F:=b78 okt m2' n (aG _);have ht:tbX n n (rT t n<|t n)=tbX n n (i7 t n):=by
    unfold tbX;refine zD λr hr=> ?_
    rw[show rT t n (t n) r=i7 t n r from aA (dX.mp hr)]
   rw[ht];right;rw[lM,eE,eF];refine dR (t0:=0) n (λi=>(tbX n n<|i7 t n).getD i .non) [!(n:Int),!m,~~~.lst (L.map aL),~~~.lst (tbX n n (i7 t n)),x4,x5,x6,y7,x8,x9,y10,y11] ?_ ad (λx l=>[x,↑l]) none rfl (λ_ _ _=>rfl) (λ_ _=>cC _) (λ_ _ _ q=>q) (λ_ _ _=>rfl) (λi=>aL (rwF n<|i7 t n i)) ?_ ?_
   .intro Q' q;left;rw[aF0];exact q
   .intro i l Q' hi q;have eg:(tbX n n<|i7 t n).getD i .non= .lst ((rwF n<|i7 t n i).map .int):=by rw[aR,aT1 hi];rfl
    rw[eg]at q⊢;left;exact q
   .left
    exact h _ F.tri F.bd
nonrec def iX (f:∅):Nat->Nat
 | 0=>0
 | n+1=>if f n=0 then iX f n else n+1
theorem a22 (f:∅): ∀n,iX f n<=n
 | 0=>aG _
 | n+1=>by
  unfold iX;split
  .have:=a22 f n;lia
  .exact aG _
theorem a23 {f:∅}{k:Nat}: ∀{n:Nat},k<=n->(∀m,k<=m->m<n->f m=0)->(k=0\/f (k-1)≠0)->iX f n=k
 | 0,h,_,_=>by have:k=0:=ad
               rw[this];rfl
 | n+1,h,hz,hl=>by
  unfold iX
  by_cases e:k=n+1
  .subst e;rw[a8];rcases hl with h0|h0
   .lia
   .exists h0
  .rw[aA<|hz n ad ad]
   exact a23 ad (λm h1 h2=>hz m h1 ad) hl
theorem bD1 {f g:∅}: ∀{n:Nat},(∀m,m<n->f m=g m)->iX f n=iX g n
 | 0,_=>rfl
 | n+1,h=>by
  unfold iX;rw[h n<|pT n,bD1 λm hm=>h m (kK hm)]
theorem c46 (n k:Nat)(f:∅)(h:k<=n):(rwF n f).take k=rwF k f:=by
 unfold rwF;rw[<-nL,List.take_range,jP h]
def a96:Φ:=λds Q=> ∃(n:Nat) (f:∅),ds=[aL<|rwF n f]/\n<=1000/\Q (.pu<|aL<|rwF (iX f n) f)
def bD2:US:=(aQ (bF 1<|kT<|aW 0)<|aQ (aX6 (cD1 (dJ<|uOp (w6 λi j=>decide (j<i)) (aC 1)<|@0)<|dJ<|uOp (gP false) (uIx (aW 0)<|uOp M.gSub (aC 1)<|@1)<|@0)<|c17 1 (gI2 λi j Q=>Q (.pu<|.int<|i-j))<|@1)<|dU<|d08 (aC 0) jT<|mO<|aC 1)
theorem d50: Ra a96 bD2 ["r","s"]:=by
 rintro ds Q ⟨n,f,rfl,hn,h⟩;unfold bD2;simp only[aL];show(aQ _ _:US) _ [~~~.tup ((rwF n f).map .int),none];rw[aN];left;rw[b7];refine⟨λm ρ=>ρ=[~~~.tup ((rwF n f).map .int),!(m:Int)]/\m<=n/\iX f m=iX f n,⟨n,rfl,aG _,rfl⟩,?_⟩
 rintro m ρ ⟨rfl,hm,hc⟩;left;have fin:iX f m=m->Q (.pu<|.tup<|cutD ((rwF n f).map D.int) none<|some (m:Int)):=λe=>by
  rw[bV6 _ _ (by rw[b7];exact hm),<-nL,c46 _ _ _ hm]
  rw[<-hc,e]at h;exact h
 split
 .rename_i h0
  obtain⟨m',rfl⟩: ∃m',m=m'+1:=⟨m-1,ad⟩
  rw[show((m'+1:Nat):Int)-1=(m':Int)by lia,kA<|show m'<n by lia]
  right;split
  .rename_i h1
   refine⟨m',ad,?_,ad,?_⟩
   .simp
   .rw[<-hc];show _=if f m'=0 then iX f m' else m'+1;rw[aA h1]
  .rename_i h1
   refine fin ?_
   show(if f m'=0 then iX f m' else m'+1)=m'+1
   rw[a8 h1]
 .have:m=0:=ad
  subst this;exact fin rfl
nonrec def shF (b:∅)(n m:Nat):Int:=if n<=m then b (m-n)else 0
nonrec def aO4 (b:∅)(d n:Nat)(f:∅):∅:=λm=>f m-f (n+d)*shF b n m
nonrec def bD3 (b:∅)(d:Nat):Nat->∅->∅
 | 0,f=>f
 | n+1,f=>bD3 b d n (aO4 b d n f)
nonrec def a24 (b:∅)(d:Nat):Nat->∅->∅
 | 0,_=>λ_=>0
 | n+1,f=>λx=>if x=n then f (n+d)else a24 b d n (aO4 b d n f) x
structure d51 (L d a e:Nat)(f b:∅):Prop where
 L9:L<=100
 d9:d<=100
 one:b d=1
 beyond: ∀j,d<j->b j=0
 fb: ∀m,m<L->(f m).natAbs<=2^a
 bb: ∀j,(b j).natAbs<=2^e
 room:a+(e+1)*L<8000
 e8:e<8000
theorem cG4 {b:∅}{d a L:Nat}(hn:n+d<L)(hf: ∀m,m<L->(f m).natAbs<=2^a)(hb: ∀j,(b j).natAbs<=2^e): ∀m,m<L->(aO4 b d n f m).natAbs<=2^(a+(e+1)):=by
 intro m hm;unfold aO4;have h1:=hf m hm;have h2:=hf (n+d) hn;have h3:(shF b n m).natAbs<=2^e:=by
  unfold shF;split
  .exact hb _
  .simp
 have h4:(f (n+d)*shF b n m).natAbs<=2^a*2^e:=by rw[eK];exact gG h2 h3
 have h5:=aM8 (f m) (f (n+d)*shF b n m);have e1:2^(a+(e+1))=2^a*2^e+2^a*2^e:=by rw[<-zU,a00,iV];lia
 have h6:2^a<=2^a*2^e:=aK1 _ (Nat.pow_pos ac)
 lia
theorem aF1 (k:Nat):(replicate k [D.int 0]).flatten=(rwF k λ_=>0).map .int:=by
 rw[mS]
 congr 1
 apply pU<;>simp[rwF]
def fN:Φ:=λds Q=> ∃(L d a e:Nat) (f b:∅),ds=[aL<|rwF L f,aL<|rwF (d+1) b]/\d51 L d a e f b/\
 Q (.pu<|.tup [aL<|rwF (iX (a24 b d (L-d) f)<|L-d)<|a24 b d (L-d) f,aL<|rwF (iX (bD3 b d (L-d) f) L)<|bD3 b d (L-d) f])
def wE:US:=(dU<|gL<|a7 (aS a96<|a7 (aS cA<|a7 (aC 5) aM) aM)<|a7 (aS a96<|a7 (aS cA<|a7 (aC 4) aM) aM) aM)
def wF:US:=(aQ (gW (cK8<|a7 (aC 3) aM) (bY 6)<|aQ (bF 7<|uIx (aW 4)<|uOp fE (aC 6)<|aC 2)<|aQ (a56 5 (aC 7)<|aC 6)<|gW (cK6<|a7 (aC 1) aM) (rN<|eC 8<|eC 9 rM)<|d09 4 (λi j=>i-j) (uOp fE (aC 6)<|aC 8)<|uOp dQ (aC 7)<|aC 9) wE)
def qL:US:=(aQ (bF 2<|uOp M.gSub (kT<|aW 1)<|@1)<|aQ (bF 3<|aS dE2<|a7 @0<|a7 (uOp M.gSub (kT<|aW 0)<|aC 2) aM)<|aQ (bF 4<|aS aR9<|a7 (aC 0) aM)<|aQ (bF 5<|uOp dQ (fT<|a7 @0 aM)<|aC 3) wF)
theorem aZ3: Ra fN qL ["f","g","d","s","l","q","a","m","j","c"]:=by
 rintro ds Q ⟨L,d,a,e,f,b,rfl,ok,h⟩;have L9:=ok.L9;have d9:=ok.d9;have room:=ok.room;unfold qL;simp only[aL]at h⊢;show(aQ _ _:US) _ [~~~.tup ((rwF L f).map .int),~~~.tup ((rwF (d+1) b).map .int),none,none,none,none,none,none,none,none];left;rw[b7,b7];obtain⟨N,hN⟩: ∃N:Nat,N=L-d:=⟨_,rfl⟩;have e1:((d+1:Nat):Int)-1=(d:Int):=ad
 have e2:(if(L:Int)-(d:Int)>0 then(L:Int)-(d:Int)else 0)=(N:Int):=by split<;>lia
 rw[e1,e2,bW,aF1];refine⟨ac,⟨ad,ad,aK (show 1*N<=100 by lia) ac⟩,?_⟩
 unfold wF;rw[aN];rw[<-hN]at h;refine bE N (λk=> .int (((N:Int))-1-k)) [~~~.tup ((rwF L f).map .int),~~~.tup ((rwF (d+1) b).map .int),!(d:Int),!(N:Int),↑((rwF L f).map .int),some<|.ow<|(rwF N λ_=>0).map .int,none,none,none,none] ?_
  (λk ρ=> ∃g q z6 z7 z8 z9,ρ=[~~~.tup ((rwF L f).map .int),~~~.tup ((rwF (d+1) b).map .int),!(d:Int),!(N:Int),↑((rwF L g).map .int),↑((rwF N q).map .int),z6,z7,z8,z9]/\
   bD3 b d (N-k) g=bD3 b d N f/\(∀x,x<N->a24 b d N f x=if x<N-k then a24 b d (N-k) g x else q x)/\ ∀m,m<L->(g m).natAbs<=2^(a+(e+1)*k))
  ⟨f,λ_=>0,none,none,none,none,rfl,rfl,λx hx=>by rw[Nat.sub_zero,aA hx],λm hm=>by simpa using ok.fb m hm⟩ ?_ ?_
 .intro Q' q;left;refine⟨⟨ad,ad⟩,?_⟩
  rw[bW];exact q
 .rintro k ρ hk ⟨g,q,z6,z7,z8,z9,rfl,hL,hQ,hb⟩;obtain⟨i,hi⟩: ∃i:Nat,i=N-1-k:=⟨_,rfl⟩;have ei:(N:Int)-1-(k:Int)=(i:Int):=ad
  have hiN:i<N:=ad
  have hid:i+d<L:=ad
  rw[ei];have c1:(i:Int)+(d:Int)=((i+d:Nat):Int):=ad
  left
  rw[c1,kA hid];right;rw[b7,bV8 hiN];right;rw[a18 hiN];refine⟨ae,?_⟩
  have smg:Sm (g<|i+d):=Sm.pow (hb _ hid) (by
   have:(e+1)*k<=(e+1)*L:=u7 _ ad
   lia)
  refine bE (d+1) (λj=> .tup [.int (j:Int),((rwF (d+1) b).map D.int).getD j .non]) [~~~.tup ((rwF L f).map .int),~~~.tup ((rwF (d+1) b).map .int),!(d:Int),!(N:Int),↑((rwF L g).map .int),some<|.ow<|(rwF N λx=>if x=i then g (i+d)else q x).map .int,!(i:Int),!g (i+d),z8,z9] ?_
   (λj ρ=> ∃z8 z9,ρ=[~~~.tup ((rwF L f).map .int),~~~.tup ((rwF (d+1) b).map .int),!(d:Int),!(N:Int),some<|.ow<|(rwF L λm=>if m<i+j then aO4 b d i g m else g m).map .int,some<|.ow<|(rwF N λx=>if x=i then g (i+d)else q x).map .int,!(i:Int),!g (i+d),z8,z9]) ⟨z8,z9,?_⟩ ?_ ?_
  .intro Q' qq;left;rw[b7];exact qq
  .have:(rwF L λm=>if m<i+0 then aO4 b d i g m else g m)=rwF L g:=by
    apply j7
    intro m hm
    by_cases c:m<i+0
    .rw[aA c];unfold aO4 shF;rw[a8 ad]
     lia
    .rw[a8 c]
   rw[this]
  .rintro j ρ hj ⟨z8,z9,rfl⟩;rw[j6 hj];have hij:i+j<L:=ad
   have c2:(i:Int)+(j:Int)=((i+j:Nat):Int):=ad
   simp only[d09];left;rw[c2,b7];refine⟨ae,ae,trivial,_,i+j,g<|i+j,rfl,bV8 hij,by rw[fX hij,a8 ad],.inr ⟨smg,Sm.pow (ok.bb j) (by have:=ok.e8;lia)⟩,_,rfl,!(j:Int),!b j,?_⟩
   rw[a18 hij];have:(rwF L λx=>if x=i+j then g (i+j)-g (i+d)*b j else if x<i+j then aO4 b d i g x else g x)=rwF L λm=>if m<i+(j+1)then aO4 b d i g m else g m:=by
    apply j7
    intro m hm
    by_cases c:m=i+j
    .subst c;rw[aA rfl,aA ad]
     unfold aO4 shF;rw[aA ad,show i+j-i=j by lia]
    .rw[a8 c]
     by_cases c3:m<i+j
     .rw[aA c3,aA ad]
     .rw[a8 c3,a8 ad]
   rw[this]
  .rintro ρ ⟨z8,z9,rfl⟩;have eg:(rwF L λm=>if m<i+(d+1)then aO4 b d i g m else g m)=rwF L (aO4 b d i g):=by
    apply j7
    intro m hm
    by_cases c:m<i+(d+1)
    .rw[aA c]
    .rw[a8 c];unfold aO4 shF;rw[aA ad,ok.beyond _ ad]
     lia
   rw[eg];have en:N-k=i+1:=ad
   have en2:N-(k+1)=i:=ad
   rw[en]at hL hQ;refine⟨_,_,_,_,_,_,rfl,by rw[en2];exact hL,λx hx=> ?_,?_⟩
   .rw[en2,hQ x hx]
    by_cases c:x<i
    .rw[aA c,aA ad]
     show(if x=i then _ else a24 b d i (aO4 b d i g) x)=_
     rw[a8 ad]
    .rw[a8 c]
     by_cases c2:x=i
     .subst c2;rw[aA ad,aA rfl]
      show(if x=x then _ else _)=_
      rw[aA rfl]
     .rw[a8 ad,a8 c2]
   .have:=cG4 hid hb ok.bb;rw[show a+(e+1)*(k+1)=a+(e+1)*k+(e+1)by rw[mul_succ];lia]
    exact this
 .rintro ρ ⟨g,q,z6,z7,z8,z9,rfl,hL,hQ,hb⟩;right;unfold wE;rw[qA]at hL hQ;have hg:g=bD3 b d N f:=hL;have hq: ∀x,x<N->a24 b d N f x=q x:=λx hx=>by rw[hQ x hx,a8 ad]
  left
  refine⟨N,q,rfl,ad,?_⟩
  refine⟨L,g,rfl,ad,?_⟩
  left
  refine⟨ac,?_⟩
  have e3:iX (a24 b d N f) N=iX q N:=bD1 λm hm=>hq m hm
  have e4:rwF (iX q N) (a24 b d N f)=rwF (iX q N) q:=j7 λm hm=>hq m (by have:=a22 q N;lia)
  rw[e3,e4,<-hg]at h;exact h
nonrec def conv (u b:∅):Nat->∅
 | 0,_=>0
 | n+1,m=>conv u b n m+u n*shF b n m
theorem c47 (h:0<n):atI ((rwF n f).map D.int) (-1)=some (.int<|f<|n-1):=by
 unfold L2.atI;have e:ixN ((rwF n f).map D.int).length (-1)=some (n-1):=by
  unfold ixN;rw[b7,a8 ac,aA ad]
  congr 1
  lia
 rw[e];exact fX ad
nonrec def md (p:Int)(f:∅):∅:=λj=>f j%p
nonrec def bW1 (c p:Int):∅
 | 0=>1
 | n+1=>bW1 c p n*c%p
theorem bD4 {c p:Int}(hp:2<=p): ∀n,0<=bW1 c p n/\bW1 c p n<p
 | 0=>⟨by show(0:Int)<=1;lia,by show(1:Int)<p;lia⟩
 | n+1=>⟨cO _ ad,cY _ ad⟩
structure Pr (p:Int):Prop where
 lo:2<=p
 hi:p<200
 inv: ∀c:Int,0<c->c<p->bW1 c p (p.toNat-2)*c%p=1
theorem b26 {b:∅}{d:Nat}: ∀(n:Nat) (f:∅) (x:Nat),n<=x->a24 b d n f x=0
 | 0,_,_,_=>rfl
 | n+1,f,x,h=>by
  show(if x=n then f (n+d)else a24 b d n (aO4 b d n f) x)=0
  rw[a8 ad]
  exact b26 n _ x ad
def iW:Φ:=λds Q=> ∃(n:Nat) (f:∅) (p:Int),ds=[aL<|rwF n f,.int p]/\n<=1000/\0<p/\Q (.pu<|aL<|rwF (iX (md p f) n)<|md p f)
def wR:US:=(dU<|aS a96<|a7 (aS cA<|a7 (eI [1] [none,some 1,none] 2 (fU<|aC 0) (bY 0) (λρ Q=>Q true ρ)<|uOp lL (aC 0)<|aC 1) aM) aM)
theorem dI9 (Q:B->Ev->Prop)(n:Nat)(f:∅)(p:Int)(hn:n<=1000)(hp:0<p)(k:Nat->D)(fS:Ev)(x0:D)(hx:x0=aL (rwF n f)\/x0= .lst ((rwF n f).map .int))(h:Q (.ow<|(rwF n<|md p f).map .int) (some (.pu x0)::some (.pu<|.int p)::fS)) :
  (eI [1] [none,some 1,none] 2 (fU<|aC 0) (bY 0) (λρ Q=>Q true ρ) (uOp lL (aC 0)<|aC 1):UE) (some (.pu x0)::some (.pu<|.int p)::fS) Q:=by
 refine dR (t0:=0) n (λk=>((rwF n f).map D.int).getD k .non) (some (.pu x0)::some (.pu<|.int p)::fS) ?_ ad (λx l=>[x,!p,↑l]) none rfl (λ_ _ _=>rfl) (λ_ _=>cC _) (λ_ _ _ q=>q) (λ_ _ _=>rfl) (λk=> .int (md p f k)) ?_ ?_
 .intro Q' q;rcases hx with rfl|rfl
  .simp only[aL]at q⊢;left;rw[b7];exact q
  .left
   rw[b7];exact q
 .intro k l Q' hk q;rw[j6 hk]at q⊢;left;refine⟨ad,?_⟩
  rw[cU _ hp];exact q
 .rw[mT];exact h
theorem bK4: Ra iW wR ["r","p"]:=by
 rintro ds Q ⟨n,f,p,rfl,hn,hp,h⟩;unfold wR;show(dU _:US) _ [~~~aL (rwF n f),!p];rw[lM,eE,eF,eE,eF];refine dI9 _ n f p hn hp (λ_=> .non) [] _ (.inl rfl) ?_
 left
 exact⟨n,md p f,rfl,hn,h⟩
theorem cG5 (u b:∅)(i N:Nat):(rwF N λm=>if m<i+0 then conv u b (i+1) m else conv u b i m)=rwF N (conv u b i):=by
 apply j7
 intro m hm
 by_cases c:m<i+0
 .rw[aA c];show conv u b i m+u i*shF b i m=_;unfold shF;rw[a8 ad]
  lia
 .rw[a8 c]
theorem cG6 {b:∅}{V N:Nat}(hz: ∀j,V<=j->b j=0):(rwF N λm=>if m<i+V then conv u b (i+1) m else conv u b i m)=rwF N (conv u b (i+1)):=by
 apply j7
 intro m hm
 by_cases c:m<i+V
 .rw[aA c]
 .rw[a8 c];show _=conv u b i m+u i*shF b i m;unfold shF;rw[aA ad,hz _ ad]
  lia
theorem cG7 (u b:∅)(i j N:Nat):(rwF N λx=>if x=i+j then conv u b i (i+j)+u i*b j else if x<i+j then conv u b (i+1) x else conv u b i x)=rwF N λm=>if m<i+(j+1)then conv u b (i+1) m else conv u b i m:=by
 apply j7
 intro m hm
 by_cases c:m=i+j
 .subst c;rw[aA rfl,aA ad]
  show _=conv u b i (i+j)+u i*shF b i (i+j)
  unfold shF;rw[aA ad,show i+j-i=j by lia]
 .rw[a8 c]
  by_cases c3:m<i+j
  .rw[aA c3,aA ad]
  .rw[a8 c3,a8 ad]
theorem md_nat {p:Int}(h1:2<=p)(h2:p<200)(f:∅)(j:Nat):(md p f j).natAbs<=2^8:=by
 unfold md;have a1:=cO (f j) (show p≠0 by lia)
 have a2:=cY (f j) (show 0<p by lia)
 show _<=256
 lia
def wG:Φ:=λds Q=> ∃(n:Nat) (f:∅) (k p:Int),ds=[aL<|rwF n f,.int k,.int p]/\n<=1000/\0<=k/\k<200/\0<p/\Q (.pu<|aL<|rwF (iX (λj=>k*f j%p) n) λj=>k*f j%p)
def a97:US:=(dU<|aS iW<|a7 (aS cA<|a7 (eI [1] [none,some 1,none] 2 (fU<|aC 0) (bY 0) (λρ Q=>Q true ρ)<|uOp dQ (aC 1)<|aC 0) aM)<|a7 (aC 2) aM)
theorem c48: Ra wG a97 ["f","k","p"]:=by
 rintro ds Q ⟨n,f,k,p,rfl,hn,k0,k9,hp,h⟩;unfold a97;show(dU _:US) _ [~~~aL (rwF n f),!k,!p];rw[lM,eE,eF,eE,eF]
 refine dR (t0:=0) n (λi=>((rwF n f).map D.int).getD i .non) [~~~aL (rwF n f),!k,!p] ?_ ad (λx l=>[x,!k,↑l]) none rfl (λ_ _ _=>rfl) (λ_ _=>cC _) (λ_ _ _ q=>q) (λ_ _ _=>rfl) (λi=> .int (k*f i)) ?_ ?_
 .intro Q' q;simp only[aL]at q⊢;left;rw[b7];exact q
 .intro i l Q' hk q;rw[j6 hk]at q⊢;left;exact⟨cmL ad ad,q⟩
 .rw[mT];left;exact⟨n,λi=>k*f i,p,rfl,hn,hp,h⟩
def sJ:Φ:=λds Q=> ∃c p:Int,ds=[.int c,.int p]/\0<=c/\c<p/\2<=p/\p<200/\Q (.pu<|.int<|bW1 c p<|p.toNat-2)
def sK:US:=(aQ (bF 2<|@1)<|aQ (gW (gN<|a7 (uOp M.gSub (aC 1)<|@2) aM) (bY 3)<|bF 2<|uOp lL (uOp dQ (aC 2)<|aC 0)<|aC 1)<|oX 2)
theorem b43: Ra sJ sK ["c","p","v","s"]:=by
 rintro ds Q ⟨c,p,rfl,c0,c1,p2,p9,h⟩;unfold sK;show(aQ _ _:US) _ [!c,!p,none,none];left;refine bE (p.toNat-2) (λk=> .int (0+k)) [!c,!p,!1,none] ?_
  (λk ρ=> ∃z,ρ=[!c,!p,!bW1 c p k,z]) ⟨none,rfl⟩ ?_ ?_
 .intro Q' q;left;refine⟨⟨ad,ad⟩,?_⟩
  rw[show(p-2).toNat=p.toNat-2 by lia]
  exact q
 .rintro k ρ hk ⟨z,rfl⟩;have:=bD4 (c:=c) p2 k;left;refine⟨ae,cmL ad ad,ad,!(0+(k:Int)),?_⟩
  rw[cU _ ad]
  rfl
 .rintro ρ ⟨z,rfl⟩;left;exact h
def sL:Φ:=λds Q=> ∃(n k d:Nat) (f g:∅) (p:Int),ds=[aL<|rwF n f,aL<|rwF k g,.int p]/\n<=50/\k<=50/\Pr p/\(∀j,k<=j->g j=0)/\d<k/\(∀j,d<j->md p g j=0)/\md p g d≠0/\
 ∀t,t*md p g d%p=1->0<=t->t<p->
  let b:=λj=>t*md p g j%p
  let LA:=iX (md p f) n
  let q:=a24 b d (LA-d) (md p f)
  let r:=bD3 b d (LA-d) (md p f)
  Q (.pu<|.tup [aL<|rwF (iX (λj=>t*q j%p)<|iX q<|LA-d) λj=>t*q j%p,aL<|rwF (iX (md p r)<|iX r LA)<|md p r])
def yC:US:=(dU<|gL<|a7 (aS wG<|a7 (aC 5)<|a7 (aC 4)<|a7 (aC 2) aM)<|a7 (aS iW<|a7 (aC 6)<|a7 (aC 2) aM) aM)
def qM:US:=(aQ (cY6 (aS fN<|a7 (aS iW<|a7 (aC 0)<|a7 (aC 2) aM)<|a7 (aS wG<|a7 (aC 3)<|a7 (aC 4)<|a7 (aC 2) aM) aM)<|rN<|eC 5<|eC 6 rM) yC)
def sM:US:=(aQ (bF 3<|aS iW<|a7 (aC 1)<|a7 (aC 2) aM)<|aQ (bF 4<|aS sJ<|a7 (uIx (aW 3)<|kS<|@1)<|a7 (aC 2) aM) qM)
theorem b44: Ra sL sM ["a","b","p","l","t","q","r"]:=by
 rintro ds Q ⟨n,k,d,f,g,p,rfl,hn,hk,pp,gz,dk,dz,d0,h⟩;have p2:=pp.lo;have p9:=pp.hi;unfold sM;show(aQ _ _:US) _ [~~~aL (rwF n f),~~~aL (rwF k g),!p,none,none,none,none];have ed:iX (md p g) k=d+1:=a23 ad (λm m1 m2=>dz m ad) (.inr<|by exists d0)
 have c1:=cO (g d) (show p≠0 by lia)
 have c2:=cY (g d) (show 0<p by lia)
 have c3:0<md p g d:=by
  have:md p g d=g d%p:=rfl
  lia
 have tR:=bD4 (c:=md p g d) p2 (p.toNat-2);have ht:=pp.inv _ c3 c2;generalize et:bW1 (md p g d) p (p.toNat-2)=t at tR ht;have bA: ∀j,0<=t*md p g j%p/\t*md p g j%p<p:=λj=>⟨cO _ ad,cY _ ad⟩
 have hc:iX (λj=>t*md p g j%p) (d+1)=d+1:=a23 (aG _) (λm a b=>ad) (.inr (by
  show t*md p g d%p≠0
  rw[ht];decide))
 have LA9:=a22 (md p f) n;have low:aL (rwF (iX (md p g) k)<|md p g)= .tup ((rwF (d+1)<|md p g).map .int):=by rw[ed];rfl
 left
 refine⟨k,g,p,rfl,ad,ad,?_⟩
 rw[low];left;rw[c47 ad]
 left
 refine⟨md p g d,p,rfl,ad,c2,p2,p9,?_⟩
 rw[et];show qM _ [~~~aL (rwF n f),~~~aL (rwF k g),!p,~~~aL (rwF (d+1) (md p g)),!t,none,none];unfold qM;left;refine⟨n,f,p,rfl,ad,ad,?_⟩
 refine⟨d+1,md p g,t,p,rfl,ad,ad,ad,ad,?_⟩
 rw[hc];refine⟨iX (md p f) n,d,8,8,md p f,λj=>t*md p g j%p,rfl,⟨ad,ad,ht,λj hj=>by
  show t*md p g j%p=0
  rw[dz j hj,kP,zV],λm _=>md_nat p2 p9 f m,λj=>by
   have:=bA j;show(t*md p g j%p).natAbs<=256
   lia,ad,ac⟩,?_⟩
 have hh:=h t ht tR.1 tR.2;have q9:=a22 (a24 (λj=>t*md p g j%p) d (iX (md p f) n-d)<|md p f) (iX (md p f) n-d)
 have r9:=a22 (bD3 (λj=>t*md p g j%p) d (iX (md p f) n-d)<|md p f) (iX (md p f) n)
 simp only[]at hh;left;refine⟨ae,ae,trivial,?_⟩
 unfold yC;left;refine⟨_,_,t,p,rfl,ad,ad,ad,ad,?_⟩
 refine⟨_,_,p,rfl,ad,ad,?_⟩
 left
 exact⟨ac,hh⟩
nonrec def prB (i k:Nat):Bool:=if(2:Int)+(i:Int)=2+(k:Int)then true else not<|decide (((2:Int)+(i:Int))%(2+(k:Int))=0)
nonrec def prC (i:Nat):Bool:=((List.range 13).map<|prB i).all id
nonrec def prL:List Int:=((List.range 198).filter prC).map λi:Nat=>(2:Int)+(i:Int)
theorem c49 {c p:Nat}(hp:2<=p): ∀n,bW1 (c:Int) (p:Int) n=((c^n%p:Nat):Int)
 | 0=>by
  show(1:Int)=_
  rw[Nat.pow_zero,Nat.mod_eq_of_lt ad]
  rfl
 | n+1=>by
  show bW1 (c:Int) (p:Int) n*(c:Int)%(p:Int)=_
  rw[c49 hp n,<-aN4,<-Int.natCast_emod,a00,Nat.mod_mul_mod]
theorem pr_all:prL.all (λp=>decide (2<=p)&&decide (p<200)&&(List.range p.toNat).all λc=>decide (c=0)||decide (c^(p.toNat-2)%p.toNat*c%p.toNat=1))=true:=af
theorem aZ4 {p:Int}(h:p∈prL):Pr p:=by
 have h1:=dD.mp pr_all p h;simp only[cZ,gE,dD,dX,zR]at h1;obtain⟨⟨a,b⟩,c⟩:=h1;refine⟨a,b,λx x0 x1=> ?_⟩
 obtain⟨q,rfl⟩: ∃q:Nat,p=(q:Int):=⟨p.toNat,ad⟩
 obtain⟨y,rfl⟩: ∃y:Nat,x=(y:Int):=⟨x.toNat,ad⟩
 have h2:=c y ad
 rw[bW]at h2⊢;rw[c49 ad,<-aN4,<-Int.natCast_emod]
 rcases h2 with h2|h2
 .lia
 .rw[h2];rfl
nonrec def T_SMALL_PRIMES:List Int:=[2,3,5,7,11,13,17,19,23,29,31,37,41,43,47,53,59,61,67,71,73,79,83,89,97,101,103,107,109,113,127,131,137,139,149,151,157,163,167,173,179,181,191,193,197,199]
theorem tp_ok: ∀p∈T_SMALL_PRIMES,2<=p/\p<200:=af
theorem bW2:T_SMALL_PRIMES.length=46:=rfl
def kG:Φ:=λds Q=>ds=[]/\Q (.ow<|T_SMALL_PRIMES.map .int)
def oG:US:=(dU<|aS aR9<|a7 (uC<|.tup<|T_SMALL_PRIMES.map .int) aM)
theorem aT4: Ra kG oG []:=by
 rintro ds Q ⟨rfl,h⟩;unfold oG;show(dU _:US) _ [];left;exact h
theorem d52:prL=T_SMALL_PRIMES:=af
nonrec def ps (f:∅)(z:Int):∅
 | 0=>0
 | n+1=>ps f z n+f n*z^n
nonrec def hor (f:∅)(n:Nat)(z:Int):∅
 | 0=>0
 | k+1=>hor f n z k*z+f (n-1-k)
theorem d53 (f:∅)(n:Nat)(z:Int): ∀k,k<=n->hor f n z k*z^(n-k)+ps f z (n-k)=ps f z n
 | 0,_=>by show(0:Int)*_+_=_;rw[a01,dM];rfl
 | k+1,h=>by
  have ih:=d53 f n z k ad
  obtain⟨m,hm⟩: ∃m,n-k=m+1:=⟨n-k-1,ad⟩
  have e1:n-(k+1)=m:=ad
  have e2:n-1-k=m:=ad
  rw[hm]at ih;show(hor f n z k*z+f (n-1-k))*z^(n-(k+1))+ps f z (n-(k+1))=_;rw[e1,e2,<-ih];show _=hor f n z k*z^(m+1)+(ps f z m+f m*z^m);rw[Int.pow_succ,Int.add_mul];have e3:hor f n z k*z*z^m=hor f n z k*(z^m*z):=by rw[Int.mul_assoc,uD z]
  lia
theorem bW3 (f:∅)(n:Nat)(z:Int):hor f n z n=ps f z n:=by
 have:=d53 f n z n (aG _);rw[qA]at this;have e:hor f n z n*z^0+ps f z 0=hor f n z n:=by
  show hor f n z n*z^0+0=_
  rw[pow_zero,uE,zZ]
 lia
theorem aF2 {f:∅}{n a b:Nat}{z:Int}(hf: ∀j,(f j).natAbs<=2^a)(hz:z.natAbs<=2^b): ∀k,(hor f n z k).natAbs<=2^(a+(b+1)*k)
 | 0=>by simp[hor]
 | k+1=>by
  show(hor f n z k*z+f (n-1-k)).natAbs<=_
  have ih:=aF2 (n:=n) hf hz k;have h1:(hor f n z k*z).natAbs<=2^(a+(b+1)*k)*2^b:=by rw[eK];exact gG ih hz
  have h2:=hf (n-1-k);have h3:=zH (hor f n z k*z) (f<|n-1-k);have e1:2^(a+(b+1)*(k+1))=2^(a+(b+1)*k)*2^b+2^(a+(b+1)*k)*2^b:=by
   rw[mul_succ,<-zU,<-zU,a00,iV 2 (a+(b+1)*k) b];lia
  have h4:2^a<=2^(a+(b+1)*k)*2^b:=by
   rw[<-iV];exact fL ac ad
  lia
theorem d54 {a b:Nat}(hf: ∀j,(f j).natAbs<=2^a)(hz:z.natAbs<=2^b):(ps f z n).natAbs<=2^(a+(b+1)*n):=by
 rw[<-bW3];exact aF2 hf hz n
structure d55 (n a b:Nat)(f:∅)(z:Int):Prop where
 fb: ∀j,(f j).natAbs<=2^a
 zb:z.natAbs<=2^b
 room:a+(b+1)*n<8000
 b8:b<8000
 n9:n<=200
def tJ:Φ:=λds Q=> ∃(n a b:Nat) (f:∅) (z:Int),ds=[aL<|rwF n f,.int z]/\d55 n a b f z/\Q (.pu<|.int<|ps f z n)
def a25:US:=(aQ (bF 2<|@0)<|aQ (gW (cL0<|a7 (aC 0) aM) (bY 3)<|bF 2<|uOp fE (uOp dQ (aC 2)<|aC 1)<|aC 3)<|oX 2)
theorem bW4: Ra tJ a25 ["f","z","v","c"]:=by
 rintro ds Q ⟨n,a,b,f,z,rfl,ok,h⟩;unfold a25;simp only[aL];show(aQ _ _:US) _ [~~~.tup ((rwF n f).map .int),!z,none,none];left;refine bE n (λk=>((rwF n f).map D.int).getD (n-1-k) .non) [~~~.tup ((rwF n f).map .int),!z,!0,none] ?_
  (λk ρ=> ∃c,ρ=[~~~.tup ((rwF n f).map .int),!z,!hor f n z k,c]) ⟨none,rfl⟩ ?_ ?_
 .intro Q' q;left;rw[b7];exact q
 .rintro k ρ hk ⟨c,rfl⟩;rw[j6 aa]
  left
  have room:=ok.room;have:(b+1)*k<=(b+1)*n:=u7 _ aa
  exact⟨ae,.inr ⟨Sm.pow (aF2 ok.fb ok.zb k) aa,Sm.pow ok.zb (by have:=ok.b8;omega)⟩,_,rfl⟩
 .rintro ρ ⟨c,rfl⟩;left;rw[bW3];exact h
theorem dJ0 (f g:∅)(n m:Nat):shF (λj=>f j+g j) n m=shF f n m+shF g n m:=by
 unfold shF;right;split<;>lia
theorem bP9 (u f g:∅)(m:Nat): ∀n,conv u (λj=>f j+g j) n m=conv u f n m+conv u g n m
 | 0=>rfl
 | n+1=>by
  show conv u (λj=>f j+g j) n m+u n*shF (λj=>f j+g j) n m=conv u f n m+u n*shF f n m+(conv u g n m+u n*shF g n m)
  rw[bP9 u f g m n,dJ0,Int.mul_add]
  lia
theorem c50 (c:Int)(k:Nat)(hu: ∀j,n<=j->u j=0)(m:Nat):conv u (λj=>if j=k then c else 0) n m=c*shF u k m:=by
 have e: ∀n,conv u (λj=>if j=k then c else 0) n m=if k<=m/\m-k<n then c*u (m-k)else 0:=by
  intro n
  induction n with
  | zero=>rw[a8 aa];rfl
  | succ n ih=>
   show conv u (λj=>if j=k then c else 0) n m+u n*shF (λj=>if j=k then c else 0) n m=_
   have sh:shF (λj=>if j=k then c else 0) n m=if n<=m/\m-n=k then c else 0:=by
    unfold shF;right
    by_cases h3:n<=m
    .rw[aA h3]
     by_cases h4:m-n=k
     .rw[aA h4,aA ⟨h3,h4⟩]
     .rw[a8 h4,a8 λz=>h4 z.2]
    .rw[a8 h3,a8 λz=>h3 z.1]
   rw[ih,sh]
   by_cases h1:k<=m/\m-k<n
   .rw[aA h1,a8<|show ¬(n<=m/\m-n=k)by omega,aA<|show k<=m/\m-k<n+1 by omega,kP,zZ]
   .rw[a8 h1]
    by_cases h2:k<=m/\m-k=n
    .rw[aA<|show n<=m/\m-n=k by omega,aA<|show k<=m/\m-k<n+1 by omega,h2.2,dM,uD]
    .rw[a8<|show ¬(n<=m/\m-n=k)by omega,a8<|show ¬(k<=m/\m-k<n+1)by omega,kP]
     rfl
 rw[e n];unfold shF
 by_cases h1:k<=m
 .rw[aA h1]
  by_cases h2:m-k<n
  .rw[aA ⟨h1,h2⟩]
  .rw[a8 aa,hu _ aa,kP]
 .rw[a8 h1,a8 aa,kP]
theorem cR7 {b:∅}{U V:Nat}(hu: ∀j,U<=j->u j=0)(hb: ∀j,V<=j->b j=0)(m:Nat):conv u b U m=conv b u V m:=by
 have e: ∀n,conv u b n m=conv b (λj=>if j<n then u j else 0) V m:=by
  intro n
  induction n with
  | zero=>
   have:(λj=>if j<0 then u j else 0)=λj=>if j=0 then(0:Int)else 0:=funext λj=>ae
   rw[this,c50 0 0 hb,a01];rfl
  | succ n ih=>
   have:(λj=>if j<n+1 then u j else 0)=λj=>(if j<n then u j else 0)+(if j=n then u n else 0):=funext λj=>by
    by_cases h1:j<n
    .rw[aA ad,aA h1,a8 ad,zZ]
    .by_cases h2:j=n
     .subst h2;rw[aA ad,a8 h1,aA rfl,dM]
     .rw[a8 ad,a8 h1,a8 h2];rfl
   rw[this,bP9 b (λj=>if j<n then u j else 0) λj=>if j=n then u n else 0,c50 _ _ hb,<-ih]
   rfl
 rw[e U]
 congr 1
 funext j
 by_cases h:j<U
 .rw[aA h]
 .rw[a8 h,hu j ad]
structure MP (p:Int)(n:Nat)(f:∅):Prop where
 top:f n=1
 hi: ∀j,n<j->f j=0
 rng: ∀j,0<=f j/\f j<p
nonrec def bW5:Nat×∅:=(0,λj=>if j=0 then 1 else 0)
theorem MP.one {p:Int}(hp:2<=p):MP p bW5.1 bW5.2:=⟨rfl,λj hj=>a8 (by have:0<j:=hj;lia),λj=>by show 0<=(if j=0 then(1:Int)else 0)/\(if j=0 then(1:Int)else 0)<p;split<;>lia⟩
nonrec def bD5 (c:Int):Nat×∅:=(1,λj=>if j=0 then c else if j=1 then 1 else 0)
theorem MP.lin {p:Int}(hp:2<=p)(h0:0<=c)(h1:c<p):MP p (bD5 c).1 (bD5 c).2:=⟨rfl,λj hj=>by
  have:1<j:=hj;show(if j=0 then c else if j=1 then 1 else 0)=0;rw[a8 ad,a8 ad],λj=>by
  show 0<=(if j=0 then c else if j=1 then 1 else 0)/\(if j=0 then c else if j=1 then 1 else 0)<p
  split
  .lia
  .split<;>lia⟩
nonrec def hqA (c:Int)(f:∅)(n:Nat):∅
 | 0=>f n
 | k+1=>f (n-1-k)-c*hqA c f n k
nonrec def hq (c:Int)(f:∅)(n:Nat):∅:=λj=>if j<n then hqA c f n (n-1-j)else 0
nonrec def a98 (x:(Nat×∅)×Nat):D:= .tup [aL<|rwF (x.1.1+1) x.1.2,.int (x.2:Int)]
structure Pt (p:Int)(n:Nat)(x:(Nat×∅)×Nat):Prop where
 mp:MP p x.1.1 x.1.2
 lo:1<=x.1.1
 on:1<=x.2
 dg:x.1.1*x.2<=n
theorem Pt.le {p:Int}{x:(Nat×∅)×Nat}(h:Pt p n x):x.1.1<=n:=aK (aK1 _ h.on) h.dg
def uX:Φ:=λds Q=> ∃(n:Nat) (f:∅) (p:Int),ds=[aL<|rwF (n+1) f,.int p]/\n<=40/\Pr p/\MP p n f/\ ∀(xs:List ((Nat×∅)×Nat)) (L:Nat×∅),(∀x∈xs,Pt p n x)->xs.length<=p.toNat->MP p L.1 L.2->L.1<=n->Q (.pu<|.tup [.lst<|xs.map a98,aL<|rwF (L.1+1) L.2])
def a60:US:=(dU<|gL<|a7 (aC 2)<|a7 (aC 3) aM)
def a61:US:=(aQ (gW (gN<|a7 (aC 1) aM) (bY 4)<|aQ (bF 5<|@0)<|aQ (aX6 (dJ<|uOp (gP false) (uOp lL (aS tJ<|a7 (aC 3)<|a7 (kS<|aC 4) aM)<|aC 1)<|@0)<|aQ (bF 3<|uIx (uV<|aS sL<|a7 (aC 3)<|a7 (gL<|a7 (aC 4)<|a7 @1 aM)<|a7 (aC 1) aM)<|@0)<|c17 5 (gI2 λi j Q=>Q (.pu<|.int<|i+j))<|@1)<|fH (dJ<|uOp (w6 λi j=>decide (j<i)) (aC 5)<|@0) (aN7 2<|gL<|a7 (gL<|a7 (aC 4)<|a7 @1 aM)<|a7 (aC 5) aM) cW) a60)
def a62:US:=(aQ (bF 3<|aC 0) a61)
def uY:US:=(aQ (bF 2<|fT aM) a62)
theorem d56 {p:Int}(pp:Pr p){L:Nat×∅}(mp:MP p L.1 L.2)(hz:ps L.2 (-c) (L.1+1)%p=0){t:Int}(ht:t*md p (bD5 c).2 1%p=1)(t0:0<=t)(t1:t<p) :
  1<=L.1/\ ∃u:∅,MP p (L.1-1) u/\
   (let b:=λj=>t*md p (bD5 c).2 j%p
    let LA:=iX (md p L.2) (L.1+1)
    let q:=a24 b 1 (LA-1) (md p L.2)
    rwF (iX (λj=>t*q j%p)<|iX q<|LA-1) (λj=>t*q j%p)=rwF L.1 u):=by
 have p2:=pp.lo;have mt:md p L.2 L.1=1:=by
  show L.2 L.1%p=1
  rw[mp.top];exact nA ac ad
 have l1:1<=L.1:=by
  refine Nat.pos_of_ne_zero λz=> ?_
  rw[z]at hz;have e:ps L.2 (-c) (0+1)=L.2 0*(-c)^0:=by show 0+L.2 0*(-c)^0=_;lia
  have e2:L.2 0=1:=by have:=mp.top;rw[z]at this;exact this
  rw[e,e2,pow_zero,uE,nA ac ad]at hz
  cases hz
 have te:t=1:=by
  have e:md p (bD5 c).2 1=1:=by
   show(1:Int)%p=1
   exact nA ac ad
  rw[e,uE,nA t0 t1]at ht;exact ht
 have eLA:iX (md p L.2) (L.1+1)=L.1+1:=a23 (aG _) (λm h1 h2=>ad) (.inr (by rw[aM3,mt];decide))
 right;rw[eLA,aM3];generalize hb:(λj=>t*md p (bD5 c).2 j%p)=b
 obtain⟨m,hm⟩: ∃m,L.1=m+1:=⟨L.1-1,ad⟩
 have qt:a24 b 1 L.1 (md p L.2) (L.1-1)=1:=by
  rw[hm]at mt⊢;show(if m+1-1=m then md p L.2 (m+1)else _)=1;rw[aA ad,mt]
 have qb:=λx=>b26 (b:=b) (d:=1) L.1 (md p L.2) x
 generalize a24 b 1 L.1 (md p L.2)=q at *;have ut:t*q (L.1-1)%p=1:=by rw[te,qt];exact nA ac ad
 refine⟨l1,λj=>t*q j%p,⟨ut,λj hj=>by rw[qb j ad,kP,zV],λj=>⟨cO _ ad,cY _ ad⟩⟩,?_⟩
 rw[a23 (k:=L.1) (f:=q) (aG _) (λm h1 h2=>ad)<|.inr (by rw[qt];decide),a23 (k:=L.1) (aG _) (λm h1 h2=>ad)<|.inr (by rw[ut];decide)]
theorem d57 {p:Int}(pp:Pr p)(h:MP p n f)(j:Nat):(f j).natAbs<=2^8:=by
 have h1:=h.rng j;have h2:=pp.hi;have:(2:Nat)^8=256:=rfl
 lia
theorem bD6: Ra uX uY ["f","p","a","l","c","o"]:=by
 rintro ds Q ⟨n,f,p,rfl,n4,pp,mp,h⟩;have p2:=pp.lo;have p3:=pp.hi;unfold uY;show(aQ _ _:US) _ [~~~aL (rwF (n+1) f),!p,none,none,none,none];rw[aN];left;refine⟨ac,?_⟩
 unfold a62;rw[aN];left;unfold a61;rw[aN];refine bE p.toNat (λi=> .int (0+i)) [~~~aL (rwF (n+1) f),!p,↑[],~~~aL (rwF (n+1) f),none,none] ?_
  (λi ρ=> ∃(xs:List ((Nat×∅)×Nat)) (L:Nat×∅) (x y:Option B),ρ=[~~~aL (rwF (n+1) f),!p,↑(xs.map a98),~~~aL (rwF (L.1+1) L.2),x,y]/\(∀x∈xs,Pt p n x)/\xs.length<=i/\MP p L.1 L.2/\L.1<=n)
  ⟨[],(n,f),none,none,rfl,ae,eW _,mp,aG _⟩ ?_ ?_
 .intro Q' q;left;refine⟨⟨ad,ad⟩,?_⟩
  exact q
 .rintro i ρ hi ⟨xs,L,x,y,rfl,hx,hl,mL,Ln⟩;have mlin:=MP.lin p2 (c:=(i:Int)) ad ad
  rw[dM];left;refine⟨ae,?_⟩
  refine⟨λk ρ=> ∃(o:Nat) (L':Nat×∅),ρ=[~~~aL (rwF (n+1) f),!p,↑(xs.map a98),~~~aL (rwF (L'.1+1) L'.2),!(i:Int),!(o:Int)]/\k=L'.1/\L'.1+o<=n/\MP p L'.1 L'.2,⟨L.1,0,L,rfl,rfl,Ln,mL⟩,?_⟩
  rintro k ρ ⟨o,L',rfl,rfl,hL',mp'⟩;left;refine⟨L'.1+1,8,8,L'.2,-(i:Int),rfl,⟨d57 pp mp',by have:(2:Nat)^8=256:=rfl;lia,ad,ac,ad⟩,?_⟩
  left
  refine⟨ad,?_⟩
  rw[cU _ ad]
  by_cases c:ps L'.2 (-(i:Int)) (L'.1+1)%p=0
  .rw[aA c];refine⟨ac,L'.1+1,2,1,L'.2,(bD5 (i:Int)).2,p,rfl,ad,ac,pp,λj hj=>mlin.hi j hj,ac,λj hj=>by show(bD5 (i:Int)).2 j%p=0;rw[mlin.hi j hj,zV],by show(1:Int)%p≠0;rw[nA ac ad];decide,λt ht t0 t1=> ?_⟩
   obtain⟨l1,u,mu,er⟩:=d56 pp mp' c ht t0 t1;dsimp only at er⊢;rw[er,aS6];right;have eL:rwF L'.1 u=rwF (L'.1-1+1) u:=by rw[show L'.1-1+1=L'.1 by lia]
   rw[eL];exact⟨L'.1-1,ad,o+1,(L'.1-1,u),by rw[Int.natCast_succ],rfl,by show L'.1-1+(o+1)<=n;lia,mu⟩
  .rw[a8 c]
   by_cases c2:(0:Int)< (o:Int)
   .rw[aA c2];refine⟨ac,ac,?_,xs++[(bD5 (i:Int),o)],L',_,_,by rw[cH];rfl,λz hz=> ?_,?_,mp',ad⟩
    .rw[aJ];exact pP hl (b9 hi<|aK (show p.toNat<=200 by lia) ac)
    .rcases d4.mp hz with hz|hz
     .exact hx z hz
     .rw[jM.mp hz];exact⟨mlin,aG _,show 1<=o by lia,show 1*o<=n by lia⟩
    .rw[bO];exact Nat.succ_le_succ hl
   .rw[a8 c2];exact⟨xs,L',_,_,rfl,hx,aM7 hl,mp',ad⟩
 .rintro ρ ⟨xs,L,x,y,rfl,hx,hl,mL,Ln⟩;right;unfold a60;left;exact⟨ac,h xs L hx hl mL Ln⟩
nonrec def quF (v u:Int):Nat×∅:=(2,λj=>if j=0 then v else if j=1 then u else if j=2 then 1 else 0)
theorem MP.qu {p v u:Int}(hp:2<=p)(v0:0<=v)(v1:v<p)(u0:0<=u)(u1:u<p):MP p (quF v u).1 (quF v u).2:=⟨rfl,λj hj=>by
  have:2<j:=hj;show(if j=0 then v else if j=1 then u else if j=2 then 1 else 0)=0;rw[a8 ad,a8 ad,a8 ad],λj=>by
  show 0<=(if j=0 then v else if j=1 then u else if j=2 then 1 else 0)/\(if j=0 then v else if j=1 then u else if j=2 then 1 else 0)<p
  split
  .lia
  .split
   .lia
   .split<;>lia⟩
def sN:Φ:=λds Q=> ∃(f:∅) (p:Int),ds=[aL<|rwF 5 f,.int p]/\Pr p/\MP p 4 f/\
 (∀v u w s:Int,0<=v->v<p->0<=u->u<p->0<=w->w<p->0<=s->s<p->Q (.ow [aL [v,u,1],aL [w,s,1]]))/\Q (.ow [])
def yD:US:=(dU<|fT aM)
def sO:US:=(aQ (gW (gN<|a7 (aC 1) aM) (bY 2)<|aQ (bF 3<|uOp lL (uOp M.gSub (uIx (aW 0)<|@3)<|aC 2)<|aC 1)<|aQ (bF 4<|uOp M.gSub (uIx (aW 0)<|@2)<|uOp dQ (aC 2)<|aC 3)<|gW (gN<|a7 (aC 1) aM) (bY 5)<|aQ (bF 6<|uOp lL (uOp M.gSub (aC 4)<|aC 5)<|aC 1)<|fH (cD1 (dJ<|uOp (gP false) (uOp lL (uOp dQ (aC 5)<|aC 6)<|aC 1)<|uIx (aW 0)<|@0)<|dJ<|uOp (gP false) (uOp lL (uOp fE (uOp dQ (aC 2)<|aC 6)<|uOp dQ (aC 5)<|aC 3)<|aC 1)<|uIx (aW 0)<|@1) (dU<|fT<|a7 (gL<|a7 (aC 5)<|a7 (aC 2)<|a7 @1 aM)<|a7 (gL<|a7 (aC 6)<|a7 (aC 3)<|a7 @1 aM) aM) cW) yD)
theorem b45: Ra sN sO ["f","p","u","s","t","v","w"]:=by
 rintro ds Q ⟨f,p,rfl,pp,mp,yes,no⟩;have p2:=pp.lo;have p3:=pp.hi;have a0:atI ((rwF 5 f).map D.int) 0=some (.int<|f 0):=kA (i:=0) ac
 have a1:atI ((rwF 5 f).map D.int) 1=some (.int<|f 1):=kA (i:=1) ac
 have a2:atI ((rwF 5 f).map D.int) 2=some (.int<|f 2):=kA (i:=2) ac
 have a3:atI ((rwF 5 f).map D.int) 3=some (.int<|f 3):=kA (i:=3) ac
 unfold sO;simp only[aL];show(aQ _ _:US) _ [~~~.tup ((rwF 5 f).map .int),!p,none,none,none,none,none];rw[aN];refine bE p.toNat (λi=> .int (0+i)) [~~~.tup ((rwF 5 f).map .int),!p,none,none,none,none,none] ?_
  (λi ρ=> ∃x y z a b,ρ=[~~~.tup ((rwF 5 f).map .int),!p,x,y,z,a,b])
  ⟨none,none,none,none,none,rfl⟩ ?_ ?_
 .intro Q' q;left;refine⟨⟨ad,ad⟩,?_⟩
  exact q
 .rintro i ρ hi ⟨x,y,z,a,b,rfl⟩;rw[dM];left;rw[a3];right;refine⟨ae,ad,?_⟩
  rw[cU _ ad,a2]
  right;have s0:=cO (f 3-(i:Int)) (show p≠0 by lia)
  have s1:=cY (f 3-(i:Int)) (show 0<p by lia)
  generalize hS:(f 3-(i:Int))%p=S at *;refine⟨cmL ad ad,?_⟩
  refine bE p.toNat (λi=> .int (0+i)) [~~~.tup ((rwF 5 f).map .int),!p,!(i:Int),!S,!(f 2-(i:Int)*S),a,b] ?_
   (λj ρ=> ∃a b,ρ=[~~~.tup ((rwF 5 f).map .int),!p,!(i:Int),!S,!(f 2-(i:Int)*S),a,b])
   ⟨a,b,rfl⟩ ?_ ?_
  .intro Q' q;left;refine⟨⟨ad,ad⟩,?_⟩
   exact q
  .rintro j ρ hj ⟨a,b,rfl⟩;rw[dM];left;refine⟨ae,ad,?_⟩
   rw[cU _ ad]
   have w0:=cO (f 2-(i:Int)*S-(j:Int)) (show p≠0 by lia)
   have w1:=cY (f 2-(i:Int)*S-(j:Int)) (show 0<p by lia)
   generalize hW:(f 2-(i:Int)*S-(j:Int))%p=W at *;refine⟨cmL ad ad,ad,?_⟩
   rw[cU _ ad,a0]
   right
   by_cases c1:(j:Int)*W%p=f 0
   .rw[aA c1];refine⟨cmL ad ad,cmL ad ad,ad,?_⟩
    rw[cU _ ad,a1]
    right
    by_cases c2:((i:Int)*W+(j:Int)*S)%p=f 1
    .rw[aA c2];refine⟨ac,ac,ac,yes (j:Int) (i:Int) W S ad ad ad ad w0 w1 s0 s1⟩
    .rw[a8 c2];exact⟨_,_,rfl⟩
   .rw[a8 c1];exact⟨_,_,rfl⟩
  .rintro ρ ⟨a,b,rfl⟩;exact⟨_,_,_,_,_,rfl⟩
 .rintro ρ ⟨x,y,z,a,b,rfl⟩;right;unfold yD;left;exact⟨ac,no⟩
theorem at0 {a b:D}:atI [a,b] 0=some a:=cB (j:=0) rfl
theorem at1 {a b:D}:atI [a,b] 1=some b:=cB (j:=1) rfl
def mG:Φ:=λds Q=> ∃(n m:Nat) (f:∅) (p:Int),ds=[aL<|rwF (n+1) f,.int p]/\n<=4/\n<=m/\Pr p/\MP p n f/\ ∀rs:List ((Nat×∅)×Nat),(∀x∈rs,Pt p m x)->rs.length<=2->Q (.ow<|rs.map a98)
def rV:US:=(dU<|eI [] [none,none] 1 (fU<|aS cE9<|a7 (aC 2) aM) (bY 0) (λρ Q=>Q true ρ)<|gL<|a7 (aC 0)<|a7 @1 aM)
def rW:US:=(aQ (fH (dJ<|uOp (dF7 false) (uIx (aW 2)<|@0)<|uIx (aW 2)<|@1) (dU<|fT<|a7 (gL<|a7 (uIx (aW 2)<|@0)<|a7 @2 aM) aM) cW) rV)
def iN:US:=(aQ (fH (dJ<|uOp (gP false) (kT<|aW 2)<|@0) (dU<|fT<|a7 (gL<|a7 (aC 0)<|a7 @1 aM) aM) cW) rW)
def rX:US:=(aQ (bF 2<|uIf (dJ<|uOp (gP false) (kT<|aW 0)<|@5) (aS sN<|a7 (aC 0)<|a7 (aC 1) aM)<|fT aM) iN)
def mH:US:=(aQ (fH (dJ<|uOp (gP false) (kT<|aW 0)<|@1) (dU<|fT aM) cW) rX)
theorem aG6: Ra mG mH ["f","p","a"]:=by
 rintro ds Q ⟨n,m,f,p,rfl,n4,nm,pp,mp,h⟩;have p2:=pp.lo;unfold mH;simp only[aL];show(aQ _ _:US) _ [~~~.tup ((rwF (n+1) f).map .int),!p,none];rw[aN];left;rw[b7]
 by_cases n0:n=0
 .rw[aA ad]
  exact⟨ac,h [] ae ac⟩
 rw[a8 ad]
 have alone:iN {Q with} [~~~.tup ((rwF (n+1) f).map .int),!p,↑[]]:=by
  unfold iN;rw[aN];left;rw[aA<|by rfl]
  refine⟨ac,ac,h [((n,f),1)] (λx hx=> ?_)<|show 1<=2 by decide⟩
  rw[jM.mp hx];exact⟨mp,show 1<=n by lia,aG _,show n*1<=m by lia⟩
 unfold rX;rw[aN];left;simp only[uIf,kT,aW,c14,uC,isB,B.d,oY,gP,u5,b7]
 by_cases c:n=4
 .subst c;rw[aA<|by rfl]
  refine⟨f,p,rfl,pp,mp,λv u w s v0 v1 u0 u1 w0 w1 s0 s1=> ?_,?_⟩
  .have m1:=MP.qu p2 v0 v1 u0 u1;have m2:=MP.qu p2 w0 w1 s0 s1;right;simp only[aL];unfold iN;rw[aN];left;rw[a8 ac]
   unfold rW;rw[aN];left;rw[at0,at1];right;refine c45 ?_
   by_cases c:[v,u,(1:Int)]=[w,s,1]
   .rw[nG c];right;rw[aA ac]
    refine⟨ac,ac,h [(quF v u,2)] (λx hx=> ?_)<|show 1<=2 by decide⟩
    rw[jM.mp hx];exact⟨m1,show 1<=2 by decide,show 1<=2 by decide,show 2*2<=m by lia⟩
   .rw[fM c];right;rw[a8 ac]
    unfold rV;rw[lM];have fin2: ∀(v u w s:Int),MP p (quF v u).1 (quF v u).2->MP p (quF w s).1 (quF w s).2->Q (.ow [.tup [.tup<|[v,u,1].map D.int,.int 1],.tup [.tup<|[w,s,1].map D.int,.int 1]]):=λv u w s m1 m2=>by
     refine h [(quF v u,1),(quF w s,1)] (λx hx=> ?_) (aG _)
     rcases aZ.mp hx with rfl|hx
     .exact⟨m1,show 1<=2 by decide,aG _,show 2*1<=m by lia⟩
     .rw[jM.mp hx];exact⟨m2,show 1<=2 by decide,aG _,show 2*1<=m by lia⟩
    refine dR (t0:=0) 2 (λk=>(if ltL [w,s,1] [v,u,1]=true then [D.tup<|[w,s,1].map D.int,.tup<|[v,u,1].map D.int]else [.tup<|[v,u,1].map D.int,.tup<|[w,s,1].map D.int]).getD k .non) [~~~.tup ((rwF (4+1) f).map .int),!p,~~~.lst [.tup<|[v,u,1].map D.int,.tup<|[w,s,1].map D.int]] ?_ ac (λx l'=>[x,↑l']) none rfl (λ_ _ _=>rfl) (λ_ _=>cC _) (λ_ _ _ q=>q) (λ_ _ _=>rfl)
     (λk=> .tup [(if ltL [w,s,1] [v,u,1]=true then [D.tup<|[w,s,1].map D.int,.tup<|[v,u,1].map D.int]else [.tup<|[v,u,1].map D.int,.tup<|[w,s,1].map D.int]).getD k .non,.int 1]) ?_ ?_
    .intro Q' q;left;refine⟨v,w,[u,1],[s,1],rfl,?_⟩;cases l:ltL [w,s,1] [v,u,1]
     .rw[l]at q;exact q
     .rw[l]at q;exact q
    .intro k l' Q' hk q;left;exact⟨ac,q⟩
    .cases l:ltL [w,s,1] [v,u,1]
     .exact fin2 v u w s m1 m2
     .exact fin2 w s v u m2 m1
  .exact alone
 .rw[a8 (by simp;lia)]
  refine⟨ac,?_⟩
  exact alone
structure SP (p:Int)(n:Nat)(xs:List ((Nat×∅)×Nat)):Prop where
 mem: ∀x∈xs,Pt p n x
 len:xs.length<=300
def wS:Φ:=λds Q=> ∃(n:Nat) (g:∅) (p:Int),ds=[aL<|rwF (n+1) g,.int p]/\n<=4/\p∈prL/\MP p n (md p g)/\ ∀xs,SP p n xs->Q (.ow<|xs.map a98)
def a99:US:=(dU<|uOp fE (aC 2)<|aS mG<|a7 (aC 3)<|a7 (aC 1) aM)
def aA0:US:=(aQ (cY6 (aS uX<|a7 (aS iW<|a7 (aC 0)<|a7 (aC 1) aM)<|a7 (aC 1) aM)<|rN<|eC 2<|eC 3 rM) a99)
def wT:US:=(aQ (fH (dJ<|uOp (gIn true) (aC 1)<|aS kG aM) (λ_ _=>False) cW) aA0)
theorem bK5: Ra wS wT ["f","p","a","l"]:=by
 rintro ds Q ⟨n,g,p,rfl,n4,hp,mp,h⟩;have pp:=aZ4 hp;have p2:=pp.lo;unfold wT;show(aQ _ _:US) _ [~~~aL (rwF (n+1) g),!p,none,none];rw[aN];left;refine⟨rfl,p,T_SMALL_PRIMES,rfl,.inr<|.inl rfl,?_⟩;rw[nG (show p∈T_SMALL_PRIMES by rw[<-d52];exact hp)]
 right;rw[a8 ac]
 unfold aA0;rw[aN];left;refine⟨n+1,g,p,rfl,ad,ad,?_⟩
 left
 have e:iX (md p g) (n+1)=n+1:=a23 (aG _) (λm h1 h2=>ad) (.inr (by rw[aM3,mp.top];decide))
 rw[e];refine⟨n,md p g,p,rfl,ad,pp,mp,λxs L hx hl mL hL=> ?_⟩
 left
 refine⟨ac,ac,trivial,?_⟩
 unfold a99;rw[lM,aZ0];left;refine⟨L.1,n,L.2,p,rfl,ad,hL,pp,mL,λrs hr rl=> ?_⟩
 have p3:=pp.hi;have e2:xs.map a98++rs.map a98=(xs++rs).map a98:=cH.symm;have sl:(xs++rs).length<=300:=by rw[bO];lia
 left
 rw[e2];refine⟨?_,h _ ⟨λx hx'=> ?_,sl⟩⟩
 .rw[<-bO,e2,aJ];exact aK sl ac
 .rcases d4.mp hx' with z|z
  .exact hx x z
  .exact hr x z
theorem c51 {t1:Nat}(n:Nat)(it i1 i2:Nat->D)(hit: ∀i,i<n->it i= .tup [i1 i,i2 i])(ρ1:Ev)(hui: ∀Q:Nat->(Nat->D)->Ev->Prop,Q n it ρ1->ui ρ Q)(hn:n<=1000000)
  (G:Option B->Option B->List D->Ev) (x0 y0:Option B) (h0:rO (a07 ρ1 js) cap last=G x0 y0 []) (h1: ∀x y l b c,((G x y l).set t0<|some b).set t1 (some c)=G (some b) (some c) l) (h1': ∀x y l,t0< (G x y l).length/\t1< (G x y l).length)
  (h2: ∀x y l (Q:List D->Prop),Q l->mM (G x y l) last Q) (h3: ∀x y l l',(G x y l).set last (↑l')=G x y l')
  (f:Nat->D) (hte: ∀i l (Q':B->Ev->Prop),i<n->Q' (.pu<|f i) (G (~~~i1 i) (~~~i2 i) l)->te (G (~~~i1 i) (~~~i2 i) l) Q') (hq:Q (.ow<|(List.range n).map f) (a07 ρ1 js)) :
  eI js cap last ui (rN<|eC t0<|eC t1 rM) (λρ Q=>Q true ρ) te ρ Q:=by
 refine hui _ ⟨λi ρ'=> ∃x y,ρ'=G x y ((List.range i).map f),⟨x0,y0,h0⟩,?_,?_⟩
 .rintro i ρ' hi ⟨x,y,rfl⟩;rw[hit i hi];refine⟨(h1' _ _ _).1,by rw[dL];exact(h1' _ _ _).2,rfl,?_⟩
  rw[h1];right;rw[aA rfl];refine hte i _ _ hi (h2 _ _ _ _ ⟨?_,~~~i1 i,~~~i2 i,?_⟩)
  .rw[aJ,kL];exact b9 hi (aK hn ac)
  .rw[h3,cI,cH];rfl
 .rintro ρ' ⟨x,y,rfl⟩;exact h2 _ _ _ _ hq
theorem c52 {tt:UT}(n:Nat)(it:Nat->D)(ρ1:Ev)(hui: ∀Q:Nat->(Nat->D)->Ev->Prop,Q n it ρ1->ui ρ Q)(hn:n<=1000)
  (G:Option B->List D->Ev) (x0:Option B) (h0:rO (a07 ρ1 js) cap last=G x0 []) (h1: ∀x l b,(G x l).set t0 (some b)=G (some b) l) (h1': ∀x l,t0< (G x l).length) (h2: ∀x l (Q:List D->Prop),Q l->mM (G x l) last Q) (h3: ∀x l l',(G x l).set last (↑l')=G x l')
  (c:Nat->Bool) (P:D->Prop) (htt: ∀i l (Q':Bool->Ev->Prop),i<n->Q' (c i) (G (~~~it i) l)->tt (G (~~~it i) l) Q')
  (hte: ∀i l (Q':B->Ev->Prop),i<n->c i=true->(∀d,P d->Q' (.pu d) (G (~~~it i) l))->te (G (~~~it i) l) Q') (hq: ∀l:List D,l.length<=n->(∀d∈l,P d)->Q (.ow l) (a07 ρ1 js)) :
  eI js cap last ui (bY t0) tt te ρ Q:=by
 refine hui _ ⟨λi ρ'=> ∃x l,l.length<=i/\(∀d∈l,P d)/\ρ'=G x l,⟨x0,[],aG _,ae,h0⟩,?_,?_⟩
 .rintro i ρ' hi ⟨x,l,hl,hP,rfl⟩;refine⟨h1' _ _,?_⟩;rw[h1];right;refine htt i _ _ hi ?_
  by_cases hc:c i=true
  .rw[aA hc];refine hte i _ _ hi hc λd hd=>h2 _ _ _ ⟨?_,~~~it i,l++[d],?_,?_,?_⟩
   .exact pP hl (b9 hi<|aK hn ac)
   .rw[bO];exact Nat.succ_le_succ hl
   .intro e he;rcases d4.mp he with he|he
    .exact hP e he
    .have:e=d:=by exists he
     rw[this];exact hd
   .rw[h3];rfl
  .rw[a8 hc];exact⟨~~~it i,l,aM7 hl,hP,rfl⟩
 .rintro ρ' ⟨x,l,hl,hP,rfl⟩;exact h2 _ _ _ (hq l hl hP)
nonrec def bD7 (n:Nat)(f:∅)(g:Nat×∅):List Int:=rwF (iX (bD3 g.2 g.1 (n+1-g.1) f)<|n+1) (bD3 g.2 g.1 (n+1-g.1) f)
nonrec def ptD (n:Nat)(f:∅)(x:(Nat×∅)×Nat):D:= .tup [aL<|rwF (x.1.1+1) x.1.2,.int (x.2:Int),aL<|bD7 n f x.1]
def wU:Φ:=λds Q=> ∃(n:Nat) (f:∅) (p:Int),ds=[aL<|rwF (n+1) f,.int p]/\n<=4/\p∈prL/\MP p n (md p f)/\(∀j,(f j).natAbs<=2^9)/\ ∀xs,SP p n xs->Q (.ow<|xs.map<|ptD n f)
def wV:US:=(dU<|eI [0] [none,none,some 0,none] 3 (fU<|aS wS<|a7 (aC 0)<|a7 (aC 1) aM) (rN<|eC 0<|eC 1 rM) (λρ Q=>Q true ρ)<|gL<|a7 (aC 0)<|a7 (aC 1)<|a7 (uIx (uV<|aS fN<|a7 (aC 2)<|a7 (aC 0) aM)<|@1) aM)
theorem cM4 {p:Int}(pp:Pr p)(n4:n<=4)(fb: ∀j,(f j).natAbs<=2^9){g:Nat×∅}(mg:MP p g.1 g.2)(g4:g.1<=4):d51 (n+1) g.1 9 8 f g.2:=
 ⟨ad,ad,mg.top,mg.hi,λm _=>fb m,λj=>d57 pp mg j,ad,ac⟩
theorem bK6: Ra wU wV ["f","p"]:=by
 rintro ds Q ⟨n,f,p,rfl,n4,hp,mp,fb,h⟩;have pp:=aZ4 hp;unfold wV;show(dU _:US) _ [~~~aL (rwF (n+1) f),!p];rw[lM]
 have key: ∀xs,SP p n xs->eI [0] [none,none,some 0,none] 3 (λρ Q=>Q (xs.map a98).length (λi=>(xs.map a98).getD i .non) ρ) (rN<|eC 0<|eC 1 rM) (λρ Q=>Q true ρ) (gL<|a7 (aC 0)<|a7 (aC 1)<|a7 (uIx (uV<|aS fN<|a7 (aC 2)<|a7 (aC 0) aM)<|@1) aM) [~~~aL (rwF (n+1) f),!p] λb _=>Q b:=by
  intro xs sp
  refine c51 (t0:=0) (t1:=1) xs.length (λi=>(xs.map a98).getD i .non) (λi=>aL (rwF ((xs.getD i (bW5,0)).1.1+1) (xs.getD i (bW5,0)).1.2)) (λi=> .int ((xs.getD i (bW5,0)).2:Int)) (λi hi=> ?_) [~~~aL (rwF (n+1) f),!p] (λQ' q=> ?_) (aK sp.len ac) (λx y l=>[x,y,~~~aL (rwF (n+1) f),↑l]) none none rfl (λ_ _ _ _ _=>rfl) (λ_ _ _=>⟨ae,ae⟩) (λ_ _ _ _ q=>q) (λ_ _ _ _=>rfl) (λi=>ptD n f (xs.getD i (bW5,0))) ?_ ?_
  .rw[aR,bP,aR,aU hi];rfl
  .rw[aJ];exact q
  .intro i l Q' hi q;have hm:xs.getD i (bW5,0)∈xs:=by
    rw[aR,aU hi];exact cL hi
   have px:=sp.mem _ hm;have mx:=px.mp;have x4:=aK px.le n4;generalize xs.getD i (bW5,0)=x at *;left;refine⟨n+1,x.1.1,9,8,f,x.1.2,rfl,cM4 pp n4 fb mx x4,?_⟩;left;rw[at1];exact⟨ac,q⟩
  .have e:(List.range xs.length).map (λi=>ptD n f (xs.getD i (bW5,0)))=xs.map (ptD n f):=by
    apply pU
    .simp
    .intro i h1 h2;simp at h1;simp[aR,h1]
   rw[e];exact h xs sp
 exact⟨n,f,p,rfl,n4,hp,mp,λxs sp=>key xs sp⟩
structure RF (n:Nat)(f:∅):Prop where
 n1:1<=n
 n4:n<=4
 top:f n=1
 hi: ∀j,n<j->f j=0
 fb: ∀j,(f j).natAbs<=2^9
theorem RF.mp (h:RF n f){p:Int}(hp:2<=p):MP p n (md p f):=by
 refine⟨?_,λj hj=> ?_,λj=>⟨cO _ ad,cY _ ad⟩⟩
 .show f n%p=1
  rw[h.top];exact nA ac ad
 .show f j%p=0
  rw[h.hi j hj,zV]
def PRow (n:Nat)(f:∅)(size:Int)(d:D):Prop:= ∃(p:Int) (xs:List ((Nat×∅)×Nat)),p∈prL/\size%(p*p)=0/\SP p n xs/\d= .tup [.int p,.lst<|xs.map<|ptD n f]
def uZ:Φ:=λds Q=> ∃(n:Nat) (f:∅) (size:Int),ds=[aL<|rwF (n+1) f,.int size]/\RF n f/\ ∀l:List D,l.length<=46->(∀d∈l,PRow n f size d)->Q (.ow l)
def v7:US:=(dU<|eI [0,1] [none,some 0,some 1,none] 3 (fU<|aS kG aM) (bY 0) (dJ<|uOp (gP false) (uOp lL (aC 2)<|uOp dQ (aC 0)<|aC 0)<|@0)<|gL<|a7 (aC 0)<|a7 (aS wU<|a7 (aC 1)<|a7 (aC 0) aM) aM)
theorem bD8: Ra uZ v7 ["f","s"]:=by
 rintro ds Q ⟨n,f,size,rfl,rf,h⟩;unfold v7;show(dU _:US) _ [~~~aL (rwF (n+1) f),!size];rw[lM]
 refine c52 (t0:=0) 46 (λi=>(T_SMALL_PRIMES.map D.int).getD i .non) [~~~aL (rwF (n+1) f),!size] (λQ' q=> ?_) ac (λx l=>[x,~~~aL (rwF (n+1) f),!size,↑l]) none rfl (λ_ _ _=>rfl) (λ_ _=>cC _) (λ_ _ _ q=>q) (λ_ _ _=>rfl)
  (λi=>decide (size%(T_SMALL_PRIMES.getD i 0*T_SMALL_PRIMES.getD i 0)=0)) (PRow n f size) ?_ ?_ (λl hl hP=>h l hl hP)
 .exact⟨rfl,q⟩
 .intro i l Q' hi q;have e:(T_SMALL_PRIMES.map D.int).getD i .non= .int (T_SMALL_PRIMES.getD i 0):=by
   have hi':i<T_SMALL_PRIMES.length:=by rw[bW2];exact hi
   rw[aR,bP,aR,aU hi'];rfl
  have hm:T_SMALL_PRIMES.getD i 0∈T_SMALL_PRIMES:=by
   have hi':i<T_SMALL_PRIMES.length:=by rw[bW2];exact hi
   rw[aR,aU hi'];exact cL hi'
  obtain⟨p2,p3⟩:=tp_ok _ hm;rw[e]at q⊢;generalize T_SMALL_PRIMES.getD i 0=p at *;have pq:0<p*p:=uH ad ad
  left
  refine⟨cmL ad ad,ad,?_⟩
  rw[cU _ pq];exact q
 .intro i l Q' hi hc q;have e:(T_SMALL_PRIMES.map D.int).getD i .non= .int (T_SMALL_PRIMES.getD i 0):=by
   have hi':i<T_SMALL_PRIMES.length:=by rw[bW2];exact hi
   rw[aR,bP,aR,aU hi'];rfl
  have hm:T_SMALL_PRIMES.getD i 0∈prL:=by
   have hi':i<T_SMALL_PRIMES.length:=by rw[bW2];exact hi
   rw[d52,aR,aU hi'];exact cL hi'
  have pp:=aZ4 hm;have hc':=zI hc;rw[e]at q⊢;generalize T_SMALL_PRIMES.getD i 0=p at *;left;refine⟨n,f,p,rfl,rf.n4,hm,rf.mp pp.lo,rf.fb,λxs sp=> ?_⟩
  left
  exact⟨ac,q _ ⟨p,xs,hm,hc',sp,rfl⟩⟩
structure dJ1 (n:Nat)(f:∅)(size p:Int)(g:Nat×∅):Prop where
 pr:p∈prL
 sq:size%(p*p)=0
 mg:MP p g.1 g.2
 g1:1<=g.1
 g4:g.1<=4
 tw:g.1*2<=n
 all: ∀c∈bD7 n f g,c%(p*p)=0
nonrec def dJ2 (n:Nat)(f:∅)(g:Nat×∅):List Int:=rwF (iX (a24 g.2 g.1 (n+1-g.1) f)<|n+1-g.1) (a24 g.2 g.1 (n+1-g.1) f)
def sP:Φ:=λds Q=> ∃(n:Nat) (f:∅) (size:Int) (l:List D),ds=[aL<|rwF (n+1) f,.lst l]/\RF n f/\l.length<=46/\(∀d∈l,PRow n f size d)/\Q (.pu .non)/\ ∀p g,dJ1 n f size p g->Q (.pu<|.tup [.int p,aL<|dJ2 n f g])
def aZ5:US:=(dU<|uC .non)
def sQ:US:=(aQ (gW (fU<|aC 1) (rN<|eC 2<|eC 3 rM)<|gW (fU<|aC 3) (rN<|eC 4<|eC 5<|eC 6 rM)<|fH (cD1 (dJ<|uOp (w6 λi j=>decide (j<=i)) (aC 5)<|@2)<|dJ<|aS dF2<|a7 (eI [2] [none,some 2,none] 2 (fU<|aC 6) (bY 0) (λρ Q=>Q true ρ)<|uOp (gP false) (uOp lL (aC 0)<|uOp dQ (aC 1)<|aC 1)<|@0) aM) (dU<|gL<|a7 (aC 2)<|a7 (uIx (uV<|aS fN<|a7 (aC 0)<|a7 (aC 4) aM)<|@0) aM) cW) aZ5)
theorem b46: Ra sP sQ ["f","r","p","a","g","o","c"]:=by
 rintro ds Q ⟨n,f,size,l,rfl,rf,l46,hP,h0,h1⟩;unfold sQ;show(aQ _ _:US) _ [~~~aL (rwF (n+1) f),~~~.lst l,none,none,none,none,none];rw[aN];refine bE l.length (λi=>l.getD i .non) [~~~aL (rwF (n+1) f),~~~.lst l,none,none,none,none,none] (λQ' q=>q)
  (λi ρ=> ∃a b c d e,ρ=[~~~aL (rwF (n+1) f),~~~.lst l,a,b,c,d,e]) ⟨none,none,none,none,none,rfl⟩ ?_ ?_
 .rintro i ρ hi ⟨a,b,c,d,e,rfl⟩;have hm:l.getD i .non∈l:=by
   rw[aR,aU hi];exact cL hi
  obtain⟨p,xs,hp,hs,sp,e1⟩:=hP _ hm;have pp:=aZ4 hp;rw[e1];refine⟨ae,ae,rfl,?_⟩
  show(gW _ _ _:US) _ [~~~aL (rwF (n+1) f),~~~.lst l,!p,~~~.lst (xs.map (ptD n f)),c,d,e]
  refine bE xs.length (λi=>(xs.map<|ptD n f).getD i .non) [~~~aL (rwF (n+1) f),~~~.lst l,!p,~~~.lst (xs.map (ptD n f)),c,d,e] (λQ' q=> ?_)
   (λj ρ=> ∃c d e,ρ=[~~~aL (rwF (n+1) f),~~~.lst l,!p,~~~.lst (xs.map (ptD n f)),c,d,e]) ⟨c,d,e,rfl⟩ ?_ ?_
  .left
   rw[aJ];exact q
  .rintro j ρ hj ⟨c,d,e,rfl⟩;have hx:xs[j]∈xs:=cL hj;have e2:(xs.map<|ptD n f).getD j .non=ptD n f xs[j]:=by
    rw[aR,bP,aU hj];rfl
   rw[e2];have px:=sp.mem _ hx;have mx:=px.mp;have x1:=px.lo;have x4:=aK px.le rf.n4;have tw:2<=xs[j].2->xs[j].1.1*2<=n:=λh2=>aK (u7 _ h2) px.dg
   clear px;generalize xs[j]=x at *;refine⟨ae,ae,ae,rfl,?_⟩
   show(fH _ _ _:US) _ [~~~aL (rwF (n+1) f),~~~.lst l,!p,~~~.lst (xs.map (ptD n f)),~~~aL (rwF (x.1.1+1) x.1.2),!(x.2:Int),~~~aL (bD7 n f x.1)]
   simp only[aL];left
   by_cases c2:(2:Int)<=(x.2:Int)
   .rw[aA c2];have p2:=pp.lo;have p3:=pp.hi;have pq:0<p*p:=uH ad ad
    generalize hr:bD7 n f x.1=r at *;have rl:r.length<=1000:=by
     rw[<-hr];unfold bD7;rw[a17];have:=a22 (bD3 x.1.2 x.1.1 (n+1-x.1.1) f) (n+1);have:=rf.n4
     lia
    refine dR (t0:=0) r.length (λk=>(r.map D.int).getD k .non) [~~~.tup ((rwF (n+1) f).map .int),~~~.lst l,!p,~~~.lst (xs.map (ptD n f)),~~~.tup ((rwF (x.1.1+1) x.1.2).map .int),!(x.2:Int),~~~.tup (r.map .int)] (λQ' q=> ?_) ad (λx l'=>[x,!p,↑l']) none rfl (λ_ _ _=>rfl) (λ_ _=>cC _) (λ_ _ _ q=>q) (λ_ _ _=>rfl) (λk=> .bl (decide (r.getD k 0%(p*p)=0))) ?_ ?_
    .left
     rw[aJ];exact q
    .intro k l' Q' hk q;have e3:(r.map D.int).getD k .non= .int (r.getD k 0):=by
      rw[aR,bP,aR,aU hk];rfl
     rw[e3]at q⊢;left;refine⟨cmL ad ad,ad,?_⟩
     rw[cU _ pq];exact q
    .have e4:(List.range r.length).map (λk=>D.bl (decide (r.getD k 0%(p*p)=0)))=((List.range r.length).map λk=>decide (r.getD k 0%(p*p)=0)).map D.bl:=by rw[kO];rfl
     rw[e4];right;rw[bA1];right
     by_cases c3:(((List.range r.length).map λk=>decide (r.getD k 0%(p*p)=0)).all id)=true
     .rw[aA c3];left;refine⟨n+1,x.1.1,9,8,f,x.1.2,rfl,cM4 pp rf.n4 rf.fb mx x4,?_⟩;left;rw[at0];refine⟨ac,h1 p x.1 ⟨hp,hs,mx,x1,x4,tw ad,λc hc=> ?_⟩⟩
      rw[hr]at hc;obtain⟨k,hk,rfl⟩:=List.mem_iff_getElem.mp hc;rw[dD]at c3;have:=c3 (decide (r.getD k 0%(p*p)=0)) (gI.mpr ⟨k,dX.mpr hk,rfl⟩);have:=zI (show decide (r.getD k 0%(p*p)=0)=true from this)
      rw[aR,aU hk]at this;exact this
     .rw[a8 c3];exact⟨_,_,_,rfl⟩
   .rw[a8 c2];exact⟨_,_,_,rfl⟩
  .rintro ρ ⟨c,d,e,rfl⟩;exact⟨_,_,_,_,_,rfl⟩
 .rintro ρ ⟨a,b,c,d,e,rfl⟩;exact h0
theorem d58 (t:UE)(D:UD)(ρ:Ev):kU t D ρ=t ρ (λ_ ρ1=>D.nx ρ1):=rfl
structure dZ (p:List Int):Prop where
 ok:b76 p
 one: ∃q,p=q++[1]
nonrec def c53 (c:Int):Bool:=decide ((if c<0 then -c else c)<=499)
nonrec def dJ3 (p:List Int):Bool:=decide (3<=p.length)&&(decide (p.length<=5)&&(decide (p.getD (p.length-1) 0=1)&&p.all c53))
theorem aZ6: ∀(q:List Int) (x:Int),(q++[x]).getD ((q++[x]).length-1) 0=x:=λq x=>by
 rw[bO,aR,gZ ae]
 simp
theorem d59 (p:List Int):dJ3 p=true↔dZ p:=by
 unfold dJ3;simp only[cZ,gE,dD];constructor
 .rintro⟨h1,h2,h3,h4⟩;refine⟨⟨h1,h2,λx hx=> ?_⟩,?_⟩
  .have:=zI (h4 x hx);split at this<;>lia
  .rcases List.eq_nil_or_concat p with rfl| ⟨q,x,rfl⟩
   .simp at h1
   .rw[List.concat_eq_append]at h3⊢;rw[aZ6]at h3;exact⟨q,by rw[h3]⟩
 .intro h;refine⟨h.ok.lo,h.ok.hi,?_,λx hx=>nG ?_⟩
  .obtain⟨q,rfl⟩:=h.one;exact aZ6 q 1
  .have:=h.ok.small x hx;split<;>lia
theorem cR8 (h:0<p.length):atI (p.map D.int) (-1)=some (.int<|p.getD (p.length-1) 0):=by
 rcases List.eq_nil_or_concat p with rfl| ⟨q,x,rfl⟩
 .simp at h
 .rw[List.concat_eq_append,aZ6,cH];exact cX4 _ _
def oH:Φ:=λds Q=> ∃p:List Int,ds=[aL p]/\p.length<=1000/\Q (.pu<|.bl<|dJ3 p)
def v8:US:=(dU<|aS dF2<|a7 (eI [] [none,none] 1 (fU<|aC 0) (bY 0) (λρ Q=>Q true ρ)<|uOp (w6 λi j=>decide (i<=j)) (aS cD7<|a7 (aC 0) aM)<|@499) aM)
def oJ:US:=(aQ (fH (uOr (dJ<|uOp (w6 λi j=>decide (i<j)) (kT<|aW 0)<|@3)<|uOr (dJ<|uOp (w6 λi j=>decide (j<i)) (kT<|aW 0)<|@5)<|dJ<|uOp (gP true) (uIx (aW 0)<|kS<|@1)<|@1) (dU<|uC<|.bl false) cW) v8)
theorem aT5: Ra oH oJ ["r"]:=by
 rintro ds Q ⟨p,rfl,hn,h⟩;have lp:(p.map D.int).length=p.length:=aJ _;unfold oJ;simp only[aL];show(aQ _ _:US) _ [~~~.tup (p.map .int)];rw[aN];left;rw[lp];unfold dJ3 at h
 by_cases h3:(p.length:Int)<3
 .rw[aA h3];rw[fM ad]at h
  exact h
 rw[a8 h3];rw[nG<|show 3<=p.length by lia,Bool.true_and]at h
 by_cases h5:(5:Int)< (p.length:Int)
 .rw[aA h5];rw[fM<|show ¬p.length<=5 by lia]at h
  exact h
 rw[a8 h5];rw[nG<|show p.length<=5 by lia,Bool.true_and]at h
 rw[cR8 ad]
 right
 by_cases h1:p.getD (p.length-1) 0=1
 .rw[nG h1,Bool.true_and]at h;rw[a8 λz=>z h1]
  unfold v8;rw[lM,eE,eF];refine dR (t0:=0) p.length (λk=>(p.map D.int).getD k .non) [~~~.tup (p.map .int)] ?_ ad (λx l=>[x,↑l]) none rfl (λ_ _ _=>rfl) (λ_ _=>cC _) (λ_ _ _ q=>q) (λ_ _ _=>rfl) (λk=> .bl (c53<|p.getD k 0)) ?_ ?_
  .intro Q' q;simp only[fU];left;rw[lp];exact q
  .intro k l Q' hk q;have ek:(p.map D.int).getD k .non= .int (p.getD k 0):=by
    rw[aR,bP,aR,aU hk];rfl
   rw[ek]at q⊢;left;exact q
  .have e:((List.range p.length).map λk=>D.bl (c53<|p.getD k 0))=(p.map c53).map D.bl:=by
    rw[kO];refine pU ae λi h1 h2=> ?_
    simp at h1
    simp[h1]
   rw[e];left;rw[bA1];show Q (.pu<|.bl<|(p.map c53).all id);rw[List.all_map];exact h
 .rw[fM h1]at h;rw[aA h1];exact h
def gQ:Φ:=λds Q=> ∃p:List Int,ds=[aL p]/\dZ p/\Q (.pu .non)
def mI:US:=(fH (dD3<|dJ<|aS oH<|a7 (aC 0) aM) (λ_ _=>False) cW)
theorem aG7: Ra gQ mI ["r"]:=by
 rintro ds Q ⟨p,rfl,hp,h⟩;have hi:=hp.ok.hi;unfold mI;show(fH _ _ _:US) _ [~~~aL p];left;refine⟨p,rfl,ad,?_⟩
 rw[(d59 p).mpr hp]
 exists h
nonrec def i8 (p:List Int):List (List Int):=(List.range<|p.length-1).map λi=>((dY p<|2*(p.length-1)-2).drop i).take (p.length-1)
def a26:Φ:=λds Q=> ∃p:List Int,ds=[aL p]/\dZ p/\Q (.pu<|.int<|lN 4<|i8 p)
def a27:US:=(aQ (kU<|aS gQ<|a7 (aC 0) aM)<|aQ (bF 1<|uOp M.gSub (kT<|aW 0)<|@1)<|aQ (bF 2<|aS uS<|a7 (aC 0)<|a7 (uOp M.gSub (uOp dQ @2<|aC 1)<|@1) aM)<|dU<|aS (fW 4)<|a7 (aS cA<|a7 (eI [1] [none,some 2,some 1,none] 3 (gN<|a7 (aC 1) aM) (bY 0) (λρ Q=>Q true ρ)<|aS cA<|a7 (uSl (aW 1) (mO<|aC 0)<|mO<|uOp fE (aC 0)<|aC 2) aM) aM) aM)
theorem cR9 (hp:b76 p):Sq 4 (i8 p):=by
 have hlo:=hp.lo;have hhi:=hp.hi;have bn:=a16 hp (2*(p.length-1)-2) aa
 have nl:=uR p (2*(p.length-1)-2);have hl:(i8 p).length=p.length-1:=by unfold i8;simp
 refine⟨aa,aa,λr hr=> ?_,λr hr x hx=> ?_⟩
 .unfold i8 at hr;obtain⟨i,hi,rfl⟩:=gI.mp hr;have:=dX.mp hi;rw[hl,zJ,zK,nl];omega
 .unfold i8 at hr;obtain⟨i,hi,rfl⟩:=gI.mp hr;refine pP (bn x<|List.mem_of_mem_drop<|List.mem_of_mem_take hx) ?_;exact aL5 ac aa
theorem dJ4 (l:List D)(i n:Nat)(h:i+n<=l.length):cutD l (some (i:Int)) (some ((i+n:Nat):Int))=(l.drop i).take n:=by
 unfold cutD;rw[HT.sIx_nat,HT.sIx_nat,jP<|show i<=l.length by lia,jP h]
 congr 1
 lia
theorem bW6: Ra a26 a27 ["p","n","s"]:=by
 rintro ds Q ⟨p,rfl,hp,h⟩;have hlo:=hp.ok.lo;have hhi:=hp.ok.hi;have lp:(p.map D.int).length=p.length:=aJ _;have en:(p.length:Int)-1=((p.length-1:Nat):Int):=ad
 have nl:=uR p (2*(p.length-1)-2);have fin:(dU (aS (fW 4)<|a7 (aS cA<|a7 (eI [1] [none,some 2,some 1,none] 3 (gN<|a7 (aC 1) aM) (bY 0) (λρ Q=>Q true ρ)<|aS cA<|a7 (uSl (aW 1) (mO<|aC 0)<|mO<|uOp fE (aC 0)<|aC 2) aM) aM) aM):US) {Q with}
   [~~~.tup (p.map .int),!((p.length-1:Nat):Int),↑((dY p<|2*(p.length-1)-2).map .int)]:=by
  rw[lM,eE,eF,eE,eF];refine dR (t0:=0) (p.length-1) (λi=> .int (0+i)) [~~~.tup (p.map .int),!((p.length-1:Nat):Int),↑((dY p<|2*(p.length-1)-2).map .int)] ?_ ad
   (λx l=>[x,some<|.bo<|(dY p<|2*(p.length-1)-2).map .int,!((p.length-1:Nat):Int),↑l]) none rfl (λ_ _ _=>rfl) (λ_ _=>cC _) (λ_ _ _ q=>q) (λ_ _ _=>rfl)
   (λi=>aL (((dY p<|2*(p.length-1)-2).drop i).take<|p.length-1)) ?_ ?_
  .intro Q' q;simp only[gN];left;refine⟨ad,?_⟩
   rw[bW];exact q
  .intro i l Q' hi q;left;have e:cutD ((dY p<|2*(p.length-1)-2).map D.int) (some<|0+(i:Int)) (some<|0+(i:Int)+((p.length-1:Nat):Int))=(((dY p<|2*(p.length-1)-2).drop i).take<|p.length-1).map D.int:=by
    rw[dM,show(i:Int)+((p.length-1:Nat):Int)=((i+(p.length-1):Nat):Int)by lia,dJ4 _ _ _ (by rw[aJ,nl];lia),nL,map_drop]
   rw[e];exact q
  .simp only[cA,g1,B.d,aM,oY];refine⟨i8 p,?_,cR9 hp.ok,h⟩;unfold cR5 i8;rw[kO];rfl
 unfold a27;show(aQ _ _:US) _ [~~~.tup (p.map .int),none,none];rw[aN,d58,eE,eF];simp only[aC,a78,aM,B.d,u5];refine⟨p,rfl,hp,?_⟩;rw[aN,iM];simp only[uOp,kT,aW,c14,uC,oY,M.gSub,gI2,B.d,u5,lp,b86,b85,en];rw[aN,iM,eE];simp only[a7,aM,uOp,aC,a78,uC,M.gSub,dQ,gI2,B.d,u5,List.getElem?_cons_succ];refine⟨cmL ac ac,?_⟩
 refine⟨p,2*(p.length-1)-1,?_,hp.ok,ad,ad,?_⟩
 .rw[show(2:Int)*((p.length-1:Nat):Int)-1=((2*(p.length-1)-1:Nat):Int)by lia];rfl
 .rw[show 2*(p.length-1)-1-1=2*(p.length-1)-2 by lia]
  exact fin
nonrec def one4 (e d c b:Int):Int:=12*e-3*b*d+c*c
nonrec def two4 (e d c b:Int):Int:=72*c*e+9*b*c*d-27*d*d-27*b*b*e-2*c*c*c
nonrec def dJ5:List Int->Int
 | [c0,c1,_]=>c1*c1-4*c0
 | [d,c,b,_]=>b*b*c*c-4*c*c*c-4*b*b*b*d-27*d*d+18*b*c*d
 | [e,d,c,b,_]=>(4*one4 e d c b*one4 e d c b*one4 e d c b-two4 e d c b*two4 e d c b).fdiv 27
 | _=>0
theorem dZ.cases {p:List Int}(h:dZ p):(∃a b:Int,p=[a,b,1]/\a.natAbs<=499/\b.natAbs<=499)\/(∃a b c:Int,p=[a,b,c,1]/\a.natAbs<=499/\b.natAbs<=499/\c.natAbs<=499)\/
  ∃a b c d:Int,p=[a,b,c,d,1]/\a.natAbs<=499/\b.natAbs<=499/\c.natAbs<=499/\d.natAbs<=499:=by
 obtain⟨q,rfl⟩:=h.one;have lo:=h.ok.lo;have hi:=h.ok.hi;have sm: ∀x∈q,x.natAbs<=499:=λx hx=>h.ok.small x (yZ _ hx)
 rw[bO,aK7]at lo hi
 match q,lo,hi,sm with
 | [a,b],_,_,sm=>exact .inl ⟨a,b,rfl,sm a ae,sm b ae⟩
 | [a,b,c],_,_,sm=>exact .inr (.inl ⟨a,b,c,rfl,sm a ae,sm b ae,sm c ae⟩)
 | [a,b,c,d],_,_,sm=>exact .inr (.inr ⟨a,b,c,d,rfl,sm a ae,sm b ae,sm c ae,sm d ae⟩)
 | [],lo,_,_=>simp at lo
 | [_],lo,_,_=>simp at lo
 | _::_::_::_::_::_,_,hi,_=>simp at hi
nonrec def hkD2 (a b c:Int):Int:=1*a*c+(-1*b*b+0)
theorem hk2 (c b:Int):lN 4 (i8 [c,b,1])=hkD2 2 (-(0+1*b)) (-((b* -(0+1*b)+0)+2*c)):=by kernel_rfl
nonrec def rts3 (a b c:Int):List Int:=[-(a*b*c),a*b+a*c+b*c,-a-b-c]
nonrec def sqIn (rs:List Int)(i:Nat)(t:Int):∅
 | 0=>t
 | j+1=>sqIn rs i t j*(rs.getD i 0-rs.getD j 0)*(rs.getD i 0-rs.getD j 0)
nonrec def sqK (rs:List Int):∅
 | 0=>1
 | i+1=>sqIn rs i (sqK rs i) i
nonrec def okR (q rs:List Int):Bool:=(q.all λx=>decide (x.natAbs<=499))&&decide (dJ5 (q++[1])=sqK rs rs.length)
nonrec def sh3 (a b c s:Int):List Int:=[a+s*b+s*s*c+s*s*s,b+2*s*c+3*s*s,c+3*s]
nonrec def sh4 (a b c d s:Int):List Int:=[a+s*b+s*s*c+s*s*s*d+s*s*s*s,b+2*s*c+3*s*s*d+4*s*s*s,c+3*s*d+6*s*s,d+4*s]
nonrec def dJ6 (row:List Int)(r:Int):Nat->List Int
 | 0=>0::row
 | k+1=>(dJ6 row r k).set k ((dJ6 row r k).getD k 0-r*row.getD k 0)
nonrec def dN9 (rs:List Int):List Int:=rs.foldl (λrow r=>dJ6 row r row.length) [1]
theorem fr3 (a b c:Int):dN9 [a,b,c]=rts3 a b c++[1]:=by
 simp[dN9,dJ6,rts3]
 grind
nonrec def aZ7 (row:List Int)(s:Int):Nat->List Int
 | 0=>row
 | k+1=>(aZ7 row s k).set (row.length-2-k) ((aZ7 row s k).getD (row.length-2-k) 0+s*(aZ7 row s k).getD (row.length-1-k) 0)
nonrec def shK (p:List Int)(s:Int):Nat->List Int
 | 0=>p
 | low+1=>aZ7 (shK p s low) s (p.length-1-low)
theorem she3 (a b c s:Int):shK [a,b,c,1] s 3=sh3 a b c s++[1]:=by
 simp[shK,aZ7,sh3]
 grind
theorem she4 (a b c d s:Int):shK [a,b,c,d,1] s 4=sh4 a b c d s++[1]:=by
 simp[shK,aZ7,sh4]
 grind
def aZ8:Φ:=λds Q=> ∃m:Int,ds=[.int m]/\0<=m/\Sm m/\ ∀r:Int,0<=r->r<=m->Q (.pu<|.int r)
def aZ9:US:=(aQ (bF 1<|aC 0)<|aQ (bF 2<|uOp aN8 (uOp fE (aC 0)<|@1)<|@2)<|aQ (aX6 (dJ<|uOp (w6 λi j=>decide (i<j)) (aC 2)<|aC 1)<|aQ (bF 1<|aC 2)<|bF 2<|uOp aN8 (uOp fE (aC 1)<|uOp aN8 (aC 0)<|aC 1)<|@2)<|oX 1)
theorem Sm.le {i m:Int}(h:Sm m)(h0:0<=i)(h1:i<=m):Sm i:=by
 unfold Sm at h⊢;exact pP ad h
theorem cS0: Ra aZ8 aZ9 ["m","g","b"]:=by
 rintro ds Q ⟨m,rfl,m0,ms,h⟩;unfold aZ9;show(aQ _ _:US) _ [!m,none,none];left;rw[mR _ ac]
 refine⟨⟨ac,aY7 ac ac⟩,?_⟩
 refine⟨λn ρ=> ∃g b:Int,ρ=[!m,!g,!b]/\n=g.toNat/\0<=g/\g<=m/\((m=0/\b=0)\/(1<=g/\b=(g+m/g)/2)),⟨_,m,(m+1)/2,rfl,rfl,m0,Int.le_refl _,?_⟩,?_⟩
 .by_cases z:m=0
  .subst z;exact .inl ⟨rfl,rfl⟩
  .right
   rw[Int.ediv_self z];exact⟨ad,rfl⟩
 .rintro n ρ ⟨g,b,rfl,rfl,g0,gm,hb⟩;left;split
  .rcases hb with⟨rfl,rfl⟩| ⟨g1,rfl⟩
   .lia
   .have b1:1<=(g+m/g)/2:=by
     have:1<=m/g:=Int.le_ediv_of_mul_le ad ad
     lia
    rw[mR _<|show 0< (g+m/g)/2 by lia,mR _ ac]
    refine⟨⟨ad,ms.le ad ad⟩,⟨ac,aY7 ac ac⟩,_,?_,_,_,rfl,rfl,ad,ad,.inr ⟨b1,rfl⟩⟩
    lia
  .exact h g g0 gm
nonrec def ev (p:List Int)(z:Int):Int:=ps (λj=>p.getD j 0) z p.length
theorem ev2 (a b z:Int):ev [a,b,1] z=a+b*z+z*z:=by simp[ev,ps];grind
theorem ev3 (a b c z:Int):ev [a,b,c,1] z=a+b*z+c*(z*z)+z*z*z:=by simp[ev,ps];grind
theorem ev4 (a b c d z:Int):ev [a,b,c,d,1] z=a+b*z+c*(z*z)+d*(z*z*z)+z*z*z*z:=by simp[ev,ps];grind
nonrec def qq (v u w s:Int):List Int:=[v*w,u*w+v*s,v+w+u*s,u+s,1]
def Red (p:List Int):Prop:=(∃z,ev p z=0)\/ ∃v u w s,p=qq v u w s
theorem dZ.cs (h:dZ p):(∃a b,p=[a,b,1])\/(∃a b c,p=[a,b,c,1])\/ ∃a b c d,p=[a,b,c,d,1]:=by
 obtain⟨q,rfl⟩:=h.one;have lo:=h.ok.lo;have hi:=h.ok.hi;rw[bO,aK7]at lo hi
 match q,lo,hi with
 | [a,b],_,_=>exact .inl ⟨a,b,rfl⟩
 | [a,b,c],_,_=>exact .inr (.inl ⟨a,b,c,rfl⟩)
 | [a,b,c,d],_,_=>exact .inr (.inr ⟨a,b,c,d,rfl⟩)
 | [],h,_=>simp at h
 | [_],h,_=>simp at h
 | _::_::_::_::_::_,_,h=>simp at h
theorem d60 (h:dZ p)(hz:ev p z=0):z∣p.getD 0 0:=by
 rcases h.cs with⟨a,b,rfl⟩| ⟨a,b,c,rfl⟩| ⟨a,b,c,d,rfl⟩
 .rw[ev2]at hz;exact⟨-(b+z),by show a=_;grind⟩
 .rw[ev3]at hz;exact⟨-(b+c*z+z*z),by show a=_;grind⟩
 .rw[ev4]at hz;exact⟨-(b+c*z+d*(z*z)+z*z*z),by show a=_;grind⟩
def NoZ (p:List Int):Prop:= ∀z,ev p z≠0
theorem cM5 (h:dZ p):ev p 0=p.getD 0 0:=by
 rcases h.cs with⟨a,b,rfl⟩| ⟨a,b,c,rfl⟩| ⟨a,b,c,d,rfl⟩
 .rw[ev2];simp
 .rw[ev3];simp
 .rw[ev4];simp
nonrec def linB (z:Int):∅:=λj=>[-z,1].getD j 0
theorem bK7 (h1:a.natAbs<=m)(h2:b.natAbs<=n):(a*b).natAbs<=m*n:=by rw[eK];exact gG h1 h2
def rH:Φ:=λds Q=> ∃m:Int,ds=[.int m]/\m.natAbs<=499/\ ∀l:List Int,(m=0->l=[0])->(m≠0-> ∀x,x∣m->x∈l)->(∀x∈l,x∣m/\x.natAbs<=499)->Q (.ow<|l.map .int)
def aA1:US:=(aQ (bF 1<|fT aM)<|aQ (gW (b95<|a7 @1<|a7 (uOp fE (aS cD7<|a7 (aC 0) aM)<|@1) aM) (bY 2)<|fH (dJ<|uOp (gP false) (uOp lL (aC 0)<|aC 2)<|@0) (aQ (aN7 1<|aC 2)<|aN7 1<|kS<|aC 2) cW)<|oX 1)
def wW:US:=(aQ (fH (dJ<|uOp (gP false) (aC 0)<|@0) (dU<|fT<|a7 @0 aM) cW) aA1)
theorem bK8: Ra rH wW ["m","f","d"]:=by
 rintro ds Q ⟨m,rfl,m9,h⟩;unfold wW;show(aQ _ _:US) _ [!m,none,none];rw[aN];left
 by_cases m0:m=0
 .rw[aA m0];exact⟨ac,h [0] (λ_=>rfl) (λz=>absurd m0 z)<|by simp[m0]⟩
 rw[a8 m0];unfold aA1;rw[aN];left;refine⟨ac,?_⟩
 refine bE m.natAbs (λk=> .int (1+k)) [!m,↑[],none] ?_
  (λi ρ=> ∃(l:List Int) (z:Option B),ρ=[!m,↑(l.map .int),z]/\l.length<=2*i/\(∀x∈l,x∣m/\x.natAbs<=i)/\ ∀x,x∣m->1<=x.natAbs->x.natAbs<=i->x∈l) ⟨[],none,rfl,ae,ae,λx _ _ _=>ad⟩ ?_ ?_
 .intro Q' q;left;have e:(if m<0 then -m else m)=(m.natAbs:Int):=by split<;>lia
  rw[e];refine⟨ad,?_⟩
  rw[show((m.natAbs:Int)+1-1).toNat=m.natAbs by lia]
  exact q
 .rintro i ρ hi ⟨l,z,rfl,ll,hl,hm⟩;left;refine⟨ae,ad,?_⟩
  rw[cU _<|show(0:Int)<1+(i:Int)by lia]
  split
  .rename_i hd
   have dv:(1+(i:Int))∣m:=Int.dvd_of_emod_eq_zero hd;refine⟨?_,?_,l++[1+(i:Int),-(1+(i:Int))],!(1+(i:Int)),?_,?_,λx hx=> ?_,λx d1 d2 d3=> ?_⟩
   .rw[aJ];exact b9 (show _<2000 by lia) ac
   .rw[bO,aJ];exact b9 (show _<2000 by simp;lia) ac
   .rw[cH];simp
   .rw[bO];simp;lia
   .rcases d4.mp hx with hx|hx
    .have:=hl x hx;exact⟨this.1,ad⟩
    .rcases aZ.mp hx with rfl|hx
     .exact⟨dv,ad⟩
     .rw[jM.mp hx];exact⟨Int.neg_dvd.mpr dv,ad⟩
   .by_cases c:x.natAbs<=i
    .exact yZ _ (hm x d1 d2 c)
    .refine eU _ ?_
     rcases(show x=1+(i:Int)\/x= -(1+(i:Int))by lia)with q|q
     .rw[q];exact .head _
     .rw[q];exact .tail _ (.head _)
  .rename_i hd
   refine⟨l,_,rfl,ad,λx hx=>⟨(hl x hx).1,by have:=(hl x hx).2;lia⟩,λx d1 d2 d3=> ?_⟩
   by_cases c:x.natAbs<=i
   .exact hm x d1 d2 c
   .exfalso
    refine hd (Int.emod_eq_zero_of_dvd ?_)
    rcases(show x=1+(i:Int)\/x= -(1+(i:Int))by lia)with q|q
    .rw[<-q];exact d1
    .rw[q]at d1;exact Int.neg_dvd.mp d1
 .rintro ρ ⟨l,z,rfl,ll,hl,hm⟩;left;refine h l (λz=>absurd z m0) (λ_ x d=> ?_) λx hx=>⟨(hl x hx).1,by have:=(hl x hx).2;lia⟩
  have e:=Int.natAbs_dvd_natAbs.mpr d;refine hm x d (Nat.pos_of_ne_zero λz=> ?_) (Nat.le_of_dvd ad e)
  rw[z]at e;have:=Nat.zero_dvd.mp e
  lia
def nR:Φ:=λds Q=> ∃p:List Int,ds=[aL p]/\dZ p/\((∀z,ev p z≠0)->Q (.pu .non))/\((∃z,ev p z=0)-> ∀d e,Q<|.pu<|.tup [d,e])
def t9:US:=(dU<|uC .non)
def nS:US:=(aQ (gW (fU<|aS rH<|a7 (uIx (aW 0)<|@0) aM) (bY 1)<|fH (dJ<|uOp (gP false) (aS tJ<|a7 (aC 0)<|a7 (aC 1) aM)<|@0) (aQ (bF 2<|gL<|a7 (kS<|aC 1)<|a7 @1 aM)<|dU<|gL<|a7 (aC 2)<|a7 (uIx (uV<|aS fN<|a7 (aC 0)<|a7 (aC 2) aM)<|@0) aM) cW) t9)
theorem c54 (p:List Int)(j:Nat)(h:p.length<=j):p.getD j 0=0:=by rw[aR,eV h];rfl
theorem aO5: Ra nR nS ["p","z","l"]:=by
 rintro ds Q ⟨p,rfl,hp,hn,hy⟩;have hlo:=hp.ok.lo;have hhi:=hp.ok.hi;have er:aL p=aL (rwF p.length λj=>p.getD j 0):=dN aL (bC5 p)
 unfold nS;show(aQ _ _:US) _ [~~~.tup (p.map .int),none,none];rw[aN];have p0:(p.getD 0 0).natAbs<=499:=eZ hp.ok.small 0;unfold gW;simp only[fU];left;rw[a93 ad]
 refine⟨p.getD 0 0,rfl,p0,λl l0 l1 lb=> ?_⟩
 right;rw[aJ];refine⟨λi ρ=> ∃z1 z2,ρ=[~~~.tup (p.map .int),z1,z2]/\ ∀k,k<i->ev p (l.getD k 0)≠0,⟨none,none,rfl,λk hk=>absurd hk (zQ k)⟩,?_,?_⟩
 .rintro i ρ hi ⟨z1,z2,rfl,hk⟩;have e3:(l.map D.int).getD i .non= .int (l.getD i 0):=by
   rw[aR,bP,aU hi,aR,aU hi];rfl
  rw[e3];have mem:l.getD i 0∈l:=by rw[aR,aU hi];exact cL hi
  have zb:=(lb _ mem).2;generalize ez:l.getD i 0=z at zb;left;refine⟨ae,?_⟩
  refine⟨p.length,9,9,λj=>p.getD j 0,z,by rw[<-bC5];rfl,⟨λj=>aK (eZ hp.ok.small j) ac,aK zb ac,ad,ac,ad⟩,?_⟩
  show(if ev p z=0 then _ else _)
  by_cases c:ev p z=0
  .rw[aA c];refine⟨ac,?_⟩
   refine⟨p.length,1,9,9,λj=>p.getD j 0,linB z,?_,⟨ad,ac,rfl,λj hj=> ?_,λm hm=>aK (eZ hp.ok.small m) ac,λj=> ?_,ad,ac⟩,?_⟩
   .rw[<-er];rfl
   .unfold linB;rw[c54];simp;lia
   .unfold linB;refine eZ (b:=2^9) (λx hx=> ?_) j
    simp at hx
    rcases hx with rfl|rfl
    .rw[natAbs_neg];exact aK zb ac
    .decide
   .left
    rw[show ∀a b:D,atI [a,b] 0=some a from λa b=>cB (j:=0) rfl]
    exact⟨ac,hy ⟨z,c⟩ _ _⟩
  .rw[a8 c];refine⟨_,_,rfl,λk hk2=> ?_⟩
   by_cases ck:k<i
   .exact hk k ck
   .rw[show k=i by lia,ez]
    exact c
 .rintro ρ ⟨z1,z2,rfl,hk⟩;unfold t9;left;refine hn λz hz=> ?_
  have key:z∈l->False:=λhx=>by
   obtain⟨k,hk2,rfl⟩:=List.getElem_of_mem hx;have:=hk k hk2;rw[aR,aU hk2]at this;exact this hz
  by_cases c:p.getD 0 0=0
  .have e:=l0 c;subst e;exact hk 0 (cC _) ((cM5 hp).trans c)
  .exact key (l1 c z<|d60 hp hz)
def wX:Φ:=λds Q=> ∃t m:Int,ds=[.int t,.int m]/\t.natAbs<=2^20/\m.natAbs<=2^20/\ ∀l:List Int,(∀u∈l,u*(t-u)=m)->Q (.ow<|l.map .int)
def aA2:US:=(aQ (fH (dJ<|uOp (gP true) (uOp dQ (aC 3)<|aC 3)<|aC 2) (dU<|fT aM) cW)<|dU<|fT<|a7 (uOp aN8 (uOp fE (aC 0)<|aC 3)<|@2)<|a7 (uOp aN8 (uOp M.gSub (aC 0)<|aC 3)<|@2) aM)
def aA3:US:=(aQ (bF 3<|aS aZ8<|a7 (aC 2) aM) aA2)
def aA4:US:=(aQ (fH (dJ<|uOp (w6 λi j=>decide (i<j)) (aC 2)<|@0) (dU<|fT aM) cW) aA3)
def wY:US:=(aQ (bF 2<|uOp M.gSub (uOp dQ (aC 0)<|aC 0)<|uOp dQ @4<|aC 1) aA4)
theorem par {t g m:Int}(h:g*g=t*t-4*m):(t+g)%2=0/\(t-g)%2=0:=by
 have h1:(t-g)*(t+g)=4*m:=by grind
 rcases Int.emod_two_eq (t+g)with c|c
 .exact⟨c,ad⟩
 .exfalso
  obtain⟨a,ha⟩: ∃a,t+g=2*a+1:=⟨(t+g)/2,ad⟩
  obtain⟨b,hb⟩: ∃b,t-g=2*b+1:=⟨(t-g)/2,ad⟩
  rw[ha,hb]at h1;have:2*(2*(b*a)+b+a-2*m)+1=0:=by grind
  lia
theorem bK9: Ra wX wY ["t","m","s","g"]:=by
 rintro ds Q ⟨t,m,rfl,ht,hm,h⟩;have p20:(2:Nat)^20=1048576:=ac
 have tt:(t*t).natAbs<=2^20*2^20:=bK7 ht ht;unfold wY;show(aQ _ _:US) _ [!t,!m,none,none];rw[aN];left;refine⟨cmL aa aa,cmL ac ac,?_⟩
 generalize esq:t*t-4*m=sq;have sqb:sq.natAbs<=2^60:=by
  have:(2:Nat)^60=1152921504606846976:=ac
  have:(2:Nat)^20*2^20=1099511627776:=ac
  omega
 have p60:(2:Nat)^60=1152921504606846976:=ac
 unfold aA4;rw[aN];left
 by_cases s0:sq<0
 .rw[aA s0];exact⟨ac,h [] ae⟩
 rw[a8 s0];unfold aA3;rw[aN];left;refine⟨sq,rfl,aa,Sm.pow sqb ac,λg g0 g1=> ?_⟩
 unfold aA2;right;rw[aN];left;refine⟨cmL aa aa,?_⟩
 by_cases c:g*g=sq
 .rw[a8 λz=>z c,mR _ ac,mR _ ac]
  have pp:=par (t:=t) (g:=g) (m:=m) (by rw[c,esq])
  refine⟨⟨ac,aY7 ac ac⟩,⟨ac,aY7 ac ac⟩,ac,?_⟩
  refine h [(t+g)/2,(t-g)/2] λu hu=> ?_
  have:4*(u*(t-u))=4*m:=by
   rcases aZ.mp hu with rfl|hu
   .obtain⟨y,hy⟩: ∃y,(t+g)/2=y:=⟨_,rfl⟩;have:g=2*y-t:=aa
    rw[hy];rw[this]at c
    grind
   .rw[jM.mp hu];obtain⟨y,hy⟩: ∃y,(t-g)/2=y:=⟨_,rfl⟩;have:g=t-2*y:=aa
    rw[hy];rw[this]at c
    grind
  omega
 .rw[aA c];exact⟨ac,h [] ae⟩
theorem na2 {A B:Nat}(h:a.natAbs<=A)(h2:b.natAbs<=B):(a+b).natAbs<=A+B:=aK (zH a b) (Nat.add_le_add h h2)
def d61 (g:UG)(tb:US)(E:UD)(b:B)(ρ1:Ev):Prop:=match oY b.d with
 | some l=> ∃Pv:Nat->Ev->Prop,Pv 0 ρ1/\(∀i ρ,i<l.length->Pv i ρ->g (.pu<|l.getD i .non) ρ λρ2=>tb {E with nx:=Pv (i+1),ct:=Pv (i+1),bk:=E.nx} ρ2)/\ ∀ρ,Pv l.length ρ->E.nx ρ
 | none=>False
theorem bD9 {φ:Φ}{t:UA}:gW (fU<|aS φ t) g tb E ρ=t ρ λds ρ1=>φ ds λb=>d61 g tb E b ρ1:=rfl
theorem b27 {ρ1:Ev}(l:List Int)(Pv:Nat->Ev->Prop)(h0:Pv 0 ρ1)(hs: ∀i ρ,i<l.length->Pv i ρ->g (.pu<|.int<|l.getD i 0) ρ λρ2=>tb {E with nx:=Pv (i+1),ct:=Pv (i+1),bk:=E.nx} ρ2)(hd: ∀ρ,Pv l.length ρ->E.nx ρ):d61 g tb E (.ow<|l.map .int) ρ1:=by
 show ∃Pv:Nat->Ev->Prop,Pv 0 ρ1/\(∀i ρ,i< (l.map D.int).length->Pv i ρ->g (.pu<|(l.map D.int).getD i .non) ρ λρ2=>tb {E with nx:=Pv (i+1),ct:=Pv (i+1),bk:=E.nx} ρ2)/\ ∀ρ,Pv (l.map D.int).length ρ->E.nx ρ
 rw[aJ];refine⟨Pv,h0,λi ρ hi hp=> ?_,hd⟩
 have e3:(l.map D.int).getD i .non= .int (l.getD i 0):=by
  rw[aR,bP,aU hi,aR,aU hi];rfl
 rw[e3];exact hs i ρ hi hp
theorem bQ0 (hi:i<l.length):l.getD i 0∈l:=by rw[aR,aU hi];exact cL hi
def kB:Φ:=λds Q=> ∃a b c d:Int,ds=[aL [a,b,c,d,1]]/\(∀x∈[a,b,c,d],x.natAbs<=499)/\a≠0/\Q (.pu .non)/\((∃v u w s,[a,b,c,d,1]=qq v u w s)-> ∀x y,Q<|.pu<|.tup [x,y])
def kC:US:=(aQ (gW (fU<|aS rH<|a7 (uIx (aW 0)<|@0) aM) (bY 1)<|aQ (bF 2<|uOp aN8 (uIx (aW 0)<|@0)<|aC 1)<|gW (fU<|aS wX<|a7 (uIx (aW 0)<|@3)<|a7 (uOp M.gSub (uOp M.gSub (uIx (aW 0)<|@2)<|aC 1)<|aC 2) aM) (bY 3)<|aQ (bF 4<|uOp M.gSub (uIx (aW 0)<|@3)<|aC 3)<|fH (dJ<|uOp (gP false) (uOp fE (uOp dQ (aC 3)<|aC 2)<|uOp dQ (aC 1)<|aC 4)<|uIx (aW 0)<|@1) (dU<|gL<|a7 (gL<|a7 (aC 1)<|a7 (aC 3)<|a7 @1 aM)<|a7 (gL<|a7 (aC 2)<|a7 (aC 4)<|a7 @1 aM) aM) cW)<|dU<|uC .non)
theorem cS1 {u t m:Int}(h:u*(t-u)=m)(ht:t.natAbs<=2^20)(hm:m.natAbs<=2^20):u.natAbs<=2^20:=by
 by_cases c:t-u=0
 .have:u=t:=ad
  rw[this];exact ht
 .have h1:m.natAbs=u.natAbs*(t-u).natAbs:=by rw[<-h,eK]
  have h2:u.natAbs*1<=u.natAbs*(t-u).natAbs:=u7 _ ad
  lia
theorem a70: Ra kB kC ["p","v","w","u","s"]:=by
 rintro ds Q ⟨a,b,c,d,rfl,hs,a0,hn,hy⟩;simp only[aL6]at hs;obtain⟨ha,hb,hc,hd,_⟩:=hs;have p20:(2:Nat)^20=1048576:=ac
 unfold kC;show(aQ _ _:US) _ [~~~.tup [.int a,.int b,.int c,.int d,.int 1],none,none,none,none];have i0:atI [D.int a,.int b,.int c,.int d,.int 1] 0=some (.int a):=cB (j:=0) rfl;have i1:atI [D.int a,.int b,.int c,.int d,.int 1] 1=some (.int b):=cB (j:=1) rfl;have i2:atI [D.int a,.int b,.int c,.int d,.int 1] 2=some (.int c):=cB (j:=2) rfl
 have i3:atI [D.int a,.int b,.int c,.int d,.int 1] 3=some (.int d):=cB (j:=3) rfl;rw[aN,bD9];left;rw[i0];refine⟨a,rfl,ha,λl _ _ lb=> ?_⟩
 refine b27 l (λi ρ=> ∃z1 z2 z3 z4,ρ=[~~~.tup [.int a,.int b,.int c,.int d,.int 1],z1,z2,z3,z4]) ⟨none,none,none,none,rfl⟩ ?_ ?_
 .rintro i ρ hi ⟨z1,z2,z3,z4,rfl⟩;obtain⟨vd,vb⟩:=lb _ (bQ0 hi);generalize l.getD i 0=v at vb vd;obtain⟨w,rfl⟩:=vd;have v0:v≠0:=λz=>a0 (by rw[z,a01])
  have wb:w.natAbs<=499:=by
   rw[eK]at ha;have:1*w.natAbs<=v.natAbs*w.natAbs:=aL4 _ ad
   lia
  refine⟨ae,?_⟩
  show(aQ _ _:US) _ [~~~.tup [.int<|v*w,.int b,.int c,.int d,.int 1],!v,z2,z3,z4]
  rw[aN,iM];left;rw[i0];right;rw[Int.mul_fdiv_cancel_left _ v0];refine⟨⟨v0,aY7 ad ad⟩,?_⟩
  rw[bD9];left;rw[i3,i2];right;refine⟨d,c-v-w,rfl,ad,ad,λus hus=> ?_⟩
  refine b27 us (λj ρ=> ∃z3 z4,ρ=[~~~.tup [.int<|v*w,.int b,.int c,.int d,.int 1],!v,!w,z3,z4]) ⟨_,_,rfl⟩ ?_ ?_
  .rintro j ρ hj ⟨z3,z4,rfl⟩;have um:=hus _ (bQ0 hj);generalize us.getD j 0=u at um;have ub:=cS1 um ad ad
   refine⟨ae,?_⟩
   show(aQ _ _:US) _ [~~~.tup [.int<|v*w,.int b,.int c,.int d,.int 1],!v,!w,!u,z4]
   rw[aN];left;rw[i3];right;rw[i1];refine⟨cmL ad ad,cmL ad ad,?_⟩
   right
   by_cases q:u*w+v*(d-u)=b
   .rw[aA q];refine⟨ac,ac,ac,hy ⟨v,u,w,d-u,?_⟩ _ _⟩
    unfold qq;rw[<-q];have e1:v+w+u*(d-u)=c:=by rw[um];lia
    have e2:u+(d-u)=d:=ad
    rw[e1,e2]
   .rw[a8 q];exact⟨_,_,rfl⟩
  .rintro ρ ⟨z3,z4,rfl⟩;exact⟨_,_,_,_,rfl⟩
 .rintro ρ ⟨z1,z2,z3,z4,rfl⟩;left;exact hn
def aO6:Φ:=λds Q=> ∃p:List Int,ds=[aL p]/\dZ p/\(NoZ p->Q (.pu .non))/\(Red p-> ∀x y,Q<|.pu<|.tup [x,y])
def rY:US:=(oX 1)
def aA5:US:=(aQ (fH (cD1 (dJ<|bJ9 false<|aC 1)<|dJ<|uOp (gP false) (kT<|aW 0)<|@5) (bF 1<|aS kB<|a7 (aC 0) aM) cW) rY)
def b28:US:=(aQ (bF 1<|aS nR<|a7 (aC 0) aM) aA5)
def aO7:US:=(aQ (kU<|aS gQ<|a7 (aC 0) aM) b28)
theorem cG8: Ra aO6 aO7 ["p","q"]:=by
 rintro ds Q ⟨p,rfl,hp,hn,hy⟩;unfold aO7;show(aQ _ _:US) _ [~~~.tup (p.map .int),none];rw[aN];left;refine⟨p,rfl,hp,?_⟩;try right
 unfold b28;rw[aN];left;refine⟨p,rfl,hp,λnr=> ?_,λred x y=> ?_⟩
 .try right
  unfold aA5;rw[aN];left;rw[aJ]
  by_cases c:(p.length:Int)=5
  .simp only[c,hX];have sm:=hp.ok.small;rcases hp.cs with⟨a,b,rfl⟩| ⟨a,b,c',rfl⟩| ⟨a,b,c',d,rfl⟩
   .simp at c
   .simp at c
   .simp only[aL6]at sm;refine⟨a,b,c',d,rfl,by simp only[aL6];exact⟨sm.1,sm.2.1,sm.2.2.1,sm.2.2.2.1,ae⟩,λz=>nr 0 ((cM5 hp).trans z),?_,λq x y=> ?_⟩
    .unfold rY;left;exact hn nr
    .unfold rY;left;exact hy (.inr q) _ _
  .simp only[c,hX,qD];unfold rY;left;exact hn nr
 .try right
  unfold aA5;rw[aN];left;unfold rY;left;exact hy (.inl red) _ _
nonrec def fOf (p:List Int):∅:=λj=>p.getD j 0
theorem dZ.rf (h:dZ p):RF (p.length-1) (fOf p):=by
 have lo:=h.ok.lo;have hi:=h.ok.hi;refine⟨aa,aa,?_,λj hj=> ?_,λj=> ?_⟩
 .obtain⟨q,rfl⟩:=h.one;show(q++[1]).getD _ 0=1;rw[bO,aR,gZ ae]
  simp
 .show p.getD j 0=0
  rw[aR,eV aa]
  rfl
 .exact aK (eZ h.ok.small j) ac
theorem dZ.row (h:dZ p):aL p=aL (rwF (p.length-1+1)<|fOf p):=by
 have lo:=h.ok.lo;have e:=bC5 p;rw[show p.length-1+1=p.length by omega]
 exact dN aL e
def aA6:Φ:=λds Q=> ∃(r:List Int) (k:Int),ds=[aL r,.int k]/\r.length<=1000/\ -1000<=k/\k<=1000/\Q (.pu<|aL<|r++replicate (k-(r.length:Int)).toNat 0)
def aA7:US:=(dU<|uOp fE (aC 0)<|uOp bP1 (gL<|a7 @0 aM)<|uOp M.gSub (aC 1)<|kT<|aW 0)
theorem c55: Ra aA6 aA7 ["r","s"]:=by
 rintro ds Q ⟨r,k,rfl,hr,k0,k1,h⟩;unfold aA7;simp only[aL];show(dU _:US) _ [~~~.tup (r.map .int),!k];left;rw[aJ];have e:(replicate (k-(r.length:Int)).toNat [D.int 0]).flatten=(replicate (k-(r.length:Int)).toNat 0).map D.int:=mS _ _;rw[e,<-cH];refine⟨ac,⟨ae,ad,ad,aK (show 1*(k-(r.length:Int)).toNat<=1000 by lia) ac⟩,?_,h⟩
 rw[aJ,kI];exact aK (show r.length+(k-(r.length:Int)).toNat<=3000 by lia) ac
def j3:ΦX:=λds Q Ex=> ∃p:List Int,ds=[aL p]/\dZ p/\(NoZ p->Q (.pu .non))/\(Red p-> ∀es,Ex "FallsApart" es)
def mJ:USX:=(λEx=>aQ ((λ_=>(bF 1<|aS aO6<|a7 (aC 0) aM)) Ex) ((λEx=>fH (dJ<|bJ9 true<|aC 1) ((aS5 "FallsApart" (uIx (aW 1)<|@0)<|uIx (aW 1)<|@1) Ex) ((λ_=>cW) Ex)) Ex))
theorem aA8: ∀ds Q Ex,j3 ds Q Ex->ds.length=1:=by rintro ds Q Ex ⟨p,rfl,_⟩;rfl
theorem aG8: ∀ds Q Ex,j3 ds Q Ex->mJ Ex {Q with} (init ["p","q"] ds):=by
 rintro ds Q Ex ⟨p,rfl,rp,h0,h1⟩;unfold mJ;right;show(aQ _ _:US) _ [~~~aL p,none];rw[aN];left;refine⟨p,rfl,rp,λnz=> ?_,λred x y=> ?_⟩
 .left
  simpa using h0 nz
 .left
  simp only[at0,at1];exact h1 red _
def lP:ΦX:=λds Q Ex=> ∃(p:List Int) (size:Int),ds=[aL p,.int size]/\dZ p/\Q (.pu .non)/\((∃q g,dJ1 (p.length-1) (fOf p) size q g)-> ∀es,Ex "NotWhole" es)
def qN:USX:=(λEx=>aQ ((λ_=>(bF 2<|aS sP<|a7 (aC 0)<|a7 (aS uZ<|a7 (aC 0)<|a7 (aC 1) aM) aM)) Ex) ((λEx=>fH (dJ<|bJ9 true<|aC 2) ((λEx=>aQ ((λ_=>(cY6 (aC 2)<|rN<|eC 3<|eC 4 rM)) Ex) ((aS5 "NotWhole" (aC 3)<|aS aA6<|a7 (aS cA<|a7 (eI [3] [none,some 3,none] 2 (fU<|aC 4) (bY 0) (λρ Q=>Q true ρ)<|uOp lL (aC 0)<|aC 1) aM)<|a7 (uOp M.gSub (kT<|aW 0)<|@1) aM) Ex)) Ex) ((λ_=>cW) Ex)) Ex))
theorem aT6: ∀ds Q Ex,lP ds Q Ex->ds.length=2:=by rintro ds Q Ex ⟨p,size,rfl,_⟩;rfl
theorem b00: ∀ds Q Ex,lP ds Q Ex->qN Ex {Q with} (init ["p","s","o","q","f"] ds):=by
 rintro ds Q Ex ⟨p,size,rfl,rp,h0,h1⟩;have rf:=rp.rf;rw[rp.row];generalize p.length-1=n at *;generalize fOf p=f at *;unfold qN;right;show(aQ _ _:US) _ [~~~aL (rwF (n+1) f),!size,none,none,none];rw[aN];left;refine⟨n,f,size,rfl,rf,λl hl hP=>⟨n,f,size,l,rfl,rf,hl,hP,?_,λq g outs=> ?_⟩⟩
 .left
  exists h0
 .have pp:=aZ4 outs.pr;have p2:=pp.lo;have p3:=pp.hi;have ql:(dJ2 n f g).length<=5:=by
   unfold dJ2;rw[a17];have:=a22 (a24 g.2 g.1 (n+1-g.1) f) (n+1-g.1);have:=rf.n4
   lia
  generalize dJ2 n f g=r at *;simp only[aL];left;refine⟨ac,ac,trivial,?_⟩
  refine dR (t0:=0) r.length (λk=>(r.map D.int).getD k .non) [~~~.tup ((rwF (n+1) f).map .int),!size,~~~.tup [.int q,.tup<|r.map .int],!q,~~~.tup (r.map .int)] (λQ' q=> ?_) ad (λx l'=>[x,!q,↑l']) none rfl (λ_ _ _=>rfl) (λ_ _=>cC _) (λ_ _ _ q=>q) (λ_ _ _=>rfl) (λk=> .int (r.getD k 0%q)) ?_ ?_
  .left
   rw[aJ];exact q
  .intro k l' Q' hk q';have e3:(r.map D.int).getD k .non= .int (r.getD k 0):=by
    rw[aR,bP,aR,aU hk];rfl
   rw[e3]at q'⊢;left;refine⟨ad,?_⟩
   rw[cU _ ad]
   exact q'
  .have e4:(List.range r.length).map (λk=>D.int (r.getD k 0%q))=((List.range r.length).map λk=>r.getD k 0%q).map D.int:=by rw[kO];rfl
   rw[e4];have n4:=rf.n4;left;refine⟨_,_,rfl,by rw[aJ,kL];lia,?_,?_,h1 ⟨q,g,outs⟩ _⟩
   .rw[b7];lia
   .rw[b7];lia
structure cG9 (p:List Int):Prop where
 rp:dZ p
 irr: ¬Red p
 meas:(lN 4<|i8 p).natAbs<=39999
 whole: ¬ ∃q g,dJ1 (p.length-1) (fOf p) (lN 4<|i8 p) q g
def rZ:ΦM:=λds Q Ex=> ∃p:List Int,ds=[aL p]/\dZ p/\(NoZ p->(lN 4<|i8 p).natAbs<=39999->Q [aL p,.int<|(p.length:Int)-1,.int<|lN 4<|i8 p])/\(Red p-> ∀es,Ex "FallsApart" es)/\(¬cG9 p->Ex "TooGreat" []/\ ∀es,Ex "NotWhole" es)
def bE0:USX:=(λEx=>aQ ((λ_=>(kU<|aS gQ<|a7 (aC 1) aM)) Ex) ((λEx=>aQ ((λEx=>kU (mF j3 (a7 (aC 1) aM) Ex)) Ex) ((λEx=>aQ ((λ_=>(bF 2<|aS a26<|a7 (aC 1) aM)) Ex) ((λEx=>aQ ((λEx=>fH (dJ<|uOp (w6 λi j=>decide (j<i)) (aS cD7<|a7 (aC 2) aM)<|@39999) ((bB5 "TooGreat"<|a7 (uC<|.str "a ring's measure is from -39,999 to 39,999") aM) Ex) ((λ_=>cW) Ex)) Ex) ((λEx=>kU (mF lP (a7 (aC 1)<|a7 (aC 2) aM) Ex)) Ex)) Ex)) Ex)) Ex))
def bE1:UE:=(aC 1)
def bE2:UE:=(uOp M.gSub (kT<|aW 1)<|@1)
def bE3:UE:=(aC 2)
theorem cS2: ∀ds Q Ex,rZ ds Q Ex->ds.length+1=2:=by rintro ds Q Ex ⟨p,rfl,_⟩;rfl
theorem d62: ∀a ds Q Ex,rZ ds Q Ex->bE0 Ex {nx:=λρ=>ρ[0]? =some (~~~.adr a)/\bE1 ρ λb1 ρ1=>bE2 ρ1 λb2 ρ2=>bE3 ρ2 λb3 _=>Q [b1.d,b2.d,b3.d],rt:=λ_=>False} (init ["s","p","m"] (.adr a::ds)):=by
 rintro a ds Q Ex ⟨p,rfl,rp,h0,hr,h1⟩;have lo:=rp.ok.lo;unfold bE0;right;show(aQ _ _:US) _ [~~~.adr a,~~~aL p,none];rw[aN];left;refine⟨p,rfl,rp,?_⟩;left;refine⟨p,rfl,rp,λnz=> ?_,hr⟩
 refine⟨p,rfl,rp,?_⟩
 left
 by_cases c:(39999:Int)< (if lN 4 (i8 p)<0 then -lN 4 (i8 p)else lN 4 (i8 p))
 .rw[aA c];refine⟨ac,(h1 λz=> ?_).1⟩
  have:=z.meas;split at c<;>omega
 .rw[a8 c];have me:(lN 4<|i8 p).natAbs<=39999:=by split at c<;>omega
  refine⟨p,lN 4<|i8 p,rfl,rp,⟨trivial,?_⟩,λo=>(h1 λz=>z.whole o).2⟩
  unfold bE1 bE2 bE3;simp only[aL];left;rw[aJ];exact h0 nz me
nonrec def bW7 (r:List Int)(m:Int):Bool:=r.any λc=>decide (c%m≠0)
nonrec def cH0 (p:List Int)(size:Int):Bool:=prL.all λq=>decide (size%(q*q)≠0)||
 ((List.range q.toNat).all (λc=>bW7 (bD7 (p.length-1) (fOf p)<|bD5 (c:Int)) (q*q))&&
   (decide (p.length≠5)||(List.range q.toNat).all λv=>(List.range q.toNat).all λu=>bW7 (bD7 (p.length-1) (fOf p)<|quF (v:Int) (u:Int)) (q*q)))
theorem mp_one {p:Int}{F:Nat×∅}(mp:MP p F.1 F.2)(h1:F.1=1):F=bD5 (F.2 0):=by
 refine Prod.ext h1 (funext λj=> ?_)
 show F.2 j=if j=0 then F.2 0 else if j=1 then 1 else 0
 by_cases c0:j=0
 .rw[aA c0,c0]
 .by_cases c1:j=1
  .rw[a8 c0,aA c1,c1];have:=mp.top;rw[h1]at this;exact this
  .rw[a8 c0,a8 c1];exact mp.hi j ad
theorem mp_two {p:Int}{F:Nat×∅}(mp:MP p F.1 F.2)(h2:F.1=2):F=quF (F.2 0) (F.2 1):=by
 refine Prod.ext h2 (funext λj=> ?_)
 show F.2 j=if j=0 then F.2 0 else if j=1 then F.2 1 else if j=2 then 1 else 0
 by_cases c0:j=0
 .rw[aA c0,c0]
 .by_cases c1:j=1
  .rw[a8 c0,aA c1,c1]
  .by_cases c2:j=2
   .rw[a8 c0,a8 c1,aA c2,c2];have:=mp.top;rw[h2]at this;exact this
   .rw[a8 c0,a8 c1,a8 c2];exact mp.hi j ad
theorem aT7 {m:Int}(h: ∀c∈r,c%m=0):bW7 r m=false:=by
 unfold bW7;rw[List.any_eq_false];intro c hc;simp[h c hc]
theorem c56 {size:Int}(rp:dZ p)(h:cH0 p size=true): ¬ ∃q g,dJ1 (p.length-1) (fOf p) size q g:=by
 rintro⟨q,g,o⟩;have lo:=rp.ok.lo;have hi:=rp.ok.hi;have pp:=aZ4 o.pr;have h1:=dD.mp h q o.pr;rw[zR,cZ]at h1;have nz: ¬decide (size%(q*q)≠0)=true:=by rw[gE];exact λz=>z o.sq
 obtain⟨h2,h3⟩:=h1.resolve_left nz;have dg:=o.tw;have g1:=o.g1
 by_cases c1:g.1=1
 .have eg:=mp_one o.mg c1;have r0:=o.mg.rng 0;have h4:=dD.mp h2 (g.2 0).toNat (dX.mpr ad)
  rw[show(((g.2 0).toNat:Nat):Int)=g.2 0 by lia,<-eg,aT7 o.all]at h4
  cases h4
 .have c2:g.1=2:=ad
  have eg:=mp_two o.mg c2;have r0:=o.mg.rng 0;have r1:=o.mg.rng 1;have n5: ¬decide (p.length≠5)=true:=by rw[gE];lia
  have h4:=(zR _ _▸h3).resolve_left n5;have h5:=dD.mp (dD.mp h4 (g.2 0).toNat<|dX.mpr ad) (g.2 1).toNat (dX.mpr ad)
  rw[show(((g.2 0).toNat:Nat):Int)=g.2 0 by lia,show(((g.2 1).toNat:Nat):Int)=g.2 1 by lia,<-eg,aT7 o.all]at h5
  cases h5
nonrec def qO:List (List Int):=[[5,0,1],[-10,0,1],[6,1,1],[-3,0,1],[-1,-1,0,1],[-2,0,0,1],[-1,4,0,1],[1,0,0,0,1],[-1,-1,0,0,1],[1,1,1,1,1],[-2,0,0,0,1],[1,0,-1,0,1]]
theorem c57:qO.all (λp=>cH0 p (lN 4<|i8 p)&&decide ((lN 4<|i8 p).natAbs<=39999))=true:=af
theorem v9: ∀p∈qO,dZ p:=by
 intro p hp;have h:qO.all (λp=>decide (3<=p.length)&&decide (p.length<=5)&&p.all (λx=>decide (x.natAbs<=499))&&decide (p=p.dropLast++[1]))=true:=af
 have h1:=dD.mp h p hp;simp only[cZ,gE,dD]at h1;exact⟨⟨h1.1.1.1,h1.1.1.2,h1.1.2⟩,p.dropLast,h1.2⟩
theorem cM6 (f:∅)(z:Int): ∀n,∃k,ps f z (n+1)=f 0+z*k
 | 0=>⟨0,by show 0+f 0*z^0=_;rw[pow_zero,uE,kP];lia⟩
 | n+1=>by
  obtain⟨k,hk⟩:=cM6 f z n;refine⟨k+f (n+1)*z^n,?_⟩;show ps f z (n+1)+f (n+1)*z^(n+1)=_;rw[hk,Int.pow_succ]
  grind
theorem aO8 (h:z∣a)(ha:a≠0):z.natAbs<=a.natAbs:=Nat.le_of_dvd ad (Int.natAbs_dvd_natAbs.mpr h)
theorem bW8:qO.all (λp=>decide (p.getD 0 0≠0)&&decide ((p.getD 0 0).natAbs<=10)&&(List.range 21).all λk=>decide (ev p ((k:Int)-10)≠0))=true:=af
theorem cH1:qO.all (λp=>decide (p.length≠5)||(decide ((p.getD 0 0).natAbs<=2)&&decide ((p.getD 2 0).natAbs<=1)&&decide ((p.getD 3 0).natAbs<=1)&&
  (List.range 5).all λv=>(List.range 5).all λw=>(List.range 7).all λu=>(List.range 9).all λs=>decide (p≠qq ((v:Int)-2) ((u:Int)-3) ((w:Int)-2) ((s:Int)-4))))=true:=af
theorem d63 {u:Int}(h1:(u+s).natAbs<=1)(h2:(u*s).natAbs<=5):u.natAbs<=3:=by
 refine aJ4 λz=> ?_
 rcases(show 4<=u\/u<= -4 by lia)with c|c
 .have:4*3<=u*(-s):=zS c ad ac ad
  rw[Int.mul_neg]at this
  lia
 .have:4*3<=(-u)*s:=zS ad ad ac ad
  rw[Int.neg_mul]at this
  lia
theorem off {c:Nat}(h:z.natAbs<=c): ∃k:Nat,k<2*c+1/\(k:Int)-(c:Int)=z:=⟨(z+c).toNat,ad,ad⟩
theorem bQ1: ∀p∈qO,¬Red p:=by
 intro p hp;have h1:=dD.mp bW8 p hp;simp only[cZ,gE,dD,dX]at h1;obtain⟨⟨a0,a1⟩,a2⟩:=h1;have lo:=(v9 p hp).ok.lo;rintro(⟨z,hz⟩| ⟨v,u,w,s,e⟩)
 .unfold ev at hz;obtain⟨k,hk⟩:=cM6 (λj=>p.getD j 0) z (p.length-1)
  rw[show p.length-1+1=p.length by omega,hz]at hk
  have dv:z∣p.getD 0 0:=⟨-k,by rw[Int.mul_neg];omega⟩
  obtain⟨k,hk,ez⟩:=off (c:=10) (aK (aO8 dv a0) a1);refine a2 k hk ?_;rw[show((10:Nat):Int)=10 from rfl]at ez
  rw[ez];exact hz
 .have h2:=dD.mp cH1 p hp;have l5:p.length=5:=by rw[e];rfl
  rw[zR]at h2;have h3:=h2.resolve_left (by rw[gE];omega)
  simp only[cZ,gE,dD,dX]at h3;obtain⟨⟨⟨b0,b2⟩,b3⟩,b4⟩:=h3;have e0:p.getD 0 0=v*w:=by rw[e];rfl
  have e2:p.getD 2 0=v+w+u*s:=by rw[e];rfl
  have e3:p.getD 3 0=u+s:=by rw[e];rfl
  have v2:=aO8 (z:=v) ⟨w,e0⟩ a0;have w2:=aO8 (z:=w) ⟨v,by rw[e0,uD]⟩ a0
  rw[e2]at b2;rw[e3]at b3;have ng: ∀{z:Int} {A:Nat},z.natAbs<=A->(-z).natAbs<=A:=λh=>by rw[natAbs_neg];exact h
  have u3:=d63 b3 (by
   have:=na2 (na2 b2<|ng<|aK v2 b0) (ng<|aK w2 b0);rw[show v+w+u*s+ -v+ -w=u*s by grind]at this
   exact this)
  obtain⟨kv,hv,ev⟩:=off (c:=2) (aK v2 b0);obtain⟨kw,hw,ew⟩:=off (c:=2) (aK w2 b0);obtain⟨ku,hu,eu⟩:=off u3;obtain⟨ks,hs,es⟩:=off (z:=s) (c:=4) (by
   have:=na2 b3 (ng u3);rw[show u+s+ -u=s by lia]at this
   exact this)
  refine b4 kv hv kw hw ku hu ks hs ?_
  subst ev ew eu es;exact e
theorem bE4: ∀p∈qO,cG9 p:=by
 intro p hp;have h1:=dD.mp c57 p hp;simp only[cZ,gE]at h1;exact⟨v9 p hp,bQ1 p hp,h1.2,c56 (v9 p hp) h1.1⟩
nonrec def jG (C:Addr)(p:List Int):D:= .obj C ["poly","degree","measure"] [aL p,.int<|(p.length:Int)-1,.int<|lN 4<|i8 p]
theorem aA9 {C:Addr}(h:ρ[i]? =some (~~~jG C p)):bK2 "degree" (aC i) ρ Q=Q (.pu<|.int<|(p.length:Int)-1) ρ:=by
 unfold bK2;rw[bW0 h];rfl
theorem bQ2 {C:Addr}(h:ρ[i]? =some (~~~jG C p)):bK2 "poly" (aC i) ρ Q=Q (.pu<|aL p) ρ:=by
 unfold bK2;rw[bW0 h];rfl
nonrec def ttF (p:List Int)(n:Nat)(u:∅):∅:=λi=>(if i=0 then 0 else u (i-1))-u (n-1)*p.getD i 0
nonrec def itT (p:List Int)(n:Nat)(u:∅):Nat->∅
 | 0=>u
 | k+1=>ttF p n (itT p n u k)
nonrec def bL0 (n:Nat)(f:∅):Int:=((List.range n).map f).sum
nonrec def tK (p:List Int)(n:Nat)(u v:∅):∅:=λj=>bL0 n λi=>v i*itT p n u i j
theorem cS3 {a:Nat}(hp: ∀x∈p,x.natAbs<=499)(hu: ∀j,(u j).natAbs<=2^a)(j:Nat):(ttF p n u j).natAbs<=2^(a+9):=by
 unfold ttF;have h1:(if j=0 then(0:Int)else u (j-1)).natAbs<=2^a:=by
  split
  .simp
  .exact hu _
 have h2:(u (n-1)*p.getD j 0).natAbs<=2^a*499:=by rw[eK];exact gG (hu _) (eZ hp j)
 have h3:=aM8 (if j=0 then(0:Int)else u (j-1)) (u (n-1)*p.getD j 0);rw[iV];have:(2:Nat)^9=512:=rfl
 lia
theorem aF3 {p:List Int}{n a:Nat}{u:∅}(hp: ∀x∈p,x.natAbs<=499)(hu: ∀j,(u j).natAbs<=2^a): ∀k j,(itT p n u k j).natAbs<=2^(a+9*k)
 | 0,j=>hu j
 | k+1,j=>by
  have:=cS3 (n:=n) hp (λj=>aF3 (n:=n) hp hu k j) j
  rw[mul_succ,<-zU];exact this
nonrec def b47 (p:List Int)(n k:Nat)(f:∅):∅:=λm=>if k-n<=m/\m<k then f m-f k*p.getD (m-(k-n)) 0 else f m
nonrec def a71 (p:List Int)(n:Nat)(f:∅):Nat->∅
 | 0=>f
 | t+1=>b47 p n (2*n-2-t) (a71 p n f t)
theorem red2 (p:List Int)(u v:∅)(hu: ∀j,2<=j->u j=0)(hv: ∀j,2<=j->v j=0): ∀j,j<2->a71 p 2 (conv u v 2) 1 j=tK p 2 u v j
 | 0,_=>by simp[a71,b47,conv,shF,tK,bL0,itT,ttF,cI,hv];grind
 | 1,_=>by simp[a71,b47,conv,shF,tK,bL0,itT,ttF,cI,hv];grind
theorem red3 (p:List Int)(u v:∅)(hu: ∀j,3<=j->u j=0)(hv: ∀j,3<=j->v j=0): ∀j,j<3->a71 p 3 (conv u v 3) 2 j=tK p 3 u v j
 | 0,_=>by simp[a71,b47,conv,shF,tK,bL0,itT,ttF,cI,hv];grind
 | 1,_=>by simp[a71,b47,conv,shF,tK,bL0,itT,ttF,cI,hv];grind
 | 2,_=>by simp[a71,b47,conv,shF,tK,bL0,itT,ttF,cI,hv];grind
theorem red4 (p:List Int)(u v:∅)(hu: ∀j,4<=j->u j=0)(hv: ∀j,4<=j->v j=0): ∀j,j<4->a71 p 4 (conv u v 4) 3 j=tK p 4 u v j
 | 0,_=>by simp[a71,b47,conv,shF,tK,bL0,itT,ttF,cI,hv];grind
 | 1,_=>by simp[a71,b47,conv,shF,tK,bL0,itT,ttF,cI,hv];grind
 | 2,_=>by simp[a71,b47,conv,shF,tK,bL0,itT,ttF,cI,hv];grind
 | 3,_=>by simp[a71,b47,conv,shF,tK,bL0,itT,ttF,cI,hv];grind
def aT8:Φ:=λds Q=> ∃(p:List Int) (n e:Nat) (u v:∅),ds=[aL p,aL<|rwF n u,aL<|rwF n v]/\dZ p/\p.length=n+1/\e<=8900/\(∀j,(u j).natAbs<=2^e)/\(∀j,(v j).natAbs<=2^e)/\(∀j,n<=j->u j=0)/\(∀j,n<=j->v j=0)/\Q (.pu<|aL<|rwF n<|tK p n u v)
def bQ3:US:=(dU<|aS cA<|a7 (uSl (aW 4) jT<|mO<|aC 3) aM)
def bQ4:US:=(aQ (gW (bA3<|a7 (uOp M.gSub (uOp dQ @2<|aC 3)<|@2)<|a7 (uOp M.gSub (aC 3)<|@1)<|a7 (kS<|@1) aM) (bY 7)<|gW (gN<|a7 (aC 3) aM) (bY 6)<|aQ (bF 8<|uOp fE (uOp M.gSub (aC 7)<|aC 3)<|aC 6)<|a56 4 (uOp M.gSub (uIx (aW 4)<|aC 8)<|uOp dQ (uIx (aW 4)<|aC 7)<|uIx (aW 0)<|aC 6)<|aC 8) bQ3)
def bQ5:US:=(aQ (gW (gN<|a7 (aC 3) aM) (bY 5)<|gW (gN<|a7 (aC 3) aM) (bY 6)<|a56 4 (uOp fE (uIx (aW 4)<|uOp fE (aC 5)<|aC 6)<|uOp dQ (uIx (aW 1)<|aC 5)<|uIx (aW 2)<|aC 6)<|uOp fE (aC 5)<|aC 6) bQ4)
def bQ6:US:=(aQ (bF 4<|uOp dQ (fT<|a7 @0 aM)<|uOp M.gSub (uOp dQ @2<|aC 3)<|@1) bQ5)
def bE5:US:=(aQ (bF 3<|uOp M.gSub (kT<|aW 0)<|@1) bQ6)
theorem bW9 {v:∅}(n2:2<=n)(n4:n<=4)(hu: ∀j,n<=j->u j=0)(hv: ∀j,n<=j->v j=0):rwF n (a71 p n (conv u v n)<|n-1)=rwF n (tK p n u v):=by
 refine j7 λj hj=> ?_
 rcases(show n=2\/n=3\/n=4 by lia)with rfl|rfl|rfl
 .exact red2 p u v hu hv j hj
 .exact red3 p u v hu hv j hj
 .exact red4 p u v hu hv j hj
nonrec def bL1 (p:List Int)(n k j:Nat)(f:∅):∅:=λm=>if k-n<=m/\m<k-n+j then f m-f k*p.getD (m-(k-n)) 0 else f m
theorem d64: Ra aT8 bE5 ["p","x","y","n","r","i","j","k","a"]:=by
 rintro ds Q ⟨p,n,e,u,v,rfl,rp,hn,he,hu,hv,uz,vz,h⟩;have lo:=rp.ok.lo;have hi:=rp.ok.hi;unfold bE5;simp only[aL];show(aQ _ _:US) _ [~~~.tup (p.map .int),~~~.tup ((rwF n u).map .int),~~~.tup ((rwF n v).map .int),none,none,none,none,none,none];rw[aN];left;rw[aJ,show(p.length:Int)-1=(n:Int)by lia]
 unfold bQ6;rw[aN];left;rw[show 2*(n:Int)-1=((2*n-1:Nat):Int)by lia,bW,aF1]
 refine⟨ac,cmL ac ac,⟨ad,ad,aK (show 1*(2*n-1)<=300 by lia) ac⟩,?_⟩
 unfold bQ5;rw[aN];refine bE n (λi=> .int (0+i)) [~~~.tup (p.map .int),~~~.tup ((rwF n u).map .int),~~~.tup ((rwF n v).map .int),!(n:Int),some<|.ow<|(rwF (2*n-1) λ_=>0).map .int,none,none,none,none] (λQ' q=> ?_)
  (λi ρ=> ∃x y,ρ=[~~~.tup (p.map .int),~~~.tup ((rwF n u).map .int),~~~.tup ((rwF n v).map .int),!(n:Int),↑((rwF (2*n-1)<|conv u v i).map .int),x,y,none,none]) ⟨none,none,rfl⟩ ?_ ?_
 .left
  refine⟨⟨ad,ad⟩,?_⟩
  rw[bW];exact q
 .rintro i ρ hi' ⟨x,y,rfl⟩;rw[dM];refine⟨ae,?_⟩
  show(gW _ _ _:US) _ [~~~.tup (p.map .int),~~~.tup ((rwF n u).map .int),~~~.tup ((rwF n v).map .int),!(n:Int),↑((rwF (2*n-1)<|conv u v i).map .int),!(i:Int),y,none,none]
  refine bE n (λj=> .int (0+j)) [~~~.tup (p.map .int),~~~.tup ((rwF n u).map .int),~~~.tup ((rwF n v).map .int),!(n:Int),↑((rwF (2*n-1)<|conv u v i).map .int),!(i:Int),y,none,none] (λQ' q=> ?_)
   (λj ρ=> ∃y,ρ=[~~~.tup (p.map .int),~~~.tup ((rwF n u).map .int),~~~.tup ((rwF n v).map .int),!(n:Int),some<|.ow<|(rwF (2*n-1) λm=>if m<i+j then conv u v (i+1) m else conv u v i m).map .int,!(i:Int),y,none,none]) ⟨y,by rw[cG5]⟩ ?_ ?_
  .left
   refine⟨⟨ad,ad⟩,?_⟩
   rw[bW];exact q
  .rintro j ρ hj ⟨y,rfl⟩;rw[dM];have hij:i+j<2*n-1:=ad
   have c2:(i:Int)+(j:Int)=((i+j:Nat):Int):=ad
   left
   rw[c2,kA hij,kA hi',kA hj];right;rw[b7,bV8 hij,a8<|show ¬i+j<i+j by lia]
   refine⟨ae,.inr ⟨Sm.pow (hu i) ad,Sm.pow (hv j) ad⟩,!(j:Int),?_⟩
   rw[a18 hij,cG7]
  .rintro ρ ⟨y,rfl⟩;rw[cG6 vz];exact⟨_,_,rfl⟩
 .rintro ρ ⟨x,y,rfl⟩;right;unfold bQ4;rw[aN];refine bE (n-1) (λt=> .int ((2*n-2:Nat)-(t:Int))) [~~~.tup (p.map .int),~~~.tup ((rwF n u).map .int),~~~.tup ((rwF n v).map .int),!(n:Int),↑((rwF (2*n-1)<|conv u v n).map .int),x,y,none,none] (λQ' q=> ?_)
   (λt ρ=> ∃y z w,ρ=[~~~.tup (p.map .int),~~~.tup ((rwF n u).map .int),~~~.tup ((rwF n v).map .int),!(n:Int),↑((rwF (2*n-1)<|a71 p n (conv u v n) t).map .int),x,y,z,w]) ⟨y,none,none,rfl⟩ ?_ ?_
  .left
   refine⟨cmL ac ac,trivial,⟨ad,ad,ad,ad⟩,?_⟩
   rw[show(2*(n:Int)-2-((n:Int)-1)).toNat=n-1 by lia,show 2*(n:Int)-2=((2*n-2:Nat):Int)by lia]
   exact q
  .rintro t ρ ht ⟨y,z,w,rfl⟩;obtain⟨k,hk⟩: ∃k:Nat,k=2*n-2-t:=⟨_,rfl⟩;rw[show((2*n-2:Nat):Int)-(t:Int)=(k:Int)by lia]
   generalize hf:a71 p n (conv u v n) t=f;refine⟨ae,?_⟩
   show(gW _ _ _:US) _ [~~~.tup (p.map .int),~~~.tup ((rwF n u).map .int),~~~.tup ((rwF n v).map .int),!(n:Int),↑((rwF (2*n-1) f).map .int),x,y,!(k:Int),w]
   refine bE n (λj=> .int (0+j)) [~~~.tup (p.map .int),~~~.tup ((rwF n u).map .int),~~~.tup ((rwF n v).map .int),!(n:Int),↑((rwF (2*n-1) f).map .int),x,y,!(k:Int),w] (λQ' q=> ?_)
    (λj ρ=> ∃y w,ρ=[~~~.tup (p.map .int),~~~.tup ((rwF n u).map .int),~~~.tup ((rwF n v).map .int),!(n:Int),↑((rwF (2*n-1)<|bL1 p n k j f).map .int),x,y,!(k:Int),w]) ⟨y,w,?_⟩ ?_ ?_
   .left
    refine⟨⟨ad,ad⟩,?_⟩
    rw[bW];exact q
   .have e0:bL1 p n k 0 f=f:=funext λm=>by unfold bL1;rw[a8 ad]
    rw[e0]
   .rintro j ρ hj ⟨y,w,rfl⟩;rw[dM];have hat:k-n+j<2*n-1:=ad
    have hkk:k<2*n-1:=ad
    have c2:(k:Int)-(n:Int)+(j:Int)=((k-n+j:Nat):Int):=ad
    have e5:atI (p.map D.int) (j:Int)=some (.int<|p.getD j 0):=cB (by rw[bP,aU ad,aR,aU ad];rfl)
    have e6:=eZ rp.ok.small j;left;rw[c2,kA hat,kA hkk,e5];right;rw[b7,bV8 hat];refine⟨ae,cmR ad ad,!(j:Int),!((k-n+j:Nat):Int),?_⟩
    rw[a18 hat];have e7:(λx=>if x=k-n+j then bL1 p n k j f (k-n+j)-bL1 p n k j f k*p.getD j 0 else bL1 p n k j f x)=bL1 p n k (j+1) f:=funext λm=>by
     unfold bL1
     by_cases c:m=k-n+j
     .rw[aA c,a8 ad,a8 ad,aA ad,c,show k-n+j-(k-n)=j by lia]
     .rw[a8 c]
      by_cases c3:k-n<=m/\m<k-n+j
      .rw[aA c3,aA ad]
      .rw[a8 c3,a8 ad]
    rw[e7]
   .rintro ρ ⟨y,w,rfl⟩;refine⟨y,!(k:Int),w,?_⟩;have e8:bL1 p n k n f=a71 p n (conv u v n) (t+1):=by
     show _=b47 p n (2*n-2-t) (a71 p n (conv u v n) t)
     rw[hf,<-hk];unfold bL1 b47
     funext m
     rw[show k-n+n=k by lia]
    rw[e8]
  .rintro ρ ⟨y,z,w,rfl⟩;right;unfold bQ3;left;rw[bV6 _ _ (by rw[b7];lia),<-nL,c46 _ _ _ ad,bW9 ad ad uz vz]
   exact h
nonrec def cz (n:Nat)(u:∅):∅:=λj=>if j<n then u j else 0
theorem cz_row (n:Nat)(u:∅):rwF n (cz n u)=rwF n u:=j7 λi hi=>aA hi
theorem d65 {j:Nat}(h:n<=j):cz n u j=0:=a8 ad
theorem d66 (h: ∀j,(u j).natAbs<=2^e)(j:Nat):(cz n u j).natAbs<=2^e:=by
 unfold cz;split
 .exact h j
 .exact eW _
nonrec def vA (k:Int):∅:=λj=>if j=0 then k else 0
theorem cM7 (k:Int)(h:1<=n):k::replicate (n-1) 0=rwF n (vA k):=by
 apply pU
 .rw[a17,dC,kI];lia
 .intro i h1 h2;simp only[rwF,List.getElem_map,List.getElem_range]
  match i with
  | 0=>rfl
  | i+1=>rw[List.getElem_cons_succ,List.getElem_replicate];rfl
nonrec def tbL (n:Nat)(t:Nat->∅):List (List Int):=(List.range n).map λi=>rwF n (t i)
theorem aT9 (n:Nat)(t:Nat->∅):(tbL n t).length=n:=by unfold tbL;rw[aJ,kL]
theorem d67 (n1:1<=n)(n4:n<=4)(he:e<2000)(h: ∀i j,i<n->(t i j).natAbs<=2^e):Sq 4 (tbL n t):=by
 refine⟨by rw[aT9];exact n1,by rw[aT9];exact n4,λr hr=> ?_,λr hr x hx=> ?_⟩
 .rw[aT9];obtain⟨i,hi,rfl⟩:=gI.mp hr;exact a17 _ _
 .obtain⟨i,hi,rfl⟩:=gI.mp hr;obtain⟨j,hj,rfl⟩:=gI.mp hx;exact pP (h i j<|dX.mp hi) (aL5 ac he)
theorem det_2 (T:Nat->∅):lN 4 (tbL 2 T)=1*T 0 0*(T 1 1)+(-1*T 1 0*(T 0 1)+0):=by kernel_rfl
theorem det_3 (T:Nat->∅):lN 4 (tbL 3 T)=1*T 0 0*(1*T 1 1*(T 2 2)+(-1*T 2 1*(T 1 2)+0))+(-1*T 1 0*(1*T 0 1*(T 2 2)+(-1*T 2 1*(T 0 2)+0))+(1*T 2 0*(1*T 0 1*(T 1 2)+(-1*T 1 1*(T 0 2)+0))+0)):=by kernel_rfl
theorem det_4 (T:Nat->∅):lN 4 (tbL 4 T)=1*T 0 0*(1*T 1 1*(1*T 2 2*(T 3 3)+(-1*T 3 2*(T 2 3)+0))+(-1*T 2 1*(1*T 1 2*(T 3 3)+(-1*T 3 2*(T 1 3)+0))+(1*T 3 1*(1*T 1 2*(T 2 3)+(-1*T 2 2*(T 1 3)+0))+0)))+(-1*T 1 0*(1*T 0 1*(1*T 2 2*(T 3 3)+(-1*T 3 2*(T 2 3)+0))+(-1*T 2 1*(1*T 0 2*(T 3 3)+(-1*T 3 2*(T 0 3)+0))+(1*T 3 1*(1*T 0 2*(T 2 3)+(-1*T 2 2*(T 0 3)+0))+0)))+(1*T 2 0*(1*T 0 1*(1*T 1 2*(T 3 3)+(-1*T 3 2*(T 1 3)+0))+(-1*T 1 1*(1*T 0 2*(T 3 3)+(-1*T 3 2*(T 0 3)+0))+(1*T 3 1*(1*T 0 2*(T 1 3)+(-1*T 1 2*(T 0 3)+0))+0)))+(-1*T 3 0*(1*T 0 1*(1*T 1 2*(T 2 3)+(-1*T 2 2*(T 1 3)+0))+(-1*T 1 1*(1*T 0 2*(T 2 3)+(-1*T 2 2*(T 0 3)+0))+(1*T 2 1*(1*T 0 2*(T 1 3)+(-1*T 1 2*(T 0 3)+0))+0)))+0))):=by kernel_rfl
nonrec def nrm (p:List Int)(n:Nat)(u:∅):Int:=lN 4 (tbL n<|itT p n u)
theorem bE6 (row:List Int)(s:Int): ∀k,(aZ7 row s k).length=row.length
 | 0=>rfl
 | k+1=>by unfold aZ7;rw[dL];exact bE6 row s k
theorem cM8 (p:List Int)(s:Int): ∀k,(shK p s k).length=p.length
 | 0=>rfl
 | k+1=>by unfold shK;rw[bE6];exact cM8 p s k
theorem d68 (h:k<n):ixN n (k:Int)=some k:=by
 unfold ixN;rw[aA ad,aA ad,bW]
theorem d69 (l:List Int)(k:Nat)(x:Int):(l.map D.int).set k (.int x)=(l.set k x).map D.int:=by rw[List.map_set]
def vB:Φ:=λds Q=> ∃(p:List Int) (s:Int),ds=[aL p,.int s]/\3<=p.length/\p.length<=5/\s.natAbs<=3/\Q (.pu<|aL<|shK p s<|p.length-1)
def aO9:US:=(aQ (bF 2<|aS aR9<|a7 (aC 0) aM)<|aQ (gW (gN<|a7 (uOp M.gSub (kT<|aW 2)<|@1) aM) (bY 3)<|gW (bA3<|a7 (uOp M.gSub (kT<|aW 2)<|@2)<|a7 (uOp M.gSub (aC 3)<|@1)<|a7 (kS<|@1) aM) (bY 4)<|a56 2 (uOp fE (uIx (aW 2)<|aC 4)<|uOp dQ (aC 1)<|uIx (aW 2)<|uOp fE (aC 4)<|@1)<|aC 4)<|dU<|aS cA<|a7 (aC 2) aM)
theorem cH2: Ra vB aO9 ["p","s","r","l","a"]:=by
 rintro ds Q ⟨p,s,rfl,h3,h5,hs,h⟩;have lp:(p.map D.int).length=p.length:=aJ _;unfold aO9;show(aQ _ _:US) _ [~~~.tup (p.map .int),!s,none,none,none];left;refine bE (p.length-1) (λi=> .int (0+i)) [~~~.tup (p.map .int),!s,↑(p.map .int),none,none] ?_
  (λi ρ=> ∃x y,ρ=[~~~.tup (p.map .int),!s,↑((shK p s i).map .int),x,y]) ⟨none,none,rfl⟩ ?_ ?_
 .intro Q' q;simp only[gN];left;rw[lp];refine⟨ad,?_⟩
  rw[show((p.length:Int)-1).toNat=p.length-1 by lia]
  exact q
 .rintro i ρ hi ⟨x,y,rfl⟩;have lk:=cM8 p s i;have e1:shK p s (i+1)=aZ7 (shK p s i) s (p.length-1-i):=rfl;rw[e1];generalize shK p s i=row at lk;have lrow:(row.map D.int).length=row.length:=aJ _;left;refine⟨ac,?_⟩
  refine bE (p.length-1-i) (λk=> .int ((p.length:Int)-2-k)) [~~~.tup (p.map .int),!s,↑(row.map .int),!(0+(i:Int)),y] ?_
   (λk ρ=> ∃y,ρ=[~~~.tup (p.map .int),!s,↑((aZ7 row s k).map .int),!(0+(i:Int)),y]) ⟨y,rfl⟩ ?_ ?_
  .intro Q' q;simp only[bA3];left;rw[lrow,lk];refine⟨trivial,ad,?_⟩
   rw[show((p.length:Int)-2-(0+(i:Int)-1)).toNat=p.length-1-i by lia]
   exact q
  .rintro k ρ hk ⟨y,rfl⟩;have l2:=bE6 row s k;left;refine⟨ac,?_⟩
   have a1:(p.length:Int)-2-(k:Int)=((p.length-2-k:Nat):Int):=ad
   have a2:((p.length-2-k:Nat):Int)+1=((p.length-1-k:Nat):Int):=ad
   rw[a1,a2,a94<|show p.length-2-k< (aZ7 row s k).length by lia,a94<|show p.length-1-k< (aZ7 row s k).length by lia]
   right;rw[d68 (show p.length-2-k< ((aZ7 row s k).map D.int).length by rw[aJ];lia)]
   refine⟨cmL ad ad,!((p.length-2-k:Nat):Int),?_⟩
   rw[d69];rw[<-lk];rfl
  .rintro ρ ⟨y,rfl⟩;exact⟨_,_,rfl⟩
 .rintro ρ ⟨x,y,rfl⟩;left;exact h
def wZ:Φ:=λds Q=> ∃c:Int,ds=[.int c]/\ ∀p∈qO,Q (.pu<|aL p)
def aB0:US:=(dU<|uIx (aW 1)<|uOp lL (aS a92<|a7 (aC 0)<|a7 @3<|a7 @998244353 aM)<|@12)
def aB1:US:=(aQ (bF 1<|uOp fE (aC 1)<|fT<|a7 (gL<|a7 @1<|a7 @0<|a7 @0<|a7 @0<|a7 @1 aM)<|a7 (gL<|a7 (kS<|@1)<|a7 (kS<|@1)<|a7 @0<|a7 @0<|a7 @1 aM)<|a7 (gL<|a7 @1<|a7 @1<|a7 @1<|a7 @1<|a7 @1 aM)<|a7 (gL<|a7 (kS<|@2)<|a7 @0<|a7 @0<|a7 @0<|a7 @1 aM)<|a7 (gL<|a7 @1<|a7 @0<|a7 (kS<|@1)<|a7 @0<|a7 @1 aM) aM) aB0)
def xA:US:=(aQ (bF 1<|fT<|a7 (gL<|a7 @5<|a7 @0<|a7 @1 aM)<|a7 (gL<|a7 (kS<|@10)<|a7 @0<|a7 @1 aM)<|a7 (gL<|a7 @6<|a7 @1<|a7 @1 aM)<|a7 (gL<|a7 (kS<|@3)<|a7 @0<|a7 @1 aM)<|a7 (gL<|a7 (kS<|@1)<|a7 (kS<|@1)<|a7 @0<|a7 @1 aM)<|a7 (gL<|a7 (kS<|@2)<|a7 @0<|a7 @0<|a7 @1 aM)<|a7 (gL<|a7 (kS<|@1)<|a7 @4<|a7 @0<|a7 @1 aM) aM) aB1)
theorem d70 {k:Int}(h0:0<=k)(h1:k<12): ∃p∈qO,atI (qO.map aL) k=some (aL p):=by
 obtain⟨i,rfl⟩: ∃i:Nat,k=(i:Int):=⟨k.toNat,ad⟩
 have hi:i<qO.length:=show i<12 by lia
 exact⟨qO[i],cL hi,cB (by rw[bP,aU hi];rfl)⟩
theorem bL2: Ra wZ xA ["c","k"]:=by
 rintro ds Q ⟨c,rfl,h⟩;unfold xA;show(aQ _ _:US) _ [!c,none];rw[aN];left;refine⟨ac,ac,ac,ac,ac,ac,ac,ac,?_⟩
 unfold aB1;rw[aN];left;refine⟨ac,ac,ac,ac,ac,ac,ac,?_⟩
 unfold aB0;left;refine⟨c,3,998244353,rfl,ac,ac,ac,λr r0 r1=> ?_⟩
 left
 refine⟨ac,?_⟩
 rw[cU _ ac]
 obtain⟨p,hp,e⟩:=d70 (cO r<|show(12:Int)≠0 by decide) (cY r<|show(0:Int)<12 by decide)
 have e': ∀l:List D,l=qO.map aL->(match atI l (r%12)with|some x=>Q (.pu x)|none=>False):=λl hl=>by
  rw[hl,e];exact h p hp
 exact e' _ rfl
def bX0:Φ:=λds Q=> ∃c q:Int,ds=[.int c,.int q]/\0<q/\ ∀p,dZ p->Q (.pu<|aL p)
def bX1:Φ:=λds Q=> ∃(ns:List Int) (k:Nat) (q:Int),ds=[.rol<|ns.map .int,.int (k:Int),.int q]/\ns.length<=63/\k<=1000/\0<q/\ ∀C p,dZ p->NoZ p->Q (.pu<|jG C p)
def bE7:US:=(oX 3)
def c58:US:=(aQ (fH (dJ<|bJ9 false<|aC 3) (bF 3<|c38 ["poly","degree","measure"] rZ<|a7 (aS wZ<|a7 (aS a13<|a7 (aC 0)<|a7 (aC 1) aM) aM) aM) cW) bE7)
def c59:US:=(aQ (gW (gN<|a7 @3 aM) (bY 4)<|fH (dJ<|bJ9 false<|aC 3) (d34 3 ["poly","degree","measure"] rZ (a7 (aS bX0<|a7 (aS a13<|a7 (aC 0)<|a7 (uOp fE (aC 1)<|aC 4) aM)<|a7 (aC 2) aM) aM) ["FallsApart","TooGreat","NotWhole"]<|bF 3<|uC .non) cW) c58)
def bX2:US:=(aQ (bF 3<|uC .non) c59)
theorem dJ7: Ra bX1 bX2 ["s","k","q","f","j"]:=by
 rintro ds Q ⟨ns,k,q,rfl,hl,hk,hq,h⟩;unfold bX2;show(aQ _ _:US) _ [~~~.rol (ns.map .int),!(k:Int),!q,none,none];rw[aN];left;unfold c59;rw[aN];refine bE 3 (λi=> .int (0+i)) [~~~.rol (ns.map .int),!(k:Int),!q,~~~.non,none] (λQ' q=> ?_)
  (λi ρ=> ∃d x,ρ=[~~~.rol (ns.map .int),!(k:Int),!q,~~~d,x]/\(d= .non\/ ∃C p,dZ p/\NoZ p/\d=jG C p)) ⟨.non,none,rfl,.inl rfl⟩ ?_ ?_
 .left
  exact⟨ac,q⟩
 .rintro i ρ hi ⟨d,x,rfl,hd⟩;refine⟨ae,?_⟩
  rcases hd with rfl| ⟨C,p,rp,nr,rfl⟩
  .left
   unfold d34;left;refine⟨ns,(k:Int)+(0+(i:Int)),rfl,hl,ad,ad,λc=>⟨c,q,rfl,hq,λp rp=> ?_⟩⟩
   left
   refine⟨p,rfl,rp,λnr _ C=>⟨jG C p,!(0+(i:Int)),rfl,.inr ⟨C,p,rp,nr,rfl⟩⟩,λ_ _=>⟨ae,.non,_,rfl,.inl rfl⟩,λ_=>⟨⟨ae,.non,_,rfl,.inl rfl⟩,λ_=>⟨ae,.non,_,rfl,.inl rfl⟩⟩⟩
  .simp only[jG];left;exact⟨jG C p,_,rfl,.inr ⟨C,p,rp,nr,rfl⟩⟩
 .rintro ρ ⟨d,x,rfl,hd⟩;right;unfold c58;rw[aN];rcases hd with rfl| ⟨C,p,rp,nr,rfl⟩
  .left
   unfold c38;left;refine⟨ns,(k:Int),rfl,hl,ad,ad,λc=>⟨c,rfl,λp hp=> ?_⟩⟩
   left
   refine⟨p,rfl,v9 p hp,λ_ _ C=> ?_,λred=>absurd red (bE4 p hp).irr,λz=>absurd (bE4 p hp) z⟩
   unfold bE7;left;exact h C p (v9 p hp) λz hz=>(bE4 p hp).irr (.inl ⟨z,hz⟩)
  .simp only[jG];left;unfold bE7;left;exact h C p rp nr
def c60:US:=(dU<|aS vB<|a7 (gL<|a7 (uOp M.gSub (uIx (aW 4)<|@2)<|@3)<|a7 (uOp M.gSub (uIx (aW 4)<|@3)<|@3)<|a7 (uOp M.gSub (uIx (aW 4)<|@4)<|@3)<|a7 (uOp M.gSub (uIx (aW 4)<|@6)<|@3)<|a7 @1 aM)<|a7 (uOp M.gSub (uIx (aW 4)<|@5)<|@2) aM)
def c61:US:=(aQ (bF 4<|aS oF<|a7 (aC 0)<|a7 (fT<|a7 @3<|a7 @8<|a7 @7<|a7 @7<|a7 @7<|a7 @5<|a7 @7 aM)<|a7 (aC 1) aM) c60)
def c62:US:=(aQ (fH (dJ<|uOp (gP false) (uIx (aW 2)<|@0)<|@1) (dU<|aS vB<|a7 (gL<|a7 (uOp M.gSub (uIx (aW 4)<|@2)<|@4)<|a7 (uOp M.gSub (uIx (aW 4)<|@3)<|@4)<|a7 (uOp M.gSub (uIx (aW 4)<|@4)<|@4)<|a7 @1 aM)<|a7 (uOp M.gSub (uIx (aW 4)<|@5)<|@2) aM) cW) c61)
def c63:US:=(aQ (fH (dJ<|uOp (gP false) (uIx (aW 2)<|@0)<|@0) (aQ (bF 4<|aS oF<|a7 (aC 0)<|a7 (fT<|a7 @3<|a7 @8<|a7 @161<|a7 @41 aM)<|a7 (aC 1) aM)<|dU<|gL<|a7 (uOp M.gSub (uIx (aW 4)<|@2)<|@80)<|a7 (uOp M.gSub (uIx (aW 4)<|@3)<|@20)<|a7 @1 aM) cW) c62)
def bE8:US:=(aQ (bF 4<|aS oF<|a7 (aC 0)<|a7 (fT<|a7 @3<|a7 @8<|a7 @9<|a7 @9<|a7 @9<|a7 @5<|a7 @7 aM)<|a7 (aC 1) aM) c63)
def c64:US:=(aQ (fH (dJ<|uOp (gP false) (uIx (aW 2)<|@1)<|@7) (dU<|aS cA<|a7 (uOp fE (eI [] [none,none] 1 (fU<|aC 3) (bY 0) (λρ Q=>Q true ρ)<|uOp M.gSub (aC 0)<|@499)<|fT<|a7 @1 aM) aM) cW) bE8)
def c65:US:=(aQ (bF 3<|uSl (uV<|aS oF<|a7 (aC 0)<|a7 (fT<|a7 @3<|a7 @8<|a7 @999<|a7 @999<|a7 @999<|a7 @999 aM)<|a7 (aC 1) aM) (mO<|@2)<|mO<|uOp fE (uIx (aW 2)<|@0)<|@4) c64)
def bX3:US:=(aQ (bF 2<|aS oF<|a7 (aC 0)<|a7 (fT<|a7 @3<|a7 @8 aM)<|a7 (aC 1) aM) c65)
theorem rp_two (ha:a.natAbs<=499)(hb:b.natAbs<=499):dZ [a,b,1]:=⟨⟨ae,ae,λx hx=>by
 simp only[aZ,dE,dG]at hx;rcases hx with rfl|rfl|rfl<;>lia⟩,[a,b],rfl⟩
theorem nba {y:Int}(hx:x.natAbs<=m)(hy:y.natAbs<=k):(x+y).natAbs<=m+k:=aK (zH x y) (Nat.add_le_add hx hy)
theorem nbm {y:Int}(hx:x.natAbs<=m)(hy:y.natAbs<=k):(x*y).natAbs<=m*k:=by rw[eK];exact gG hx hy
theorem nbl (h:decide (m<=k)=true)(hx:x.natAbs<=m):x.natAbs<=k:=aK hx (zI h)
theorem nbc (n:Nat):((n:Nat):Int).natAbs<=n:=aG n
theorem rp_sh3 (ha:a.natAbs<=4)(hb:b.natAbs<=4)(hc:c.natAbs<=4)(hs:s.natAbs<=2):dZ (shK [a,b,c,1] s 3):=by
 rw[she3];refine⟨⟨by simp[sh3],by simp[sh3],λx hx=> ?_⟩,_,rfl⟩
 simp only[sh3,uA,nF,aZ,dE,dG]at hx;have s2:=nbm hs hs;have s3:=nbm s2 hs;rcases hx with rfl|rfl|rfl|rfl
 .exact nbl rfl (nba (nba (nba ha<|nbm hs hb)<|nbm s2 hc) s3)
 .exact nbl rfl (nba (nba hb<|nbm (nbm (nbc 2) hs) hc)<|nbm (nbm (nbc 3) hs) hs)
 .exact nbl rfl (nba hc<|nbm (nbc 3) hs)
 .decide
theorem rp_sh4 {d:Int}(ha:a.natAbs<=3)(hb:b.natAbs<=3)(hc:c.natAbs<=3)(hd:d.natAbs<=3)(hs:s.natAbs<=2):dZ (shK [a,b,c,d,1] s 4):=by
 rw[she4];refine⟨⟨by simp[sh4],by simp[sh4],λx hx=> ?_⟩,_,rfl⟩
 simp only[sh4,uA,nF,aZ,dE,dG]at hx;have s2:=nbm hs hs;have s3:=nbm s2 hs;rcases hx with rfl|rfl|rfl|rfl|rfl
 .exact nbl rfl (nba (nba (nba (nba ha<|nbm hs hb)<|nbm s2 hc)<|nbm s3 hd)<|nbm s3 hs)
 .exact nbl rfl (nba (nba (nba hb<|nbm (nbm (nbc 2) hs) hc)<|nbm (nbm (nbm (nbc 3) hs) hs) hd)<|nbm (nbm (nbm (nbc 4) hs) hs) hs)
 .exact nbl rfl (nba (nba hc<|nbm (nbm (nbc 3) hs) hd)<|nbm (nbm (nbc 6) hs) hs)
 .exact nbl rfl (nba hd<|nbm (nbc 4) hs)
 .decide
theorem dJ8 (h2:2<=ws.length)(h4:ws.length<=4)(hb: ∀w∈ws,0<=w/\w<999):dZ (ws.map (λw=>w-499)++[1]):=by
 refine⟨⟨by rw[bO,aJ];show 3<=ws.length+1;lia,by rw[bO,aJ];show ws.length+1<=5;lia,λx hx=> ?_⟩,_,rfl⟩
 rcases d4.mp hx with hx|hx
 .obtain⟨w,hw,rfl⟩:=gI.mp hx;have:=hb w hw
  lia
 .rw[jM.mp hx];decide
theorem cS4 (c q a b:Int)(ws:List Int)(h4:ws.length<=4)(Q:B->Prop)(h:Q (.pu<|aL<|ws.map (λw=>w-499)++[1])) :
  (dU (aS cA<|a7 (uOp fE (eI [] [none,none] 1 (fU<|aC 3) (bY 0) (λρ Q=>Q true ρ)<|uOp M.gSub (aC 0)<|@499)<|fT<|a7 @1 aM) aM):US) {Q with} [!c,!q,↑[.int a,.int b],↑(ws.map .int),none]:=by
 rw[lM,eE,eF,aZ0];refine dR (t0:=0) ws.length (λk=>(ws.map D.int).getD k .non) [!c,!q,↑[.int a,.int b],~~~.lst (ws.map .int),none] (λQ' q=> ?_) ad (λx l'=>[x,↑l']) none rfl (λ_ _ _=>rfl) (λ_ _=>cC _) (λ_ _ _ q=>q) (λ_ _ _=>rfl) (λk=> .int (ws.getD k 0-499)) ?_ ?_
 .left
  rw[aJ];exact q
 .intro k l' Q' hk q';have e3:(ws.map D.int).getD k .non= .int (ws.getD k 0):=by
   rw[aR,bP,aR,aU hk];rfl
  rw[e3]at q'⊢;left;exact q'
 .have e4:(List.range ws.length).map (λk=>D.int (ws.getD k 0-499))=(ws.map λw=>w-499).map D.int:=by
   apply pU
   .simp
   .intro i h1 h2;simp at h1;simp[aR,h1]
  rw[e4];left;have e5:(ws.map λw=>w-499).map D.int++[D.int 1]=(ws.map (λw=>w-499)++[1]).map D.int:=by rw[cH];rfl
  rw[e5];refine⟨ac,?_,h⟩
  rw[aJ,aJ];exact aK (show ws.length+(0+1)<=5 by lia) ac
theorem d71 (c q a b:Int)(w:Option B)(a0:0<=a)(a1:a<3)(hq:0<q)(Q:B->Prop)(h: ∀p,dZ p->Q (.pu<|aL p)) :
  bE8 {Q with} [!c,!q,↑[.int a,.int b],w,none]:=by
 unfold bE8;rw[aN];left;refine⟨ac,c,[3,8,9,9,9,5,7],q,rfl,ac,hq,ac,λxs hx=> ?_⟩
 obtain⟨x0,x1,x2,x3,x4,x5,x6,rfl⟩: ∃x0 x1 x2 x3 x4 x5 x6,xs=[x0,x1,x2,x3,x4,x5,x6]:=by
  match xs,hx.1 with
  | [x0,x1,x2,x3,x4,x5,x6],_=>exact⟨x0,x1,x2,x3,x4,x5,x6,rfl⟩
 have b2:=hx.2 2 x2 9 rfl rfl;have b3:=hx.2 3 x3 9 rfl rfl;have b4:=hx.2 4 x4 9 rfl rfl;have b5:=hx.2 5 x5 5 rfl rfl;simp only[d5,jQ];unfold c63;rw[aN];left;rw[aS6];right
 by_cases c0:a=0
 .rw[aA c0];refine⟨ac,c,[3,8,161,41],q,rfl,ac,hq,ac,λys hy=> ?_⟩
  obtain⟨y0,y1,y2,y3,rfl⟩: ∃y0 y1 y2 y3,ys=[y0,y1,y2,y3]:=by
   match ys,hy.1 with
   | [y0,y1,y2,y3],_=>exact⟨y0,y1,y2,y3,rfl⟩
  have k2:=hy.2 2 y2 161 rfl rfl;have k3:=hy.2 3 y3 41 rfl rfl;simp only[d5,jQ]
  (try left)
  rw[show atI [D.int y0,.int y1,.int y2,.int y3] 2=some (.int y2)from cB (j:=2) rfl,show atI [D.int y0,.int y1,.int y2,.int y3] 3=some (.int y3)from cB (j:=3) rfl]
  right;exact⟨ac,h [y2-80,y3-20,1]<|rp_two ad ad⟩
 rw[a8 c0];have t2:atI [D.int x0,.int x1,.int x2,.int x3,.int x4,.int x5,.int x6] 2=some (.int x2):=cB (j:=2) rfl;have t3:atI [D.int x0,.int x1,.int x2,.int x3,.int x4,.int x5,.int x6] 3=some (.int x3):=cB (j:=3) rfl;have t4:atI [D.int x0,.int x1,.int x2,.int x3,.int x4,.int x5,.int x6] 4=some (.int x4):=cB (j:=4) rfl
 have t5:atI [D.int x0,.int x1,.int x2,.int x3,.int x4,.int x5,.int x6] 5=some (.int x5):=cB (j:=5) rfl;unfold c62;rw[aN];left;rw[aS6];right
 by_cases c1:a=1
 .rw[aA c1,t2,t3,t4,t5];right;exact⟨ac,[x2-4,x3-4,x4-4,1],x5-2,rfl,ae,ae,ad,h _<|rp_sh3 ad ad ad ad⟩
 rw[a8 c1];unfold c61;rw[aN];left;refine⟨ac,c,[3,8,7,7,7,5,7],q,rfl,ac,hq,ac,λys hy=> ?_⟩
 obtain⟨y0,y1,y2,y3,y4,y5,y6,rfl⟩: ∃x0 x1 x2 x3 x4 x5 x6,ys=[x0,x1,x2,x3,x4,x5,x6]:=by
  match ys,hy.1 with
  | [x0,x1,x2,x3,x4,x5,x6],_=>exact⟨x0,x1,x2,x3,x4,x5,x6,rfl⟩
 have k2:=hy.2 2 y2 7 rfl rfl;have k3:=hy.2 3 y3 7 rfl rfl;have k4:=hy.2 4 y4 7 rfl rfl;have k5:=hy.2 5 y5 5 rfl rfl;have k6:=hy.2 6 y6 7 rfl rfl;simp only[d5,jQ];unfold c60;left
 rw[show atI [D.int y0,.int y1,.int y2,.int y3,.int y4,.int y5,.int y6] 2=some (.int y2)from cB (j:=2) rfl,show atI [D.int y0,.int y1,.int y2,.int y3,.int y4,.int y5,.int y6] 3=some (.int y3)from cB (j:=3) rfl,show atI [D.int y0,.int y1,.int y2,.int y3,.int y4,.int y5,.int y6] 4=some (.int y4)from cB (j:=4) rfl,show atI [D.int y0,.int y1,.int y2,.int y3,.int y4,.int y5,.int y6] 5=some (.int y5)from cB (j:=5) rfl,show atI [D.int y0,.int y1,.int y2,.int y3,.int y4,.int y5,.int y6] 6=some (.int y6)from cB (j:=6) rfl]
 right;exact⟨ac,[y2-3,y3-3,y4-3,y6-3,1],y5-2,rfl,ae,ae,ad,h _<|rp_sh4 ad ad ad ad ad⟩
theorem dJ9: Ra bX0 bX3 ["c","q","d","w","f"]:=by
 rintro ds Q ⟨c,q,rfl,hq,h⟩;unfold bX3;show(aQ _ _:US) _ [!c,!q,none,none,none];rw[aN];left;refine⟨ac,c,[3,8],q,rfl,ac,hq,ac,λxs hx=> ?_⟩
 obtain⟨a,b,rfl⟩: ∃a b,xs=[a,b]:=by
  match xs,hx.1 with
  | [a,b],_=>exact⟨a,b,rfl⟩
 have ba:=hx.2 0 a 3 rfl rfl;simp only[d5,jQ];unfold c65;rw[aN];left;refine⟨ac,c,[3,8,999,999,999,999],q,rfl,ac,hq,ac,λys hy=> ?_⟩
 obtain⟨y0,y1,y2,y3,y4,y5,rfl⟩: ∃x0 x1 x2 x3 x4 x5,ys=[x0,x1,x2,x3,x4,x5]:=by
  match ys,hy.1 with
  | [x0,x1,x2,x3,x4,x5],_=>exact⟨x0,x1,x2,x3,x4,x5,rfl⟩
 have k2:=hy.2 2 y2 999 rfl rfl;have k3:=hy.2 3 y3 999 rfl rfl;have k4:=hy.2 4 y4 999 rfl rfl;have k5:=hy.2 5 y5 999 rfl rfl;simp only[d5,jQ]
 (try left)
 rw[aS6];right;obtain⟨ws,ew,w2,w4,wb⟩: ∃ws:List Int,cutD [D.int y0,.int y1,.int y2,.int y3,.int y4,.int y5] (some 2) (some<|a+4)=ws.map D.int/\2<=ws.length/\ws.length<=4/\ ∀w∈ws,0<=w/\w<999:=by
  rcases(show a=0\/a=1\/a=2 by lia)with rfl|rfl|rfl
  .exact⟨[y2,y3],rfl,ae,ae,by simp;lia⟩
  .exact⟨[y2,y3,y4],rfl,ae,ae,by simp;lia⟩
  .exact⟨[y2,y3,y4,y5],rfl,ae,ae,by simp;lia⟩
 rw[ew];unfold c64;rw[aN,b77];left;rw[at1];right
 by_cases cb:b=7
 .rw[aA cb];exact cS4 c q a b ws w4 Q (h _<|dJ8 w2 w4 wb)
 .rw[a8 cb];exact d71 c q a b _ ba.1 ba.2 hq Q h
structure a28 (e n:Nat)(t:Nat->∅):Prop where
 pos: ∀r,r<n->0<t r r
 zero: ∀i,i<n-> ∀j,i<j->t i j=0
 bd: ∀r j,(t r j).natAbs<=2^e
theorem absK (z:Int):(if z<0 then -z else z)=(z.natAbs:Int):=by split<;>lia
theorem cS5 {v:∅}(n2:2<=n)(n4:n<=4)(hu: ∀j,n<=j->u j=0)(hv: ∀j,n<=j->v j=0):rwF n (tK p n u v)=rwF n (tK p n v u):=by
 rw[<-bW9 n2 n4 hu hv,<-bW9 n2 n4 hv hu,show conv u v n=conv v u n from funext λm=>cR7 hu hv m]
nonrec def tnF:∅:=λj=>if j=1 then 1 else 0
theorem cM9 {j:Nat}(n2:2<=n)(h:n<=j):tnF j=0:=a8 ad
theorem cS6 (e j:Nat):(tnF j).natAbs<=2^e:=aK (show(tnF j).natAbs<=1 by unfold tnF;split<;>decide) Nat.one_le_two_pow
theorem tim_tn (n2:2<=n)(n4:n<=4)(j:Nat):tK p n u tnF j=ttF p n u j:=by
 show((List.range n).map λi=>tnF i*itT p n u i j).sum=ttF p n u j
 match n,n2,n4 with
 | 2,_,_=>simp[cI,tnF,itT]
 | 3,_,_=>simp[cI,tnF,itT]
 | 4,_,_=>simp[cI,tnF,itT]
theorem ttF_cz (n1:1<=n){j:Nat}(hj:j<n):ttF p n (cz n u) j=ttF p n u j:=by
 unfold ttF cz;rw[aA<|show n-1<n by omega,aA<|show j-1<n by omega]
theorem tn_row (n2:2<=n)(n4:n<=4):rwF n (tK p n (cz n u) tnF)=rwF n (ttF p n u):=j7 λj hj=>by rw[tim_tn n2 n4,ttF_cz ad hj]
theorem nt_row (n2:2<=n)(n4:n<=4):rwF n (tK p n tnF<|cz n u)=rwF n (ttF p n u):=by
 rw[cS5 n2 n4 (λj hj=>cM9 n2 hj) λj hj=>d65 hj,tn_row n2 n4]
theorem cS7 {s:Nat}(c:Nat)(hz:z=(c:Int))(n:Nat)(hn:n<=4)(hs:ρ[s]? =some (!(n:Int)))(h:Q (.pu<|aL<|rwF n λk=>if k=c then 1 else 0) ρ) :
  aS cA (a7 (eI [] [none,none] 1 (gN<|a7 (aC s) aM) (bY 0) (λρ Q=>Q true ρ)<|aS b99<|a7 (uOp (gP false) (aC 0)<|uC<|.int z) aM) aM) ρ Q:=by
 subst hz;rw[eE,eF];refine dR (t0:=0) n (λk=> .int (0+(k:Int))) ρ (λQ' q=> ?_) ad (λx l'=>[x,↑l']) none rfl (λ_ _ _=>rfl) (λ_ _=>cC _) (λ_ _ _ q=>q) (λ_ _ _=>rfl) (λk=> .int (if k=c then 1 else 0)) ?_ ?_
 .unfold gN;rw[eF,bW0 hs];left;refine⟨⟨ad,ad⟩,?_⟩
  rw[bW];exact q
 .intro k l' Q' hk q';rw[dM]at q'⊢;left
  by_cases e:k=c
  .subst e
   exists q'
  .rw[a8 e]at q';rw[a8<|show ¬(k:Int)=(c:Int)by lia]
   exact q'
 .rw[mT];exact h
theorem d72 (i n:Nat)(t:Nat->∅):tbF i n t++[aL<|rwF n<|t i]=tbF (i+1) n t:=by
 unfold tbF;rw[cI,cH];rfl
def aU0:Φ:=λds Q=> ∃(p:List Int) (n e:Nat) (u:∅),ds=[aL p,aL<|rwF n u]/\dZ p/\p.length=n+1/\e<=1900/\(∀j,(u j).natAbs<=2^e)/\Q (.ow<|tbF n n<|itT p n u)
def bQ7:US:=(oX 4)
def bQ8:US:=(aQ (gW (gN<|a7 (aC 2) aM) (bY 6)<|aQ (aN7 4<|aC 5)<|bF 5<|aS aT8<|a7 (aC 0)<|a7 (aC 3)<|a7 (aC 5) aM) bQ7)
def bQ9:US:=(aQ (bF 5<|aS cA<|a7 (aC 1) aM) bQ8)
def b01:US:=(aQ (bF 4<|fT aM) bQ9)
def b02:US:=(aQ (bF 3<|aS cA<|a7 (eI [] [none,none] 1 (gN<|a7 (aC 2) aM) (bY 0) (λρ Q=>Q true ρ)<|aS b99<|a7 (uOp (gP false) (aC 0)<|@1) aM) aM) b01)
def bE9:US:=(aQ (bF 2<|uOp M.gSub (kT<|aW 0)<|@1) b02)
theorem d73: Ra aU0 bE9 ["p","x","m","t","r","w","k"]:=by
 rintro ds Q ⟨p,n,e,u,rfl,rp,hn,he,hu,h⟩;have lo:=rp.ok.lo;have hi:=rp.ok.hi;have n2:2<=n:=ad
 have n4:n<=4:=ad
 unfold bE9;show(aQ _ _:US) _ [~~~.tup (p.map .int),~~~aL (rwF n u),none,none,none,none,none];rw[aN];left;rw[aJ,show(p.length:Int)-1=(n:Int)by lia]
 change b02 _ [~~~aL p,~~~aL (rwF n u),!(n:Int),none,none,none,none]
 unfold b02;rw[aN,iM];refine cS7 1 rfl n n4 rfl ?_;show b01 _ [~~~aL p,~~~aL (rwF n u),!(n:Int),~~~aL (rwF n tnF),none,none,none];unfold b01;rw[aN];left;refine⟨ac,?_⟩
 unfold bQ9;rw[aN];simp only[aL];left;unfold bQ8;rw[aN];refine bE n (λi=> .int (0+(i:Int))) [~~~aL p,~~~aL (rwF n u),!(n:Int),~~~aL (rwF n tnF),↑(tbF 0 n (itT p n u)),~~~aL (rwF n (itT p n u 0)),none] (λQ' q=> ?_)
  (λi ρ=> ∃x,ρ=[~~~aL p,~~~aL (rwF n u),!(n:Int),~~~aL (rwF n tnF),↑(tbF i n (itT p n u)),~~~aL (rwF n (itT p n u i)),x]) ⟨none,rfl⟩ ?_ ?_
 .left
  refine⟨⟨ad,ad⟩,?_⟩
  rw[bW];exact q
 .rintro i ρ hi' ⟨x,rfl⟩;left;rw[a19];refine⟨ac,b9 (show i<10 by lia) ac,p,n,e+27,tnF,cz n<|itT p n u i,?_,rp,hn,ad,λj=>cS6 _ j,?_,λj hj=>cM9 n2 hj,λj hj=>d65 hj,?_⟩
  .rw[cz_row]
  .exact d66 λj=>aK (aF3 (n:=n) rp.ok.small hu i j) (fL ac ad)
  .rw[nt_row n2 n4,d72];exact⟨_,rfl⟩
 .rintro ρ ⟨x,rfl⟩;right;unfold bQ7;left;exact h
def kY (n:Nat):Φ:=λds Q=> ∃t:List (List Int),ds=[.lst<|t.map aL]/\Sq n t/\Q (.pu<|.int<|lN n t)
def cH3 (kY:Φ):US:=(aQ (fH (dJ<|uOp (gP false) (kT<|aW 0)<|@1) (dU<|uIx (uV<|uIx (aW 0)<|@0)<|@0) cW)<|aQ (bF 1<|@0)<|aQ (gW (gN<|a7 (kT<|aW 0) aM) (bY 2)<|aQ (bF 3<|eI [] [none,none] 1 (fU<|uOp fE (uSl (aW 0) jT<|mO<|aC 2)<|uSl (aW 0) (mO<|uOp fE (aC 2)<|@1) jT) (bY 0) (λρ Q=>Q true ρ)<|uSl (aW 0) (mO<|@1) jT)<|bF 1<|uOp fE (aC 1)<|uOp dQ (uOp dQ (uOp M.gSub @1<|uOp dQ @2<|uOp lL (aC 2)<|@2)<|uIx (uV<|uIx (aW 0)<|aC 2)<|@0)<|aS kY<|a7 (aC 3) aM)<|oX 1)
theorem b79 (n:Nat): ∀ds Q,kY n ds Q->ds.length=1:=by rintro ds Q ⟨a,rfl,_⟩;rfl
theorem d74: ∀ds Q,¬kY 0 ds Q:=by
 rintro ds Q ⟨t,rfl,sq,_⟩;have:=sq.pos;have:=sq.le
 lia
theorem bX4 (n:Nat)(hn:n<4): ∀ds Q,kY (n+1) ds Q->cH3 (kY n) {Q with} (init ["t","o","i","m"] ds):=by
 rintro ds Q ⟨t,rfl,sq,h⟩;have hp:=sq.pos;have hle:=sq.le;have lt:(t.map aL).length=t.length:=aJ _;have lrow: ∀i,i<t.length->0< (t.getD i []).length:=λi hi=>by
  rw[aR,aU hi];have:=sq.row _ (cL hi);show 0< (t[i]).length
  lia
 unfold cH3;show(aQ _ _:US) _ [~~~.lst (t.map aL),none,none,none];left;rw[lt];split
 .rename_i h1
  have h1':t.length=1:=ad
  have:=b75 (t:=t) (i:=0) ad
  rw[show(0:Int)+((0:Nat):Int)=0 from rfl]at this
  rw[this];simp only[aL];rw[a93<|lrow 0 ad]
  unfold lN at h;rw[aA h1']at h;exact h
 .rename_i h1
  have h1':t.length≠1:=ad
  unfold lN at h;rw[a8 h1']at h;refine bE t.length (λi=> .int (0+i)) [~~~.lst (t.map aL),!0,none,none] ?_ (λi ρ=> ∃x y,ρ=[~~~.lst (t.map aL),some<|.pu<|.int ((List.range i).map λi=>(if i%2=0 then 1 else -1)*(t.getD i []).getD 0 0*lN n ((t.eraseIdx i).map List.tail)).sum,x,y]) ?_ ?_ ?_
  .intro Q' q;simp only[gN];left;rw[lt];refine⟨⟨ad,ad⟩,?_⟩
   rw[bW];exact q
  .exact⟨none,none,rfl⟩
  .rintro i ρ hi ⟨x,y,rfl⟩;rw[dM];refine⟨ae,?_⟩
   dsimp only[set_cons_zero,set_cons_succ];rw[aN,iM];refine bC2 hi ad (λr hr=>by rw[sq.row r hr];exact hp) (λQ' q=> ?_) ?_
   .simp only[fU];left;rw[<-bO,c42 hi];exact⟨aK (show _<=2000 by rw[aJ,yT hi];lia) ac,q⟩
   left
   have ai:=b75 hi;rw[dM]at ai;rw[ai,cU _ ad]
   simp only[aL];rw[a93<|lrow i hi];have e1:1-2*((i:Int)%2)=(if i%2=0 then(1:Int)else -1):=by
    split<;>lia
   have eg:t.getD i []=t[i]:=by rw[aR,aU hi];rfl
   have en:((t.getD i []).getD 0 0).natAbs<=2^2000:=by
    have h0:=lrow i hi;rw[eg]at h0⊢;rw[aR,aU h0];exact nM (sq.small _ (cL hi) _<|cL h0)
   have se:Sm ((t.getD i []).getD 0 0):=Sm.pow en ac
   have sg:Sm (if i%2=0 then(1:Int)else -1):=by split<;>exact aY7 ac ac
   have sp:Sm ((if i%2=0 then(1:Int)else -1)*(t.getD i []).getD 0 0):=by
    refine Sm.pow (k:=2000) ?_ ac
    rw[eK];have e1:(if i%2=0 then(1:Int)else -1).natAbs=1:=by split<;>rfl
    rw[e1,uG];exact en
   have sd:Sm (lN n<|(t.eraseIdx i).map List.tail):=Sm.pow (aY9 n _ ad<|sq.less h1' hi) ad
   have sm:Sm ((i:Int)%2):=aY7 ad ad
   rw[e1];refine⟨ac,.inr ⟨aY7 ac ac,sm⟩,.inr ⟨sg,se⟩,(t.eraseIdx i).map List.tail,rfl,sq.less h1' hi,.inr ⟨sp,sd⟩,?_⟩
   rw[cI,cH,aN5];simp
  .rintro ρ ⟨x,y,rfl⟩;left;exact h
theorem gcd_fm (g l:Int):l.gcd (g.fmod l)=g.gcd l:=by
 rw[Int.fmod_def,Int.gcd_comm g l];simp
theorem fm_lt (g l:Int)(h:l≠0):(g.fmod l).natAbs<l.natAbs:=by
 rw[Int.fmod_eq_emod];have a:=cO g h;have b:=Int.emod_lt g h;split
 .lia
 .rename_i c
  have: ¬g%l=0:=λz=>c (.inr<|Int.dvd_of_emod_eq_zero z)
  lia
def tQ:Φ:=λds Q=> ∃a b:Int,ds=[.int a,.int b]/\Q (.pu<|.int (a.gcd b:Nat))
def b03:US:=(aQ (aX6 (dJ<|uOp (gP true) (aC 1)<|@0)<|uPar 0 1<|a7 (aC 1)<|a7 (uOp lL (aC 0)<|aC 1) aM)<|dU<|aS cD7<|a7 (aC 0) aM)
theorem cS8: Ra tQ b03 ["a","b"]:=by
 rintro ds Q ⟨a,b,rfl,h⟩;unfold b03;show(aQ _ _:US) _ [!a,!b];refine⟨λn ρ=> ∃g l:Int,ρ=[!g,!l]/\n=l.natAbs/\g.gcd l=a.gcd b,⟨_,_,_,rfl,rfl,rfl⟩,?_⟩
 rintro n ρ ⟨g,l,rfl,rfl,e⟩;left;split
 .rename_i hl
  have hl':l≠0:=by exists hl
  exact⟨hl',_,fm_lt g l hl',_,_,rfl,rfl,(gcd_fm g l).trans e⟩
 .rename_i hl
  have hl':l=0:=by exists hl
  subst hl';rw[Int.gcd_zero_right]at e;rw[absK,e];exact h
def bF0:Φ:=λds Q=> ∃(n a b:Nat) (f:∅) (z:Int),ds=[aL<|rwF n f,.int z]/\d55 n a b f z/\Q (.pu<|.int<|ps f z n)
def bF1:US:=(aQ (bF 2<|@0)<|aQ (gW (cL0<|a7 (aC 0) aM) (bY 3)<|bF 2<|uOp fE (uOp dQ (aC 2)<|aC 1)<|aC 3)<|oX 2)
theorem d75: Ra bF0 bF1 ["f","z","v","c"]:=by
 rintro ds Q ⟨n,a,b,f,z,rfl,ok,h⟩;unfold bF1;simp only[aL];show(aQ _ _:US) _ [~~~.tup ((rwF n f).map .int),!z,none,none];left;refine bE n (λk=>((rwF n f).map D.int).getD (n-1-k) .non) [~~~.tup ((rwF n f).map .int),!z,!0,none] ?_
  (λk ρ=> ∃c,ρ=[~~~.tup ((rwF n f).map .int),!z,!hor f n z k,c]) ⟨none,rfl⟩ ?_ ?_
 .intro Q' q;left;rw[b7];exact q
 .rintro k ρ hk ⟨c,rfl⟩;rw[j6 ad]
  left
  have room:=ok.room;have:(b+1)*k<=(b+1)*n:=u7 _ ad
  exact⟨ae,.inr ⟨Sm.pow (aF2 ok.fb ok.zb k) ad,Sm.pow ok.zb (by have:=ok.b8;lia)⟩,_,rfl⟩
 .rintro ρ ⟨c,rfl⟩;left;rw[bW3];exact h
theorem b04 {u:Nat->∅}(h: ∀i,i<n-> ∀j,j<m->t i j=u i j):tbF n m t=tbF n m u:=by
 unfold tbF;apply zD;intro i hi;rw[j7 λj hj=>h i (dX.mp hi) j hj]
nonrec def bL3 (r q:Int):∅
 | 0=>1
 | i+1=>bL3 r q i*r%q
nonrec def knT (q r:Int):Nat->∅:=λi j=>if i=0 then(if j=0 then q else 0)else if j=0 then(-bL3 r q i)%q else if j=i then 1 else 0
nonrec def knD (n:Nat)(q r:Int):D:= .tup (tbF n n<|knT q r)
def bF2:Φ:=λds Q=> ∃(n:Nat) (q r:Int),ds=[.int (n:Int),.int q,.int r]/\1<=n/\n<=4/\1<=q/\r.natAbs<=2^30/\Q (.pu<|knD n q r)
def bR0:US:=(dU<|aS cA<|a7 (aC 3) aM)
def bR1:US:=(aQ (gW (gN<|a7 (aC 0) aM) (bY 5)<|aQ (bF 6<|uOp dQ (fT<|a7 @0 aM)<|aC 0)<|aQ (fH (dJ<|uOp (gP false) (aC 5)<|@0) (a56 6 (aC 1)<|@0)<|aQ (bF 4<|uOp lL (uOp dQ (aC 4)<|aC 2)<|aC 1)<|aQ (a56 6 (uOp lL (kS<|aC 4)<|aC 1)<|@0)<|a56 6 @1<|aC 5)<|aN7 3<|aS cA<|a7 (aC 6) aM) bR0)
def bF3:US:=(aQ (bF 3<|fT aM)<|aQ (bF 4<|@1) bR1)
theorem d76: Ra bF2 bF3 ["m","p","r","o","f","i","w"]:=by
 rintro ds Q ⟨n,q,r,rfl,n1,n4,q2,r1,h⟩;unfold bF3;show(aQ _ _:US) _ [!(n:Int),!q,!r,none,none,none,none];left;refine⟨ac,?_⟩
 unfold bR1;rw[aN];refine bE n (λk=> .int (0+(k:Int))) [!(n:Int),!q,!r,↑[],!1,none,none] (λQ' q'=> ?_)
  (λk ρ=> ∃x y,ρ=[!(n:Int),!q,!r,↑(tbF k n (knT q r)),!bL3 r q (k-1),x,y]) ⟨none,none,rfl⟩ ?_ ?_
 .left
  refine⟨⟨ad,ad⟩,?_⟩
  rw[bW];exact q'
 .rintro k ρ hk ⟨x,y,rfl⟩;rw[dM];left;rw[bW,aF1];refine⟨ac,ac,⟨ad,ad,aK (show(0+1)*n<=10 by lia) ac⟩,?_⟩
  have x0:ixN n 0=some 0:=by unfold ixN;simp;lia
  have xk:ixN n (k:Int)=some k:=by unfold ixN;simp;lia
  have ln:(tbF k n<|knT q r).length<sizeLine:=b9 (show(tbF k n<|knT q r).length<10 by rw[a19];lia) ac
  by_cases c:k=0
  .subst c;rw[aA<|by rfl,b7,x0]
   right;rw[a18 ad]
   have e:tbF 0 n (knT q r)++[aL<|rwF n λx=>if x=0 then q else 0]=tbF (0+1) n (knT q r):=by
    rw[bC6];refine b04 λi hi j hj=> ?_
    have:i=0:=ad
    subst this;rfl
   rw[show tbF 0 n (knT q r)++[D.tup<|(rwF n λx=>if x=0 then q else 0).map D.int]=_ from e]
   exact⟨ln,_,_,rfl⟩
  .rw[a8 ad]
   have ek:bL3 r q (k-1)*r%q=bL3 r q k:=by
    obtain⟨m,rfl⟩: ∃m,k=m+1:=⟨k-1,ad⟩
    rfl
   refine⟨cmR ad ad,ad,ad,?_⟩
   rw[cU (bL3 r q (k-1)*r) ad,ek,cU _ ad,b7,x0]
   right;rw[a18 ad,b7,xk]
   right;rw[a18 ad]
   have e:tbF k n (knT q r)++[aL<|rwF n λx=>if x=k then 1 else if x=0 then(-bL3 r q k)%q else 0]=tbF (k+1) n (knT q r):=by
    rw[bC6];refine b04 λi hi j hj=> ?_
    by_cases w:i=k
    .rw[aA w,w];unfold knT;rw[a8 c]
     by_cases z:j=0
     .rw[a8 ad,aA z,aA z]
     .rw[a8 z,a8 z]
    .rw[a8 w]
   rw[show tbF k n (knT q r)++[D.tup<|(rwF n λx=>if x=k then 1 else if x=0 then(-bL3 r q k)%q else 0).map D.int]=_ from e]
   exact⟨ln,_,_,rfl⟩
 .rintro ρ ⟨x,y,rfl⟩;right;unfold bR0;left;exact h
def clT (n:Nat)(T:Nat->∅):Nat->∅:=λi j=>if i<n/\j<n then T i j else 0
theorem d77 (n:Nat)(T:Nat->∅):tbF n n T=tbF n n (clT n T):=b04 λi hi j hj=>by unfold clT;rw[aA ⟨hi,hj⟩]
theorem clT_ok (h1: ∀i,i<n->1<=T i i)(h2: ∀i,i<n-> ∀j,j<n->i<j->T i j=0)(h3: ∀i,i<n-> ∀j,j<n->(T i j).natAbs<=2^e):a28 e n (clT n T):=by
 refine⟨λr hr=> ?_,λi hi j hj=> ?_,λr j=> ?_⟩
 .unfold clT;rw[aA ⟨hr,hr⟩];have:=h1 r hr
  lia
 .unfold clT;split
  .rename_i c
   exact h2 i hi j c.2 hj
  .rfl
 .unfold clT;split
  .rename_i c
   exact h3 r c.1 j c.2
  .exact eW _
theorem dO0 {q r:Int}(q1:1<=q)(q2:q<=2^60):a28 60 n (clT n<|knT q r):=by
 have em: ∀i,0<=(-bL3 r q i)%q/\(-bL3 r q i)%q<q:=λi=>⟨cO _ ad,cY _ ad⟩
 have lt:(2:Nat)^60<=2^60:=fL ac ac
 refine clT_ok (λi hi=> ?_) (λi hi j hj h=> ?_) λi hi j hj=> ?_
 .unfold knT;split
  .exact q1
  .rw[aA rfl];decide
 .unfold knT;rw[a8<|show ¬j=0 by lia,a8<|show ¬j=i by lia]
  split
  .rfl
  .rw[a8<|show ¬j=0 by lia]
 .refine aK (show(knT q r i j).natAbs<=2^60 from ?_) lt
  unfold knT;have:=em i;split
  .split
   .lia
   .decide
  .split
   .lia
   .split<;>decide
nonrec def bX5 (p:List Int)(n:Nat)(A B:Nat->∅)(k:Nat):List (List Int):=(List.range k).flatMap λi=>(List.range n).map λj=>rwF n (tK p n (A i)<|B j)
theorem bR2 (p:List Int)(n:Nat)(A B:Nat->∅)(k:Nat):bX5 p n A B (k+1)=bX5 p n A B k++(List.range n).map λj=>rwF n (tK p n (A k)<|B j):=by
 unfold bX5;rw[cI,List.flatMap_append];simp
theorem c66 (p:List Int)(n:Nat)(A B:Nat->∅): ∀k,(bX5 p n A B k).length=k*n
 | 0=>by unfold bX5;simp
 | k+1=>by rw[bR2,bO,c66 p n A B k,aJ,kL,Nat.add_mul,uG]
def aP0:Φ:=λds Q=> ∃(p:List Int) (n:Nat) (A B:Nat->∅),ds=[aL p,.tup<|tbF n n A,.tup<|tbF n n B]/\dZ p/\p.length=n+1/\(∀i j,(A i j).natAbs<=2^60)/\(∀i j,(B i j).natAbs<=2^60)/\(∀i,i<n-> ∀j,n<=j->A i j=0)/\(∀i,i<n-> ∀j,n<=j->B i j=0)/\1<=A 0 0/\1<=B 0 0/\ ∀T,a28 500 n T->Q (.pu<|.tup<|tbF n n T)
def aU1:US:=(dU<|aS aT2<|a7 (uOp M.gSub (kT<|aW 0)<|@1)<|a7 (uOp dQ (uIx (uV<|uIx (aW 1)<|@0)<|@0)<|uIx (uV<|uIx (aW 2)<|@0)<|@0)<|a7 (aC 3) aM)
def aU2:US:=(aQ (gW (fU<|aC 1) (bY 4)<|bF 3<|uOp fE (aC 3)<|eI [0,4] [none,some 0,some 4,none] 3 (fU<|aC 2) (bY 0) (λρ Q=>Q true ρ)<|aS aT8<|a7 (aC 1)<|a7 (aC 2)<|a7 (aC 0) aM) aU1)
def aP1:US:=(aQ (bF 3<|fT aM) aU2)
theorem cH4: Ra aP0 aP1 ["p","a","b","r","x"]:=by
 rintro ds Q ⟨p,n,A,B,rfl,rp,hn,hA,hB,zA,zB,a1,b1,h⟩;have lo:=rp.ok.lo;have hi:=rp.ok.hi;unfold aP1;show(aQ _ _:US) _ [~~~aL p,~~~.tup (tbF n n A),~~~.tup (tbF n n B),none,none];rw[aN];left;refine⟨ac,?_⟩
 unfold aU2;rw[aN];refine bE n (λi=>(tbF n n A).getD i .non) [~~~aL p,~~~.tup (tbF n n A),~~~.tup (tbF n n B),↑[],none] (λQ' q=> ?_) (λk ρ=> ∃x,ρ=[~~~aL p,~~~.tup (tbF n n A),~~~.tup (tbF n n B),↑((bX5 p n A B k).map aL),x]) ⟨none,rfl⟩ ?_ ?_
 .left
  rw[a19];exact q
 .rintro k ρ hk ⟨x,rfl⟩;rw[aT0 hk];refine⟨ae,?_⟩
  show(bF 3 (uOp fE (aC 3) _):US) _ [~~~aL p,~~~.tup (tbF n n A),~~~.tup (tbF n n B),↑((bX5 p n A B k).map aL),~~~aL (rwF n (A k))]
  rw[iM,aZ0,dI1 rfl]
  refine dR (t0:=0) n (λj=>(tbF n n B).getD j .non) [~~~aL p,~~~.tup (tbF n n A),~~~.tup (tbF n n B),~~~.lst ((bX5 p n A B k).map aL),~~~aL (rwF n (A k))] (λQ' q=> ?_) ad (λx l=>[x,~~~aL p,~~~aL (rwF n (A k)),↑l]) none rfl (λ_ _ _=>rfl) (λ_ _=>cC _) (λ_ _ _ q=>q) (λ_ _ _=>rfl) (λj=>aL (rwF n<|tK p n (A k)<|B j)) ?_ ?_
  .left
   rw[a19];exact q
  .intro j l Q' hj q;rw[aT0 hj]at q⊢;left;exact⟨p,n,60,A k,B j,rfl,rp,hn,ac,hA k,hB j,zA k hk,zB j hj,q⟩
  .rw[show(List.range n).map (λj=>aL (rwF n<|tK p n (A k)<|B j))=((List.range n).map λj=>rwF n (tK p n (A k)<|B j)).map aL by rw[kO];rfl]
   left
   rw[<-cH,<-bR2];have:=c66 p n A B k;refine⟨?_,_,rfl⟩;rw[aJ,aJ,aJ,kL,this];have:k*n<=4*4:=gG ad ad
   exact aK (show k*n+n<=20 by lia) ac
 .rintro ρ ⟨x,rfl⟩;try right
  unfold aU1;have e1:atI (tbF n n A) 0=some (aL<|rwF n<|A 0):=cG1 (i:=0) ad
  have e2:atI (tbF n n B) 0=some (aL<|rwF n<|B 0):=cG1 (i:=0) ad
  have e3: ∀f:∅,atI ((rwF n f).map D.int) 0=some (.int<|f 0):=λf=>kA (i:=0) ad
  simp only[aL]at e1 e2⊢;left;rw[e1,e2];right;rw[e3,e3];right;have ha:=hA 0 0;have hb:=hB 0 0;have m2:A 0 0*B 0 0<=2^500:=qB (zS (show A 0 0<=2^60 by lia) (show B 0 0<=2^60 by lia) ad ac) af
  refine⟨cmR ad ad,n,A 0 0*B 0 0,bX5 p n A B n,?_,ad,ad,?_,m2,λl hl=> ?_,λT S b=>h _ ⟨λr hr=>S.pos r hr,S.zero,b⟩⟩
  .rw[aJ,hn,show((n+1:Nat):Int)-1=(n:Int)by lia]
  .exact uH ad ad
  .obtain⟨i,_,hl⟩:=List.mem_flatMap.mp hl;obtain⟨j,_,rfl⟩:=gI.mp hl;exact a17 _ _
theorem con2 (a b m:Int):nrm [a,b,1] 2 (vA m)=m*m:=by
 unfold nrm;rw[det_2];simp[itT,ttF,vA]
theorem con3 (a b c m:Int):nrm [a,b,c,1] 3 (vA m)=m*m*m:=by
 unfold nrm;rw[det_3];simp[itT,ttF,vA]
 grind
theorem con4 (a b c d m:Int):nrm [a,b,c,d,1] 4 (vA m)=m*m*m*m:=by
 unfold nrm;rw[det_4];simp[itT,ttF,vA]
 grind
theorem dK0 (rp:dZ p)(hn:p.length=n+1){m:Int}(m1:1<=m)(m2:m<=2^60):1<=nrm p n (vA m)/\nrm p n (vA m)<=2^500:=by
 have e: ∀{a b:Int} {k:Nat},1<=a->a<=2^k->1<=b->b<=2^60->1<=a*b/\a*b<=2^(k+60):=λ{a b k} a1 a2 b1 b2=>by
  refine⟨uH a1 b1,?_⟩
  rw[Int.pow_add];exact zS a2 b2 ad (le_of_lt<|Int.pow_pos ac)
 have e2:=e (k:=60) m1 m2 m1 m2;have e3:=e e2.1 e2.2 m1 m2;have e4:=e e3.1 e3.2 m1 m2;rcases rp.cases with⟨x,y,rfl,_⟩| ⟨x,y,z,rfl,_⟩| ⟨x,y,z,w,rfl,_⟩
 .have h:3=n+1:=hn;obtain rfl:n=2:=ad
  rw[con2];exact⟨e2.1,qB e2.2 af⟩
 .have h:4=n+1:=hn;obtain rfl:n=3:=ad
  rw[con3];exact⟨e3.1,qB e3.2 af⟩
 .have h:5=n+1:=hn;obtain rfl:n=4:=ad
  rw[con4];exact⟨e4.1,qB e4.2 af⟩
theorem bX6 (n:Nat)(t:Nat->∅):tbF n n t=(tbL n t).map aL:=by
 unfold tbL tbF;rw[kO];rfl
def twoW (u v:∅)(k:Nat):∅:=if k=0 then u else v
nonrec def gcM (p:List Int)(n:Nat)(w:Nat->∅):∅
 | 0=>0
 | k+1=>((gcM p n w k).gcd (nrm p n<|w k):Nat)
nonrec def bX7 (p:List Int)(n:Nat)(w:Nat->∅):Nat->List (List Int)
 | 0=>[]
 | k+1=>bX7 p n w k++tbL n (itT p n<|w k)
theorem c67 (p:List Int)(n:Nat)(w:Nat->∅): ∀k,(bX7 p n w k).length=k*n
 | 0=>by show 0=_;rw[Nat.zero_mul]
 | k+1=>by
  show(bX7 p n w k++_).length=_
  rw[bO,c67 p n w k,aT9,Nat.add_mul,uG]
theorem c68 {p:List Int}{n:Nat}{w:Nat->∅}: ∀{k:Nat} {l:List Int},l∈bX7 p n w k-> ∃i,∃r<n,l=rwF n (itT p n (w i) r)
 | 0,l,h=>absurd h (by unfold bX7;simp)
 | k+1,l,h=>by
  rcases d4.mp (show l∈bX7 p n w k++tbL n (itT p n<|w k)from h)with z|z
  .exact c68 z
  .obtain⟨i,hi,rfl⟩:=gI.mp z;exact⟨k,i,dX.mp hi,rfl⟩
def b80:Φ:=λds Q=> ∃(p:List Int) (n:Nat) (u:∅) (m:Int),ds=[aL p,.lst [aL<|rwF n u,aL<|rwF n<|vA m]]/\dZ p/\p.length=n+1/\(∀j,(u j).natAbs<=2^60)/\1<=m/\m<=2^60/\ ∀T,a28 500 n T->Q (.pu<|.tup<|tbF n n T)
def b29:US:=(bF 3<|uOp fE (aC 3)<|aC 5)
def b30:US:=(aQ (bF 2<|aS tQ<|a7 (aC 2)<|a7 (aS (kY 4)<|a7 (aC 5) aM) aM) b29)
def aB2:US:=(aQ (bF 5<|aS aU0<|a7 (aC 0)<|a7 (aC 4) aM) b30)
def bR3:US:=(dU<|aS aT2<|a7 (uOp M.gSub (kT<|aW 0)<|@1)<|a7 (aC 2)<|a7 (aC 3) aM)
def bR4:US:=(aQ (gW (fU<|aC 1) (bY 4) aB2) bR3)
def bR5:US:=(aQ (bF 3<|fT aM) bR4)
def bX8:US:=(aQ (bF 2<|@0) bR5)
theorem dK1: Ra b80 bX8 ["p","a","m","r","x","t"]:=by
 rintro ds Q ⟨p,n,u,m,rfl,rp,hn,hu,m1,m2,h⟩;have lo:=rp.ok.lo;have hi:=rp.ok.hi;obtain⟨w,ew⟩: ∃w,w=twoW u (vA m):=⟨_,rfl⟩;have w0:w 0=u:=by rw[ew];rfl
 have w1:w 1=vA m:=by rw[ew];rfl
 have hw: ∀k j,(w k j).natAbs<=2^60:=λk j=>by
  rw[ew];unfold twoW;split
  .exact hu j
  .unfold vA;split
   .lia
   .decide
 have hT: ∀k i j,i<n->(itT p n (w k) i j).natAbs<=2^96:=λk i j hi=>aK (aF3 (n:=n) rp.ok.small (hw k) i j) (fL ac ad)
 have it: ∀k,k<2->[aL<|rwF n u,aL<|rwF n<|vA m].getD k .non=aL (rwF n<|w k):=λk hk=>by
  rcases(show k=0\/k=1 by lia)with rfl|rfl
  .rw[w0];rfl
  .rw[w1];rfl
 unfold bX8;show(aQ _ _:US) _ [~~~aL p,~~~.lst [aL<|rwF n u,aL<|rwF n<|vA m],none,none,none,none];rw[aN];left;unfold bR5;rw[aN];left;refine⟨ac,?_⟩
 unfold bR4;rw[aN];refine bE 2 (λk=>[aL<|rwF n u,aL<|rwF n<|vA m].getD k .non) [~~~aL p,~~~.lst [aL<|rwF n u,aL<|rwF n<|vA m],!0,↑[],none,none] (λQ' q=> ?_) (λk ρ=> ∃x y,ρ=[~~~aL p,~~~.lst [aL<|rwF n u,aL<|rwF n<|vA m],!gcM p n w k,↑((bX7 p n w k).map aL),x,y]) ⟨none,none,rfl⟩ ?_ ?_
 .left
  exact q
 .rintro k ρ hk ⟨x,y,rfl⟩;rw[it k hk];refine⟨ae,?_⟩
  show aB2 _ [~~~aL p,~~~.lst [aL<|rwF n u,aL<|rwF n<|vA m],!gcM p n w k,↑((bX7 p n w k).map aL),~~~aL (rwF n (w k)),y]
  unfold aB2;rw[aN];left;refine⟨p,n,60,w k,rfl,rp,hn,ac,hw k,?_⟩
  try right
  unfold b30;rw[aN];left;refine⟨tbL n<|itT p n<|w k,by rw[bX6],d67 (e:=96) ad ad ac<|hT k,?_⟩
  try right
  refine⟨gcM p n w k,nrm p n<|w k,rfl,?_⟩
  try right
  unfold b29;left;rw[bX6,<-cH];refine⟨?_,_,_,rfl⟩;rw[aJ,aJ,c67,aT9];have:k*n<=2*4:=gG ad ad
  exact aK (show k*n+n<=20 by lia) ac
 .rintro ρ ⟨x,y,rfl⟩;try right
  unfold bR3;simp only[aL];left;obtain⟨c1,c2⟩:=dK0 rp hn m1 m2;have dv:gcM p n w 2∣nrm p n (vA m):=by
   rw[<-w1];exact aM9 _ _
  have g1:1<=gcM p n w 2:=by
   have:0<=gcM p n w 2:=zG _;have z:gcM p n w 2≠0:=λz=>by
    rw[z]at dv;have:=Int.zero_dvd.mp dv
    lia
   lia
  have g2:gcM p n w 2<=2^500:=qB (pX ad dv) c2
  refine⟨n,gcM p n w 2,bX7 p n w 2,?_,ad,ad,g1,g2,λl hl=> ?_,λT S b=>h _ ⟨λr hr=>S.pos r hr,S.zero,b⟩⟩
  .rw[aJ,hn,show((n+1:Nat):Int)-1=(n:Int)by lia]
  .obtain⟨i,r,_,rfl⟩:=c68 hl;exact a17 _ _
def fY:ΦX:=λds Q Ex=> ∃(C:Addr) (p:List Int),ds=[jG C p]/\4<=p.length/\Ex "NotTwo" []
def vC:USX:=(λEx=>fH (dJ<|uOp (gP true) (bK2 "degree"<|aC 0)<|@2) ((bB5 "NotTwo"<|a7 (uC<|.str "this is told in rings of degree two alone") aM) Ex) ((λ_=>cW) Ex))
theorem b48: ∀ds Q Ex,fY ds Q Ex->ds.length=1:=by rintro ds Q Ex ⟨C,p,rfl,_⟩;rfl
theorem bF4: ∀ds Q Ex,fY ds Q Ex->vC Ex {Q with} (init ["r"] ds):=by
 rintro ds Q Ex ⟨C,p,rfl,hp,h⟩;unfold vC;right;show(fH _ _ _:US) _ [~~~jG C p];rw[b77,bV9,aZ0,aA9 (C:=C) (p:=p) rfl];left;rw[aA ad]
 exact⟨ac,h⟩
def vD:ΦX:=λds Q Ex=> ∃(C:Addr) (p:List Int) (d:D),ds=[jG C p,d]/\4<=p.length/\Ex "NotTwo" []
def aP2:USX:=(λEx=>aQ ((λEx=>kU (mF fY (a7 (aC 0) aM) Ex)) Ex) ((λEx=>aQ ((λ_=>(λ_ _=>False)) Ex) ((λ_=>(λ_ _=>False)) Ex)) Ex))
theorem b31: ∀ds Q Ex,vD ds Q Ex->ds.length=2:=by rintro ds Q Ex ⟨C,p,d,rfl,_⟩;rfl
theorem cH5: ∀ds Q Ex,vD ds Q Ex->aP2 Ex {Q with} (init ["r","i","p","k"] ds):=by
 rintro ds Q Ex ⟨C,p,d,rfl,hp,h⟩;unfold aP2;right;show(aQ _ _:US) _ [~~~jG C p,~~~d,none,none];rw[aN];left;exact⟨C,p,rfl,hp,h⟩
abbrev vE:ΦX:=vD
def aP3:USX:=(λEx=>aQ ((λEx=>kU (mF fY (a7 (aC 0) aM) Ex)) Ex) ((λEx=>aQ ((λ_=>(λ_ _=>False)) Ex) ((λEx=>aQ ((λ_=>(λ_ _=>False)) Ex) ((λEx=>aQ ((λ_=>(λ_ _=>False)) Ex) ((λEx=>aQ ((λ_=>(λ_ _=>False)) Ex) ((λ_=>(λ_ _=>False)) Ex)) Ex)) Ex)) Ex)) Ex))
theorem c69: ∀ds Q Ex,vE ds Q Ex->ds.length=2:=b31
theorem cH6: ∀ds Q Ex,vE ds Q Ex->aP3 Ex {Q with} (init ["r","i","p","k","w","x","s","m"] ds):=by
 rintro ds Q Ex ⟨C,p,d,rfl,hp,h⟩;unfold aP3;right;show(aQ _ _:US) _ [~~~jG C p,~~~d,none,none,none,none,none,none];rw[aN];left;exact⟨C,p,rfl,hp,h⟩
def jH:ΦX:=λds Q Ex=> ∃(C:Addr) (p:List Int) (d e:D),ds=[jG C p,d,e]/\4<=p.length/\Ex "NotTwo" []
def aB3:USX:=(λEx=>aQ ((λEx=>kU (mF fY (a7 (aC 0) aM) Ex)) Ex) ((λEx=>aQ ((λ_=>(λ_ _=>False)) Ex) ((λEx=>aQ ((λ_=>(λ_ _=>False)) Ex) ((λEx=>aQ ((λ_=>(λ_ _=>False)) Ex) ((λEx=>aQ ((λ_=>(λ_ _=>False)) Ex) ((λ_=>(λ_ _=>False)) Ex)) Ex)) Ex)) Ex)) Ex))
theorem bX9: ∀ds Q Ex,jH ds Q Ex->ds.length=3:=by rintro ds Q Ex ⟨C,p,d,e,rfl,_⟩;rfl
theorem c70: ∀ds Q Ex,jH ds Q Ex->aB3 Ex {Q with} (init ["r","o","t","x","k","y","m","a"] ds):=by
 rintro ds Q Ex ⟨C,p,d,e,rfl,hp,h⟩;unfold aB3;right;show(aQ _ _:US) _ [~~~jG C p,~~~d,~~~e,none,none,none,none,none];rw[aN];left;exact⟨C,p,rfl,hp,h⟩
def aB4:Φ:=λds Q=> ∃n:Nat,ds=[.int (n:Int),.int 1,.lst []]/\1<=n/\n<=8/\ ∀d,Q (.pu d)
def aH7:US:=(dU<|aS cA<|a7 (aC 5) aM)
def aH8:US:=(aQ (gW (cK6<|a7 (aC 3) aM) (rN<|eC 6<|eC 4 rM)<|aN7 5<|uOp fE (cF0<|aS aZ1<|a7 (aC 5)<|a7 (d08 (aC 4) jT<|mO<|aC 6) aM)<|d08 (aC 4) (mO<|aC 6) jT) aH7)
def aH9:US:=(aQ (bF 5<|fT aM) aH8)
def xB:US:=(aQ (gW (fU<|aC 2) (bY 4) λ_ _=>False) aH9)
def aB5:US:=(aQ (bF 3<|eI [1,0] [none,some 1,some 0,none] 3 (gN<|a7 (aC 0) aM) (bY 0) (λρ Q=>Q true ρ)<|uOp fE (uOp fE (uOp bP1 (gL<|a7 @0 aM)<|aC 0)<|gL<|a7 (aC 1) aM)<|uOp bP1 (gL<|a7 @0 aM)<|uOp M.gSub (uOp M.gSub (aC 2)<|aC 0)<|@1) xB)
theorem one_tk (n:Nat):Tk n 1 (mE 1):=by
 have z: ∀i j,0<=mE 1 i j/\mE 1 i j<=1:=λi j=>by unfold mE;split<;>lia
 exact⟨⟨λi hi=>by rw[show mE 1 i i=1 from aA rfl];decide,λi hi j hj=>a8 ad⟩,λi j=>(z i j).1,λi j=>(z i j).2⟩
theorem c71: Ra aB4 aB5 ["k","m","r","t","w","b","i"]:=by
 rintro ds Q ⟨n,rfl,n1,n8,h⟩;have big:(10000:Nat)<=sizeLine:=ac
 unfold aB5;show(aQ _ _:US) _ [!(n:Int),!1,~~~.lst [],none,none,none,none];rw[aN,iM]
 refine dR (t0:=0) n (λk=> .int (0+(k:Int))) [!(n:Int),!1,~~~.lst [],none,none,none,none] ?_ ad (λx l=>[x,!1,!(n:Int),↑l]) none rfl (λ_ _ _=>rfl) (λ_ _=>cC _) (λ_ _ _ q=>q) (λ_ _ _=>rfl) (λk=>aL (rwF n<|mE 1 k)) ?_ ?_
 .intro Q' q;left;refine⟨⟨ad,ad⟩,?_⟩
  rw[bW];exact q
 .intro k l Q' hk q;left;have e1:(0+(k:Int)).toNat=k:=ad
  have e2:((n:Int)-(0+(k:Int))-1).toNat=n-k-1:=ad
  rw[e1,e2];have er:=d45 (m:=1) hk;have el:=dN length er;rw[b7]at el;simp only[bO,dC,kM]at el;refine⟨ad,⟨ae,ad,ad,ad⟩,ad,ad,ad,⟨ae,ad,ad,ad⟩,?_,?_⟩
  .simp only[bO,dC,kM]
   lia
  .rw[er];exact q
 show xB _ [!(n:Int),!1,~~~.lst [],↑(tbF n n (mE 1)),none,none,none]
 unfold xB;rw[aN];refine bE 0 (λi=>([]:List D).getD i .non) [!(n:Int),!1,~~~.lst [],↑(tbF n n (mE 1)),none,none,none] (λQ' q=> ?_) (λi ρ=>ρ=[!(n:Int),!1,~~~.lst [],↑(tbF n n (mE 1)),none,none,none]) rfl (λi _ hi=>absurd hi (zQ i)) ?_
 .left
  exact q
 rintro ρ rfl;try right
 unfold aH9;rw[aN];left;refine⟨ad,?_⟩
 unfold aH8;rw[aN];have tk:=one_tk n;refine bE (tbF n n<|mE 1).length (λi=> .tup [.int (i:Int),(tbF n n<|mE 1).getD i .non]) [!(n:Int),!1,~~~.lst [],~~~.lst (tbF n n (mE 1)),none,↑[],none] (λQ' q=> ?_)
  (λi ρ=> ∃(x4 x6:Option B),ρ=[!(n:Int),!1,~~~.lst [],~~~.lst (tbF n n (mE 1)),x4,↑(tbF i n (i7 (mE 1) i)),x6]) ⟨_,_,rfl⟩ ?_ ?_
 .left
  exact q
 .rintro i ρ hi ⟨y4,x6,rfl⟩;rw[a19]at hi;rw[aT0 hi];have F:=b78 tk ac i ad
  refine⟨ae,ae,rfl,?_⟩
  show(aN7 5 _:US) _ [!(n:Int),!1,~~~.lst [],~~~.lst (tbF n n (mE 1)),~~~aL (rwF n (mE 1 i)),↑(tbF i n (i7 (mE 1) i)),!(i:Int)]
  simp only[aL];left;rw[cM2 ad]
  refine⟨i,n,i7 (mE 1) i,mE 1 i,rfl,ad,n8,λr hr=>by have:=F.tri.pos r hr;lia,λr j=>aK (F.bd r j) (fL ac ac),λj=>by have:=tk.lo i j;have:=tk.hi i j;lia,?_⟩
  simp only[aL];have ab: ∀j,i<=j->lZ (i7 (mE 1) i) i (mE 1 i) j=mE 1 i j:=wD F.tri i (mE 1 i) (aG _);have er:=dI6 (f:=lZ (i7 (mE 1) i) i (mE 1 i)) (n:=n) ad ab
  have el:=dN length er;rw[bO,b7,b7]at el;refine⟨nl_row _,by rw[b7];lia,by rw[a19];lia,~~~.tup ((rwF n<|mE 1 i).map .int),!(i:Int),?_⟩
  rw[er];have:=bC6 i n (i7 (mE 1) i) (lZ (i7 (mE 1) i) i<|mE 1 i);rw[aL]at this;rw[this];rfl
 .rintro ρ ⟨y4,x6,rfl⟩;unfold aH7;left;exact h _
def sR:Φ:=λds Q=> ∃(C:Addr) (p:List Int),ds=[jG C p]/\dZ p/\ ∀d,Q (.pu d)
def sS:US:=(dU<|aS aB4<|a7 (bK2 "degree"<|aC 0)<|a7 @1<|a7 (fT aM) aM)
theorem b49: Ra sR sS ["r"]:=by
 rintro ds Q ⟨C,p,rfl,rp,h⟩;have lo:=rp.ok.lo;have hi:=rp.ok.hi;unfold sS;show(dU _:US) _ [~~~jG C p];rw[lM,eE,eF,aA9 (C:=C) (p:=p) rfl];left;exact⟨ac,p.length-1,by rw[show(p.length:Int)-1=((p.length-1:Nat):Int)by lia],ad,ad,h⟩
def kZ:ΦX:=λds Q Ex=> ∃(C:Addr) (p:List Int) (d:D),ds=[jG C p,d]/\dZ p/\4<=p.length/\Ex "NotTwo" []
def aB6:USX:=(λEx=>aQ ((λEx=>bF 2 ((λEx=>mF jH (a7 (aC 0)<|a7 (aS sR<|a7 (aC 0) aM)<|a7 (aC 1) aM) Ex) Ex)) Ex) ((λ_=>(λ_ _=>False)) Ex))
theorem bY0: ∀ds Q Ex,kZ ds Q Ex->ds.length=2:=by rintro ds Q Ex ⟨C,p,d,rfl,_⟩;rfl
theorem c72: ∀ds Q Ex,kZ ds Q Ex->aB6 Ex {Q with} (init ["r","i","f"] ds):=by
 rintro ds Q Ex ⟨C,p,d,rfl,rp,hp,h⟩;unfold aB6;right;show(aQ _ _:US) _ [~~~jG C p,~~~d,none];rw[aN];left;exact⟨C,p,rfl,rp,λe=>⟨C,p,_,_,rfl,hp,h⟩⟩
def idW (n:Nat):List Int:=[4,12,401,401,10000,10000,3]++replicate n 201
structure IdD (n:Nat)(a0 a1 a2 a3 a4 a5 a6:Int)(zs:List Int):Prop where
 b1:0<=a1/\a1<12
 b2:0<=a2/\a2<401
 b3:0<=a3/\a3<401
 b4:0<=a4/\a4<10000
 b5:0<=a5/\a5<10000
 b6:0<=a6/\a6<3
 bz: ∀x∈zs,0<=x/\x<201
 lz:zs.length=n
theorem id_of {xs:List Int}(h:Below xs (idW n)): ∃a0 a1 a2 a3 a4 a5 a6 zs,xs=a0::a1::a2::a3::a4::a5::a6::zs/\IdD n a0 a1 a2 a3 a4 a5 a6 zs:=by
 have hl:xs.length=n+7:=by rw[h.1];unfold idW;simp
 have rp: ∀j,j<n->(idW n)[7+j]? =some 201:=λj hj=>by
  unfold idW;rw[gZ ae]
  simp[hj]
 rcases xs with _| ⟨a0,_| ⟨a1,_| ⟨a2,_| ⟨a3,_| ⟨a4,_| ⟨a5,_| ⟨a6,zs⟩⟩⟩⟩⟩⟩⟩<;>simp only[dC,kM]at hl<;>first| (exfalso;lia)|skip
 refine⟨a0,a1,a2,a3,a4,a5,a6,zs,rfl,h.2 1 a1 12 rfl rfl,h.2 2 a2 401 rfl rfl,h.2 3 a3 401 rfl rfl,h.2 4 a4 10000 rfl rfl,h.2 5 a5 10000 rfl rfl,h.2 6 a6 3 rfl rfl,λx hx=> ?_,ad⟩
 obtain⟨i,hi,rfl⟩:=List.getElem_of_mem hx;exact h.2 (7+i) _ 201 (by rw[show 7+i=i+7 by lia];simp[hi]) (rp i ad)
def idL (a0 a1 a2 a3 a4 a5 a6:Int)(zs:List Int):List D:= .int a0:: .int a1:: .int a2:: .int a3:: .int a4:: .int a5:: .int a6::zs.map .int
def aU3:Φ:=λds Q=> ∃(p:List Int) (n:Nat) (c q:Int),ds=[aL p,.int c,.int q]/\dZ p/\p.length=n+1/\NoZ p/\0<q/\ ∀T,a28 600 n T->Q (.pu<|.tup<|tbF n n T)
def a29:US:=(aN7 6<|aS bF2<|a7 (aC 3)<|a7 (aC 9)<|a7 (aC 8) aM)
def aU4:US:=(aQ (fH (dJ<|uOp (w6 λi j=>decide (j<i)) (uOp lL (uIx (aW 4)<|uOp fE @4<|aC 7)<|@4)<|@0) (bF 9<|aS tQ<|a7 (aC 9)<|a7 (uOp dQ (aC 5)<|uOp fE @1<|uOp aN8 (uIx (aW 4)<|uOp fE @4<|aC 7)<|@4) aM) cW) a29)
def aU5:US:=(aQ (bF 9<|aS cD7<|a7 (aS bF0<|a7 (aC 0)<|a7 (aC 8) aM) aM) aU4)
def a30:US:=(aQ (bF 8<|uOp M.gSub (uIx (aW 4)<|uOp fE @2<|aC 7)<|@200) aU5)
def xC:US:=(bF 12<|aS b80<|a7 (aC 0)<|a7 (fT<|a7 (aC 11)<|a7 (aS cA<|a7 (uOp fE (fT<|a7 (aC 9) aM)<|uOp dQ (fT<|a7 @0 aM)<|uOp M.gSub (aC 3)<|@1) aM) aM) aM)
def xD:US:=(aQ (fH (cD1 (dJ<|uOp (gP false) (uIx (aW 4)<|@0)<|@3)<|dJ<|uOp (gP false) (uOp lL (uIx (aW 4)<|@5)<|@2)<|@1) (bF 9<|uOp fE @1<|uIx (aW 4)<|@4) cW) xC)
def aI0:US:=(aQ (fH (dJ<|uOp (gP false) (uIx (aW 4)<|@0)<|@2) (bF 9<|uOp aN8 (aC 9)<|aS tQ<|a7 (aC 9)<|a7 (uOp fE @1<|uOp lL (uIx (aW 4)<|@4)<|@12) aM) cW) xD)
def aI1:US:=(aQ (bF 9<|aS tQ<|a7 (aS (kY 4)<|a7 (aS aU0<|a7 (aC 0)<|a7 (aC 11) aM) aM)<|a7 (uOp dQ (uOp dQ (aC 5)<|@29)<|@31) aM) aI0)
def l6:US:=(dU<|aS cA<|a7 (eI [] [none,some 4,none] 2 (fU<|aC 12) (bY 0) (λρ Q=>Q true ρ)<|aS cA<|a7 (eI [] [none,some 1,none] 2 (fU<|aC 0) (bY 0) (λρ Q=>Q true ρ)<|uOp dQ (aS dE2<|a7 @1<|a7 (uOp M.gSub (uIx (aW 1)<|@1)<|@5) aM)<|aC 0) aM) aM)
def aB7:US:=(aQ (fH (dJ<|uOp (w6 λi j=>decide (j<i)) (uIx (aW 4)<|@0)<|@1) aI1 cW) l6)
def bF5:US:=(aQ (fH (dJ<|uOp (gP false) (uIx (aW 4)<|@0)<|@1) (bF 12<|aS aP0<|a7 (aC 0)<|a7 (uIx (aW 6)<|@0)<|a7 (uIx (aW 6)<|@1) aM) cW) aB7)
def aP4:US:=(aQ (bF 12<|uIx (aW 6)<|@0) bF5)
def bF6:US:=(aQ (fH (dJ<|uOp (dF7 false) (aC 11)<|aS cA<|a7 (uOp dQ (fT<|a7 @0 aM)<|aC 3) aM) (bF 11<|aS cA<|a7 (uOp fE (fT<|a7 @2 aM)<|uOp dQ (fT<|a7 @0 aM)<|uOp M.gSub (aC 3)<|@1) aM) cW) aP4)
def bF7:US:=(aQ (bF 11<|aS cA<|a7 (eI [10] [none,some 10,none] 2 (fU<|uSl (aW 4) (mO<|@7) jT) (bY 0) (λρ Q=>Q true ρ)<|uOp M.gSub (uOp lL (aC 0)<|uOp fE (uOp dQ @2<|aC 1)<|@1)<|aC 1) aM) bF6)
def aP5:US:=(aQ (bF 10<|uIx (uV<|fT<|a7 @2<|a7 @20<|a7 @100 aM)<|uIx (aW 4)<|@6) bF7)
def aP6:US:=(aQ (gW (gN<|a7 @2 aM) (bY 7) a30) aP5)
def aP7:US:=(aQ (bF 6<|fT aM) aP6)
def aP8:US:=(aQ (bF 5<|uOp dQ (uOp dQ (uOp dQ (uOp dQ (uOp dQ (uOp dQ (uOp dQ (uOp dQ (uOp b96 @2<|@6)<|uOp b96 @3<|@4)<|uOp b96 @5<|@3)<|uOp b96 @7<|@2)<|uOp b96 @11<|@2)<|@13)<|@17)<|@19)<|@23) aP7)
def aP9:US:=(aQ (bF 4<|aS oF<|a7 (aC 1)<|a7 (uOp fE (fT<|a7 @4<|a7 @12<|a7 @401<|a7 @401<|a7 (uOp b96 @10<|@4)<|a7 (uOp b96 @10<|@4)<|a7 @3 aM)<|uOp dQ (fT<|a7 @201 aM)<|aC 3)<|a7 (aC 2) aM) aP8)
def bF8:US:=(aQ (bF 3<|uOp M.gSub (kT<|aW 0)<|@1) aP9)
theorem a28.times (h:a28 500 n T)(c1:1<=c)(c9:c<=9):a28 600 n (λi j=>c*T i j):=by
 refine⟨λr hr=>uH ad (h.pos r hr),λi hi j hj=>by rw[h.zero i hi j hj,kP],λr j=> ?_⟩
 rw[eK];refine aK (gG (show c.natAbs<=2^4 by lia)<|h.bd r j) ?_
 rw[<-iV];exact fL ac ac
theorem a28.up (h:a28 60 n T):a28 500 n T:=⟨h.pos,h.zero,λr j=>aK (h.bd r j) (fL ac ac)⟩
section
variable {Q:B->Prop}{p:List Int}{n:Nat}{c q:Int}{a0 a1 a2 a3 a4 a5 a6:Int}{zs:List Int}{u:∅}{s6 s7 s8 s9 s10 s12:Option B}
theorem aI2 (k:Nat)(hk:k<7):atI (idL a0 a1 a2 a3 a4 a5 a6 zs) (k:Int)=some (.int<|[a0,a1,a2,a3,a4,a5,a6].getD k 0):=by
 refine cB ?_
 match k,hk with
 | 0,_=>rfl
 | 1,_=>rfl
 | 2,_=>rfl
 | 3,_=>rfl
 | 4,_=>rfl
 | 5,_=>rfl
 | 6,_=>rfl
def smo:Int:=64*81*125*49*121*13*17*19*23
nonrec def idE (p:List Int)(c q:Int)(n:Nat)(F:List D)(s6 s7 s8 s9 s10 s11 s12:Option B):Ev:=[~~~aL p,!c,!q,!(n:Int),↑F,!smo,s6,s7,s8,s9,s10,s11,s12]
theorem d78 (n4:n<=4)(N:IdD n a0 a1 a2 a3 a4 a5 a6 zs)(tk:a28 500 n T)(h: ∀T,a28 600 n T->Q (.pu<|.tup<|tbF n n T)) :
  l6 {Q with} (idE p c q n (idL a0 a1 a2 a3 a4 a5 a6 zs) s6 s7 s8 s9 s10 s11<|~~~.tup (tbF n n T)):=by
 have b1:=N.b1;obtain⟨d,ed,d1,d9⟩: ∃d:Int,d=(if 1<a1-5 then a1-5 else 1)/\1<=d/\d<=9:=⟨_,rfl,by split<;>lia,by split<;>lia⟩
 have i1:atI ((idL a0 a1 a2 a3 a4 a5 a6 zs)) 1=some (.int a1):=aI2 1 ac
 have hh:=h _ (tk.times d1 d9);unfold idE;unfold l6;rw[lM,eE,eF]
 refine dR (t0:=0) n (λk=>(tbF n n T).getD k .non) [~~~aL p,!c,!q,!(n:Int),↑(idL a0 a1 a2 a3 a4 a5 a6 zs),!smo,s6,s7,s8,s9,s10,s11,~~~.tup (tbF n n T)] (λQ' q=> ?_) ad (λx l=>[x,some<|.bo<|idL a0 a1 a2 a3 a4 a5 a6 zs,↑l]) none rfl (λ_ _ _=>rfl) (λ_ _=>cC _) (λ_ _ _ q=>q) (λ_ _ _=>rfl) (λi=>aL (rwF n λj=>d*T i j)) ?_ ?_
 .left
  rw[a19];exact q
 .intro i l Q' hi q;rw[aT0 hi]at q⊢;rw[eE,eF]
  refine dR (t0:=0) n (λk=>((rwF n<|T i).map D.int).getD k .non) [~~~aL (rwF n (T i)),some<|.bo<|idL a0 a1 a2 a3 a4 a5 a6 zs,↑l] (λQ' q=> ?_) ad (λx l=>[x,some<|.bo<|idL a0 a1 a2 a3 a4 a5 a6 zs,↑l]) none rfl (λ_ _ _=>rfl) (λ_ _=>cC _) (λ_ _ _ q=>q) (λ_ _ _=>rfl) (λj=> .int (d*T i j)) ?_ ?_
  .simp only[aL];left;rw[b7];exact q
  .intro j l' Q' hj q;rw[j6 hj]at q⊢;left;rw[i1];right;rw[<-ed];exact⟨cmL ad ad,q⟩
  .rw[mT];exact q
 .left
  exact hh
theorem d79 (rp:dZ p)(hn:p.length=n+1)(N:IdD n a0 a1 a2 a3 a4 a5 a6 zs)(tk:a28 500 n T)(hu: ∀j,(u j).natAbs<=2^20)(h: ∀T,a28 600 n T->Q (.pu<|.tup<|tbF n n T)) :
  aB7 {Q with} (idE p c q n (idL a0 a1 a2 a3 a4 a5 a6 zs) s6 s7 s8 s9 s10 (~~~aL (rwF n u))<|~~~.tup (tbF n n T)):=by
 have n2:2<=n:=by have:=rp.ok.lo;lia
 have n4:n<=4:=by have:=rp.ok.hi;lia
 have b4:=N.b4;have b5:=N.b5;have i0:atI (idL a0 a1 a2 a3 a4 a5 a6 zs) 0=some (.int a0):=aI2 0 ac
 have i4:atI (idL a0 a1 a2 a3 a4 a5 a6 zs) 4=some (.int a4):=aI2 4 ac
 have i5:atI (idL a0 a1 a2 a3 a4 a5 a6 zs) 5=some (.int a5):=aI2 5 ac
 have fin: ∀T s9,a28 500 n T->l6 {Q with} (idE p c q n (idL a0 a1 a2 a3 a4 a5 a6 zs) s6 s7 s8 s9 s10 (~~~aL (rwF n u))<|~~~.tup (tbF n n T)):=λT s9 tk=>d78 n4 N tk h
 have k1:(-2^63<=(n:Int)-1/\(n:Int)-1<2^63/\(0+1)*(n-1)<=sizeLine):=⟨ad,ad,aK (show(0+1)*(n-1)<=10 by lia) ac⟩
 have k2:0+1+(n-1)<=sizeLine:=aK (show 0+1+(n-1)<=10 by lia) ac
 have lf:(replicate (n-1) [D.int 0]).flatten.length=n-1:=by rw[mS,aJ,kI]
 have md: ∀m:Int,1<=m->m<=2^60->xC {nx:=λρ=>l6 {Q with} ρ,rt:=Q} (idE p c q n (idL a0 a1 a2 a3 a4 a5 a6 zs) s6 s7 s8 (!m) s10 (~~~aL (rwF n u))<|~~~.tup (tbF n n T)):=λm m1 m2=>by
  have md:b80 [aL p,.lst [aL<|rwF n u,.tup (.int m::(replicate (n-1) [D.int 0]).flatten)]] λb=>l6 {Q with} (idE p c q n (idL a0 a1 a2 a3 a4 a5 a6 zs) s6 s7 s8 (!m) s10 (~~~aL (rwF n u))<|some b):=by
   refine⟨p,n,u,m,?_,rp,hn,λj=>aK (hu j) (fL ac ac),m1,m2,λT tk=>fin T _ tk⟩
   rw[mS,<-cM7 m ad]
   rfl
  unfold idE at md⊢;unfold xC;left;rw[show((n:Int)-1).toNat=n-1 by lia,lf]
  exact⟨ac,ac,k1,k2,ac,md⟩
 unfold idE at fin md⊢;unfold aB7;rw[aN];left;rw[i0];right;split
 .unfold aI1;rw[aN];left;refine⟨p,n,20,u,rfl,rp,hn,ac,hu,?_⟩
  try right
  refine⟨tbL n<|itT p n u,by rw[bX6],d67 (e:=56) ad n4 ac λi j hi=>aK (aF3 (n:=n) rp.ok.small hu i j) (fL ac ad),?_⟩
  left
  refine⟨by unfold smo;exact cmR ac ac,cmR ac ac,_,_,rfl,?_⟩
  generalize hg:((Int.gcd (lN 4<|tbL n<|itT p n u) (smo*29*31):Nat):Int)=g;have d:g∣smo*29*31:=by rw[<-hg];exact aM9 _ _
  have d0:0<=g:=by rw[<-hg];exact zG _
  have d1:g≠0:=λz=>by
   rw[z]at d;exact absurd (Int.zero_dvd.mp d) ac
  have d2:g<=2^60:=qB (pX ac d) ac
  try right
  have t2: ∀m:Int,1<=m->m<=2^60->xD {nx:=λρ=>l6 {Q with} ρ,rt:=Q} (idE p c q n (idL a0 a1 a2 a3 a4 a5 a6 zs) s6 s7 s8 (!m) s10 (~~~aL (rwF n u))<|~~~.tup (tbF n n T)):=λm m1 m2=>by
   have m3:=md m m1 m2;have m4:=md (1+a4) ad ad
   unfold idE;unfold xD;rw[aN];left;rw[i0];right;split
   .rw[i5];right;refine⟨ac,?_⟩
    split
    .rw[i4];right;exact m4
    .exact m3
   .exact m3
  unfold idE at t2;unfold aI0;rw[aN];left;rw[i0];right;split
  .rw[i4];right;refine⟨ac,_,_,rfl,?_⟩
   generalize hw:((Int.gcd g (1+a4.fmod 12):Nat):Int)=w;have w0:0<=w:=by rw[<-hw];exact zG _
   obtain⟨v,ev⟩:w∣g:=by rw[<-hw];exact Int.gcd_dvd_left _ _
   have w1:w≠0:=λz=>d1 (by rw[ev,z,a01])
   have v1:1<=v:=by
    have:0<w*v:=ad
    exact Int.pos_of_mul_pos_right this ad
   have w2:w<=12:=by
    have d3:w∣1+a4.fmod 12:=by rw[<-hw];exact aM9 _ _
    rw[cU _ ac]at d3
    have:=pX ad d3
    lia
   rw[ev];right;rw[Int.mul_fdiv_cancel_left _ w1];refine⟨⟨w1,aY7 ad ad⟩,t2 v v1 ?_⟩
   .have:1*v<=w*v:=Int.mul_le_mul_of_nonneg_right ad ad
    lia
  .exact t2 g ad d2
 .exact fin T _ tk
theorem dK2 (rp:dZ p)(hn:p.length=n+1)(N:IdD n a0 a1 a2 a3 a4 a5 a6 zs)(hu: ∀j,(u j).natAbs<=2^20){q0 r0 q1 r1:Int}(q01:1<=q0)(q02:q0<=2^60)(q11:1<=q1)(q12:q1<=2^60)(h: ∀T,a28 600 n T->Q (.pu<|.tup<|tbF n n T)) :
  aP4 {Q with} (idE p c q n (idL a0 a1 a2 a3 a4 a5 a6 zs) (↑[knD n q0 r0,knD n q1 r1]) s7 s8 s9 s10 (~~~aL (rwF n u)) s12):=by
 have n2:2<=n:=by have:=rp.ok.lo;lia
 have n4:n<=4:=by have:=rp.ok.hi;lia
 have i0:atI (idL a0 a1 a2 a3 a4 a5 a6 zs) 0=some (.int a0):=aI2 0 ac
 have j0:atI [knD n q0 r0,knD n q1 r1] 0=some (knD n q0 r0):=cB (j:=0) rfl;have j1:atI [knD n q0 r0,knD n q1 r1] 1=some (knD n q1 r1):=cB (j:=1) rfl;have t0:=dO0 (n:=n) (r:=r0) q01 q02;have t1:=dO0 (n:=n) (r:=r1) q11 q12;have e0:knD n q0 r0= .tup (tbF n n<|clT n<|knT q0 r0):=by unfold knD;rw[d77]
 have e1:knD n q1 r1= .tup (tbF n n<|clT n<|knT q1 r1):=by unfold knD;rw[d77]
 have f10:=λT tk=>d79 (T:=T) (c:=c) (q:=q) (s6:=some (.ow [knD n q0 r0,knD n q1 r1])) (s7:=s7) (s8:=s8) (s9:=s9) (s10:=s10) rp hn N tk hu h
 unfold idE at f10⊢;unfold aP4;rw[aN];left;rw[j0];right;unfold bF5;rw[aN];left;rw[i0,j0,j1];right;split
 .refine⟨p,n,clT n<|knT q0 r0,clT n<|knT q1 r1,by rw[<-e0,<-e1],rp,hn,t0.bd,t1.bd,λi hi j hj=>t0.zero i hi j ad,λi hi j hj=>t1.zero i hi j ad,t0.pos 0 ad,t1.pos 0 ad,f10⟩
 .have:=f10 _ t0.up;rw[<-e0]at this;exact this
theorem dK3 (rp:dZ p)(hn:p.length=n+1)(N:IdD n a0 a1 a2 a3 a4 a5 a6 zs){q0 r0 q1 r1:Int}(q01:1<=q0)(q02:q0<=2^60)(q11:1<=q1)(q12:q1<=2^60)(h: ∀T,a28 600 n T->Q (.pu<|.tup<|tbF n n T)){s11:Option B} :
  aP5 {Q with} (idE p c q n (idL a0 a1 a2 a3 a4 a5 a6 zs) (↑[knD n q0 r0,knD n q1 r1]) s7 s8 s9 s10 s11 s12):=by
 have n2:2<=n:=by have:=rp.ok.lo;lia
 have n4:n<=4:=by have:=rp.ok.hi;lia
 have b6:=N.b6;have i6:atI (idL a0 a1 a2 a3 a4 a5 a6 zs) 6=some (.int a6):=aI2 6 ac
 obtain⟨w,jw,w1,w2⟩: ∃w,atI [D.int 2,.int 20,.int 100] a6=some (.int w)/\1<=w/\w<=100:=by
  rcases(show a6=0\/a6=1\/a6=2 by lia)with e|e|e<;>rw[e]
  .exact⟨2,cB (j:=0) rfl,ac,ac⟩
  .exact⟨20,cB (j:=1) rfl,ac,ac⟩
  .exact⟨100,cB (j:=2) rfl,ac,ac⟩
 have f8:=fun(u:∅) (hu: ∀j,(u j).natAbs<=2^20)=>dK2 (u:=u) (r0:=r0) (r1:=r1) (c:=c) (q:=q) (s7:=s7) (s8:=s8) (s9:=s9) (s10:=some (.pu<|.int w)) (s12:=s12) rp hn N hu q01 q02 q11 q12 h
 have d7:cutD (idL a0 a1 a2 a3 a4 a5 a6 zs) (some 7) none=zs.map .int:=by
  rw[show(7:Int)=((7:Nat):Int)from rfl,aS7 _ 7 (by unfold idL;simp)]
  rfl
 unfold idE at f8⊢;unfold aP5;rw[aN];left;rw[i6];right;rw[jw];right;refine⟨ac,?_⟩
 unfold bF7;rw[aN,iM,eE,eF]
 refine dR (t0:=0) n (λk=>(zs.map D.int).getD k .non) (idE p c q n (idL a0 a1 a2 a3 a4 a5 a6 zs) (↑[knD n q0 r0,knD n q1 r1]) s7 s8 s9 (!w) s11 s12) (λQ' q=> ?_) ad (λx l'=>[x,!w,↑l']) none rfl (λ_ _ _=>rfl) (λ_ _=>cC _) (λ_ _ _ q=>q) (λ_ _ _=>rfl) (λk=> .int (zs.getD k 0%(2*w+1)-w)) ?_ ?_
 .left
  rw[d7,aJ,N.lz];exact q
 .intro k l' Q' hk q';have ek:(zs.map D.int).getD k .non= .int (zs.getD k 0):=by
   rw[aR,bP,aU (by rw[N.lz];exact hk),aR,aU (by rw[N.lz];exact hk)];rfl
  rw[ek]at q'⊢;left;rw[cU _ ad]
  exact⟨cmL ac ac,ad,q'⟩
 rw[mT];obtain⟨g,eg,hb⟩: ∃g:∅,(g=λj=>zs.getD j 0%(2*w+1)-w)/\ ∀j,(g j).natAbs<=2^20:=⟨_,rfl,λj=>by
  have:=cO (zs.getD j 0) (show 2*w+1≠0 by lia)
  have:=cY (zs.getD j 0) (show 0<2*w+1 by lia)
  show(zs.getD j 0%(2*w+1)-w).natAbs<=1048576
  lia⟩
 rw[<-eg];unfold idE;left;unfold bF6;rw[aN,b77,bV9,aZ0];left;rw[bW,aF1];refine⟨ac,⟨ad,ad,aK (show(0+1)*n<=10 by lia) ac⟩,?_⟩
 refine c45 (a:=rwF n g) (b:=rwF n λ_=>0) ?_
 right;cases (false ^^ decide (rwF n g=rwF n λ_=>0))with
 | true=>
  rw[aA rfl];have lf:(replicate (n-1) [D.int 0]).flatten.length=n-1:=by rw[mS,aJ,kI]
  rw[show((n:Int)-1).toNat=n-1 by lia,lf]
  refine⟨ac,ac,⟨ad,ad,aK (show(0+1)*(n-1)<=10 by lia) ac⟩,aK (show 0+1+(n-1)<=10 by lia) ac,?_⟩
  have e:D.tup ([D.int 2]++(replicate (n-1) [D.int 0]).flatten)=aL (rwF n<|vA 2):=by
   rw[mS,<-cM7 2 ad]
   rfl
  have f:=f8 (vA 2) λj=>by unfold vA;split<;>decide
  rw[<-e]at f;exact f
 | false=>
  rw[a8 ac]
  exact f8 g hb
theorem dK4 (rp:dZ p)(hn:p.length=n+1)(nz:NoZ p)(N:IdD n a0 a1 a2 a3 a4 a5 a6 zs)(h: ∀T,a28 600 n T->Q (.pu<|.tup<|tbF n n T)) :
  aP6 {Q with} (idE p c q n (idL a0 a1 a2 a3 a4 a5 a6 zs) (↑[]) s7 s8 s9 s10 s11 s12):=by
 have n2:2<=n:=by have:=rp.ok.lo;lia
 have n4:n<=4:=by have:=rp.ok.hi;lia
 unfold aP6;rw[aN];refine bE 2 (λi=> .int (0+(i:Int))) (idE p c q n (idL a0 a1 a2 a3 a4 a5 a6 zs) (↑[]) s7 s8 s9 s10 s11 s12) (λQ' q=> ?_)
  (λk ρ=> ∃s7 s8 s9 l,ρ=idE p c q n (idL a0 a1 a2 a3 a4 a5 a6 zs) (↑l) s7 s8 s9 s10 s11 s12/\l.length=k/\ ∀d∈l,∃q r:Int,d=knD n q r/\1<=q/\q<=2^60) ⟨s7,s8,s9,[],rfl,rfl,ae⟩ ?_ ?_
 .left
  exact⟨⟨ac,ac⟩,q⟩
 .rintro k ρ hk ⟨s7,s8,s9,l,rfl,hl,hd⟩;obtain⟨v2,j2,v21,v22⟩: ∃v,atI (idL a0 a1 a2 a3 a4 a5 a6 zs) (2+(0+(k:Int)))=some (.int v)/\0<=v/\v<401:=by
   rcases(show k=0\/k=1 by lia)with rfl|rfl
   .exact⟨a2,aI2 2 ac,N.b2⟩
   .exact⟨a3,aI2 3 ac,N.b3⟩
  obtain⟨v4,j4,v41,v42⟩: ∃v,atI (idL a0 a1 a2 a3 a4 a5 a6 zs) (4+(0+(k:Int)))=some (.int v)/\0<=v/\v<10000:=by
   rcases(show k=0\/k=1 by lia)with rfl|rfl
   .exact⟨a4,aI2 4 ac,N.b4⟩
   .exact⟨a5,aI2 5 ac,N.b5⟩
  have hok:d55 (n+1) 9 8 (λj=>p.getD j 0) (v2-200):=⟨λj=>aK (eZ rp.ok.small j) ac,show(v2-200).natAbs<=256 by lia,ad,ac,ad⟩
  have vb:=d54 (n:=n+1) hok.fb hok.zb;have v0:ps (λj=>p.getD j 0) (v2-200) (n+1)≠0:=by rw[<-hn];exact nz (v2-200)
  have vb2:(ps (λj=>p.getD j 0) (v2-200)<|n+1).natAbs<=2^60:=aK vb (fL ac ad)
  have last: ∀m:Int,1<=m->m<=2^60-> ∀E:UD,(∀ρ,(∃s7 s8 s9 l,ρ=idE p c q n (idL a0 a1 a2 a3 a4 a5 a6 zs) (↑l) s7 s8 s9 s10 s11 s12/\l.length=k+1/\ ∀d∈l,∃q r:Int,d=knD n q r/\1<=q/\q<=2^60)->E.nx ρ)->a29 E (idE p c q n (idL a0 a1 a2 a3 a4 a5 a6 zs) (↑l) (!(0+(k:Int))) (!v2-200) (!m) s10 s11 s12):=λm m1 m2 E hE=>by
   unfold idE at hE⊢;unfold a29;left;refine⟨n,m,v2-200,rfl,ad,n4,m1,show(v2-200).natAbs<=1073741824 by lia,?_⟩
   refine⟨b9 (show l.length<10 by lia) ac,hE _ ⟨_,_,_,_,rfl,by rw[bO,hl];rfl,λd hd'=> ?_⟩⟩
   rcases d4.mp hd' with z|z
   .exact hd d z
   .exact⟨m,v2-200,jM.mp z,m1,m2⟩
  refine⟨by unfold idE;simp,?_⟩
  show a30 _ (idE p c q n (idL a0 a1 a2 a3 a4 a5 a6 zs) (↑l) (!(0+(k:Int))) s8 s9 s10 s11 s12)
  have l1:=last _ (show 1<=((ps (λj=>p.getD j 0) (v2-200)<|n+1).natAbs:Int)by lia) ad
  unfold idE at last l1⊢;unfold a30;rw[aN];left;rw[j2];right;unfold aU5;rw[aN];left;refine⟨n+1,9,8,λj=>p.getD j 0,v2-200,by rw[<-hn,<-bC5],hok,?_⟩
  try right
  generalize ps (λj=>p.getD j 0) (v2-200) (n+1)=V at *
  rw[absK];unfold aU4;rw[aN];left;rw[j4];right;rw[cU _ ac]
  refine⟨ac,?_⟩
  split
  .rw[mR _ ac]
   refine⟨⟨ac,aY7 ac ac⟩,cmR ad ad,_,_,rfl,?_⟩
   generalize hg:((Int.gcd ((V.natAbs:Nat):Int) (smo*(1+v4/4)):Nat):Int)=g;have d:g∣(V.natAbs:Int):=by rw[<-hg];exact Int.gcd_dvd_left _ _
   have d0:0<=g:=by rw[<-hg];exact zG _
   have d1:g≠0:=λz=>by
    rw[z]at d;have:=Int.zero_dvd.mp d
    lia
   have d2:=pX ad d
   exact last g ad ad _ λρ hρ=>hρ
  .exact l1 _ λρ hρ=>hρ
 .rintro ρ ⟨s7,s8,s9,l,rfl,hl,hd⟩
  match l,hl with
  | [d0,d1],_=>
   obtain⟨q0,r0,rfl,q01,q02⟩:=hd d0 ae
   obtain⟨q1,r1,rfl,q11,q12⟩:=hd d1 ae
   exact dK3 rp hn N q01 q02 q11 q12 h
end
theorem d80: Ra aU3 bF8 ["p","c","q","n","f","s","i","k","r","m","w","x","t"]:=by
 rintro ds Q ⟨p,n,c,q,rfl,rp,hn,nz,hq,h⟩;have lo:=rp.ok.lo;have hi:=rp.ok.hi;have n2:2<=n:=ad
 have n4:n<=4:=ad
 unfold bF8;show(aQ _ _:US) _ [~~~.tup (p.map .int),!c,!q,none,none,none,none,none,none,none,none,none,none];rw[aN];left;rw[aJ,show(p.length:Int)-1=(n:Int)by lia]
 change aP9 _ [~~~aL p,!c,!q,!(n:Int),none,none,none,none,none,none,none,none,none]
 unfold aP9;rw[aN];left;rw[bW,mS,aJ,kI];refine⟨cpl ac ac ac,cpl ac ac ac,ac,ac,⟨ad,ad,aK (show(0+1)*n<=10 by lia) ac⟩,aK (show 0+1+1+1+1+1+1+1+n<=20 by lia) ac,c,idW n,q,by unfold idW;rw[cH];rfl,by unfold idW;simp;lia,hq,λw hw=> ?_,λxs hx=> ?_⟩
 .unfold idW at hw;rcases d4.mp hw with z|z
  .clear hw
   revert w
   decide
  .rw[(List.mem_replicate.mp z).2]
   decide
 obtain⟨a0,a1,a2,a3,a4,a5,a6,zs,rfl,N⟩:=id_of hx;show aP8 _ [~~~aL p,!c,!q,!(n:Int),↑(idL a0 a1 a2 a3 a4 a5 a6 zs),none,none,none,none,none,none,none,none];unfold aP8;rw[aN];left
 refine⟨cpl ac ac ac,cpl ac ac ac,cmR af af,cpl ac ac ac,cmR af af,cpl ac ac ac,cmR af af,cpl ac ac ac,cmR af af,cmR af af,cmR af af,cmR af af,cmR af af,?_⟩
 show aP7 _ [~~~aL p,!c,!q,!(n:Int),↑(idL a0 a1 a2 a3 a4 a5 a6 zs),!smo,none,none,none,none,none,none,none]
 unfold aP7;rw[aN];left;exact⟨ac,dK4 rp hn nz N h⟩
def sT:List (List Int):=[[-1,-1,0,1],[-2,0,0,1],[-1,4,0,1],[1,-3,0,1],[1,0,0,0,1],[-1,-1,0,0,1],[1,1,1,1,1],[1,0,-1,0,1]]
nonrec def d81:List (List Int):=sT.flatMap λp=>(List.range 7).map λk:Nat=>shK p ((k:Int)-3) (p.length-1)
theorem d82 (hp:p∈sT)(h0: -3<=s)(h1:s<=3):shK p s (p.length-1)∈d81:=by
 refine List.mem_flatMap.mpr ⟨p,hp,gI.mpr ⟨(s+3).toNat,dX.mpr ad,?_⟩⟩
 rw[show(((s+3).toNat:Nat):Int)-3=s by lia]
theorem cS9:d81.all (λp=>cH0 p (lN 4<|i8 p)&&decide ((lN 4<|i8 p).natAbs<=39999)&&(decide (4<=p.length)&&decide (p.length<=5)&&p.all (λx=>decide (x.natAbs<=499))&&decide (p=p.dropLast++[1])))=true:=af
theorem dK5 (h:Red (shK [a,b,c,1] s 3)):Red [a,b,c,1]:=by
 rw[she3]at h;rcases h with⟨z,hz⟩| ⟨v,u,w,t,e⟩
 .refine .inl ⟨z+s,?_⟩
  unfold sh3 at hz;simp only[uA,nF]at hz;rw[ev3]at hz⊢;rw[<-hz]
  grind
 .have:=dN length e;simp[sh3,qq]at this
theorem dK6 {d:Int}(h:Red (shK [a,b,c,d,1] s 4)):Red [a,b,c,d,1]:=by
 rw[she4]at h;rcases h with⟨z,hz⟩| ⟨v,u,w,t,e⟩
 .refine .inl ⟨z+s,?_⟩
  unfold sh4 at hz;simp only[uA,nF]at hz;rw[ev4]at hz⊢;rw[<-hz]
  grind
 .refine .inr ⟨v-u*s+s*s,u-2*s,w-t*s+s*s,t-2*s,?_⟩
  unfold sh4 qq at e;simp only[uA,nF,List.cons.injEq,and_true]at e;obtain⟨e0,e1,e2,e3⟩:=e;unfold qq;have f3:d=u-2*s+(t-2*s):=ad
  subst f3;have f2:c=v-u*s+s*s+(w-t*s+s*s)+(u-2*s)*(t-2*s):=by grind
  subst f2;have f1:b=(u-2*s)*(w-t*s+s*s)+(v-u*s+s*s)*(t-2*s):=by grind
  subst f1;have f0:a=(v-u*s+s*s)*(w-t*s+s*s):=by grind
  subst f0;rfl
theorem cT0: ∀p∈sT,¬Red p:=by
 intro p hp;have far: ¬Red [1,-3,0,1]:=by
  rintro(⟨z,hz⟩| ⟨v,u,w,t,e⟩)
  .rw[ev3]at hz;have d:z∣1:=⟨3-z*z,by grind⟩
   have:=pX ac d
   have:=pX ac (Int.neg_dvd.mpr d)
   have:z= -1\/z=0\/z=1:=ad
   rcases this with rfl|rfl|rfl<;>revert hz<;>decide
  .have:=dN length e;simp[qq]at this
 simp only[sT,aZ,dE,dG]at hp;rcases hp with rfl|rfl|rfl|rfl|rfl|rfl|rfl|rfl<;>first|exact far|exact bQ1 _ af
theorem d83 (hp:p∈sT)(h0: -3<=s)(h1:s<=3):cG9 (shK p s<|p.length-1)/\4<=(shK p s<|p.length-1).length:=by
 have irr: ¬Red (shK p s<|p.length-1):=by
  have i:=cT0 p hp;simp only[sT,aZ,dE,dG]at hp;have c3: ∀a b c:Int,¬Red [a,b,c,1]-> ¬Red (shK [a,b,c,1] s<|[a,b,c,1].length-1):=λa b c i h=>i (dK5 h)
  have c4: ∀a b c d:Int,¬Red [a,b,c,d,1]-> ¬Red (shK [a,b,c,d,1] s<|[a,b,c,d,1].length-1):=λa b c d i h=>i (dK6 h)
  rcases hp with rfl|rfl|rfl|rfl|rfl|rfl|rfl|rfl
  .exact c3 _ _ _ i
  .exact c3 _ _ _ i
  .exact c3 _ _ _ i
  .exact c3 _ _ _ i
  .exact c4 _ _ _ _ i
  .exact c4 _ _ _ _ i
  .exact c4 _ _ _ _ i
  .exact c4 _ _ _ _ i
 have h2:=dD.mp cS9 _ (d82 hp h0 h1);simp only[cZ,gE,dD]at h2;obtain⟨⟨a,b⟩,⟨⟨c,d⟩,e⟩,f⟩:=h2;have rp:dZ (shK p s<|p.length-1):=⟨⟨ad,d,e⟩,_,f⟩
 exact⟨⟨rp,irr,b,c56 rp a⟩,c⟩
def bF9:Φ:=λds Q=> ∃(w:Int) (C:Addr) (p:List Int) (d e:D),ds=[.int w,jG C p,d,e]/\0<=w/\w<4/\dZ p/\4<=p.length/\Q (.pu<|.bl true)
def aQ0:US:=(oX 4)
def bG0:US:=(aQ (d37 5 "NotTwo" (λa _ _=> .adr a) (bP8 (dJ<|uOp (gP false) (aC 0)<|@0) (λEx=>kU (aY6 vD (a7 (aC 1)<|a7 (aC 2) aM) Ex)) (bP8 (dJ<|uOp (gP false) (aC 0)<|@1) (λEx=>kU (aY6 vE (a7 (aC 1)<|a7 (aC 2) aM) Ex)) (bP8 (dJ<|uOp (gP false) (aC 0)<|@2) (λEx=>kU (aY6 jH (a7 (aC 1)<|a7 (aC 2)<|a7 (aC 3) aM) Ex)) (bP8 (dJ<|uOp (gP false) (aC 0)<|@3) (λEx=>kU (aY6 kZ (a7 (aC 1)<|a7 (aC 2) aM) Ex)) (λ_=>cW) cW)<|fH (dJ<|uOp (gP false) (aC 0)<|@3) (kU<|mF kZ (a7 (aC 1)<|a7 (aC 2) aM) λ_ _=>False) cW)<|aQ (fH (dJ<|uOp (gP false) (aC 0)<|@2) (kU<|mF jH (a7 (aC 1)<|a7 (aC 2)<|a7 (aC 3) aM) λ_ _=>False) cW)<|fH (dJ<|uOp (gP false) (aC 0)<|@3) (kU<|mF kZ (a7 (aC 1)<|a7 (aC 2) aM) λ_ _=>False) cW)<|aQ (fH (dJ<|uOp (gP false) (aC 0)<|@1) (kU<|mF vE (a7 (aC 1)<|a7 (aC 2) aM) λ_ _=>False) cW)<|aQ (fH (dJ<|uOp (gP false) (aC 0)<|@2) (kU<|mF jH (a7 (aC 1)<|a7 (aC 2)<|a7 (aC 3) aM) λ_ _=>False) cW)<|fH (dJ<|uOp (gP false) (aC 0)<|@3) (kU<|mF kZ (a7 (aC 1)<|a7 (aC 2) aM) λ_ _=>False) cW) λx=>(aQ (bF 4<|c15 (cF9 x 5 true)<|cF9 x 5 true)<|aQ (bF 4<|c15 (aC 4)<|cK0<|cF9 x 5 false)<|bF 4<|c15 (aC 4)<|cK0<|cF9 x 5 false)) aQ0)
def bG1:US:=(aQ (bF 4<|uC<|.bl false) bG0)
theorem d84: Ra bF9 bG1 ["w","r","o","t","g","e"]:=by
 rintro ds Q ⟨w,C,p,d,e,rfl,w0,w4,rp,hp,h⟩;unfold bG1;show(aQ _ _:US) _ [!w,~~~jG C p,~~~d,~~~e,none,none];rw[aN];left;unfold bG0;rw[aN];have fin: ∀v:Int,aQ0 {Q with} [!v,~~~jG C p,~~~d,~~~e,~~~.bl true,none]:=λv=>by
  unfold aQ0;left;exact h
 rcases(show w=0\/w=1\/w=2\/w=3 by lia)with rfl|rfl|rfl|rfl
 .left
  exact⟨C,p,d,rfl,hp,rfl,λ_ _=>⟨trivial,trivial,trivial,trivial,fin _⟩⟩
 .left
  exact⟨C,p,d,rfl,hp,rfl,λ_ _=>⟨trivial,trivial,trivial,trivial,fin _⟩⟩
 .left
  exact⟨C,p,d,e,rfl,hp,rfl,λ_ _=>⟨trivial,trivial,trivial,trivial,fin _⟩⟩
 .left
  exact⟨C,p,d,rfl,rp,hp,rfl,λ_ _=>⟨trivial,trivial,trivial,trivial,fin _⟩⟩
def aQ1:US:=(bF 1<|c38 ["poly","degree","measure"] rZ<|a7 (aS vB<|a7 (uIx (aW 3)<|uIx (aW 2)<|@0)<|a7 (uOp M.gSub (uIx (aW 2)<|@1)<|@3) aM) aM)
def bG2:US:=(aQ (bF 3<|uOp fE (aC 3)<|fT<|a7 (gL<|a7 @1<|a7 @0<|a7 @0<|a7 @0<|a7 @1 aM)<|a7 (gL<|a7 (kS<|@1)<|a7 (kS<|@1)<|a7 @0<|a7 @0<|a7 @1 aM)<|a7 (gL<|a7 @1<|a7 @1<|a7 @1<|a7 @1<|a7 @1 aM)<|a7 (gL<|a7 @1<|a7 @0<|a7 (kS<|@1)<|a7 @0<|a7 @1 aM) aM) aQ1)
def bG3:US:=(aQ (bF 3<|fT<|a7 (gL<|a7 (kS<|@1)<|a7 (kS<|@1)<|a7 @0<|a7 @1 aM)<|a7 (gL<|a7 (kS<|@2)<|a7 @0<|a7 @0<|a7 @1 aM)<|a7 (gL<|a7 (kS<|@1)<|a7 @4<|a7 @0<|a7 @1 aM)<|a7 (gL<|a7 @1<|a7 (kS<|@3)<|a7 @0<|a7 @1 aM) aM) bG2)
def bG4:US:=(aQ (bF 2<|aS oF<|a7 (aS a13<|a7 (aC 0)<|a7 @3 aM)<|a7 (fT<|a7 @8<|a7 @7 aM)<|a7 @999999929 aM) bG3)
def cH7:US:=(fH (dD3<|dJ<|aS bF9<|a7 (uOp lL (aC 2)<|@4)<|a7 (aC 1)<|a7 (aC 4)<|a7 (aC 5) aM) (dU<|uC<|.bl false) cW)
def c73:US:=(dU<|uC<|.bl true)
def c74:US:=(aQ (gW (gN<|a7 @8 aM) (bY 2) cH7) c73)
def c75:US:=(aQ (bF 5<|aS aU3<|a7 (bK2 "poly"<|aC 1)<|a7 (aS a13<|a7 (aC 0)<|a7 @5 aM)<|a7 @999999883 aM) c74)
def bG5:US:=(aQ (bF 4<|aS aU3<|a7 (bK2 "poly"<|aC 1)<|a7 (aS a13<|a7 (aC 0)<|a7 @4 aM)<|a7 @999999893 aM) c75)
def c76:US:=(aQ (fH (dJ<|uOp (gP false) (bK2 "degree"<|aC 1)<|@2) bG4 cW) bG5)
def bY1:US:=(aQ (bF 1<|aS bX1<|a7 (aC 0)<|a7 @0<|a7 @999999937 aM) c76)
section
variable {ns:List Int}{C:Addr}{p:List Int}{s2 s3:Option B}{Q:B->Prop}
theorem dO1 (hns:ns.length<=63)(rp:dZ p)(nz:NoZ p)(hp:4<=p.length)(h:Q (.pu<|.bl true)):bG5 {Q with} [~~~.rol (ns.map .int),~~~jG C p,s2,s3,none,none]:=by
 have hn:p.length=(p.length-1)+1:=ad
 unfold bG5;rw[aN,iM,eE,eF,bQ2 (C:=C) (p:=p) rfl];left;refine⟨ns,4,rfl,hns,ac,ac,λc=>⟨p,p.length-1,c,999999893,rfl,rp,hn,nz,ac,λT1 _=> ?_⟩⟩
 try right
 unfold c75;rw[aN,iM,eE,eF,bQ2 (C:=C) (p:=p) rfl];left;refine⟨ns,5,rfl,hns,ac,ac,λc=>⟨p,p.length-1,c,999999883,rfl,rp,hn,nz,ac,λT2 _=> ?_⟩⟩
 try right
 unfold c74;rw[aN];refine bE 8 (λi=> .int (0+(i:Int))) [~~~.rol (ns.map .int),~~~jG C p,s2,s3,~~~.tup (tbF (p.length-1) (p.length-1) T1),~~~.tup (tbF (p.length-1) (p.length-1) T2)] (λQ' q=> ?_)
  (λi ρ=> ∃x,ρ=[~~~.rol (ns.map .int),~~~jG C p,x,s3,~~~.tup (tbF (p.length-1) (p.length-1) T1),~~~.tup (tbF (p.length-1) (p.length-1) T2)]) ⟨s2,rfl⟩ ?_ ?_
 .left
  exact⟨ac,q⟩
 .rintro i ρ hi ⟨x,rfl⟩;refine⟨ae,?_⟩
  left
  refine⟨ac,?_⟩
  rw[cU _ ac]
  refine⟨_,C,p,_,_,rfl,ad,ad,rp,hp,?_⟩
  left
  exact⟨_,rfl⟩
 .rintro ρ ⟨x,rfl⟩;try right
  unfold c73;left;exact h
end
theorem rd_law: Ra bO2 bY1 ["s","r","w","k","o","t"]:=by
 rintro ds Q ⟨ns,rfl,hns,h⟩;unfold bY1;show(aQ _ _:US) _ [~~~.rol (ns.map .int),none,none,none,none,none];rw[aN];left;refine⟨ns,0,999999937,rfl,hns,ac,ac,λC p rp nz=> ?_⟩
 try right
 unfold c76;rw[aN,b77,bV9,aZ0,aA9 (C:=C) (p:=p) rfl];left;have lo:=rp.ok.lo;split
 .unfold bG4;rw[aN];left;refine⟨ns,3,rfl,hns,ac,ac,λc=>⟨ac,c,[8,7],999999929,rfl,ac,ac,ac,λxs hx=> ?_⟩⟩
  obtain⟨a,b,rfl⟩: ∃a b,xs=[a,b]:=by
   match xs,hx.1 with
   | [a,b],_=>exact⟨a,b,rfl⟩
  have h0:=hx.2 0 a 8 rfl rfl;have h1:=hx.2 1 b 7 rfl rfl;have i0:atI [D.int a,.int b] 0=some (.int a):=cB (j:=0) rfl;have i1:atI [D.int a,.int b] 1=some (.int b):=cB (j:=1) rfl;try right
  unfold bG3;rw[aN];left;refine⟨ac,ac,ac,ac,ac,?_⟩
  unfold bG2;rw[aN];left;refine⟨ac,ac,ac,ac,ac,ac,?_⟩
  show aQ1 _ [~~~.rol (ns.map .int),~~~jG C p,↑[.int a,.int b],↑(sT.map aL),none,none]
  obtain⟨g,hg,eg⟩: ∃g∈sT,atI (sT.map aL) a=some (aL g):=by
   obtain⟨i,rfl⟩: ∃i:Nat,a=(i:Int):=⟨a.toNat,ad⟩
   have hi:i<sT.length:=show i<8 by lia
   exact⟨sT[i],cL hi,cB (by rw[bP,aU hi];rfl)⟩
  obtain⟨ok,l4⟩:=d83 hg (s:=b-3) ad ad
  have l35:=(show ∀g∈sT,3<=g.length/\g.length<=5 by decide) g hg
  unfold aQ1;rw[iM];unfold c38;left;rw[i0];right;rw[eg];right;rw[i1];refine⟨g,b-3,rfl,l35.1,l35.2,ad,?_⟩
  have noz:NoZ (shK g (b-3)<|g.length-1):=λz hz=>ok.irr (.inl ⟨z,hz⟩)
  refine⟨_,rfl,ok.rp,λ_ _ C'=>dO1 hns ok.rp noz l4 h,λred=>absurd red ok.irr,λz=>absurd ok z⟩
 .exact dO1 hns rp nz ad h
abbrev pA:=sN
abbrev pB:=sO
theorem a72: Ra pA pB ["f","p","u","s","total","v","w"]:=b45
theorem cT1:bootBuiltins "sorted"=some (.builtin "sorted"):=af
end M
end
namespace M
set_option maxHeartbeats 4000000
def top (i:Nat):Stmt:=PySem.Challenge.pw_ringhouse_k60_degree_two_alone.main.body.getD i (.Pass ⟨0,0,0,0⟩)
abbrev bmV:List Value:=[.type "ValueError",.type "Exception",.type "BaseException",.type "object"]
abbrev vN:String:="ValueError.__new__"
def nk:NameKind->Bool
 | .local=>true
 | .cell=>true
 | _=>false
def nm (s:Stmt):List Str:=((aF s).names.filter λx=>nk x.2).map (·.1)
def pm (s:Stmt):List Str:=(nm s).take (iY s).args.length
abbrev aU6:Stmt:=top 17
abbrev cN0:List Str:=nm aU6
abbrev c77:List Str:=pm aU6
abbrev vF:Stmt:=top 18
abbrev bG6:List Str:=nm vF
abbrev b32:List Str:=pm vF
abbrev jX:Stmt:=top 19
abbrev a63:List Str:=nm jX
abbrev yE:List Str:=pm jX
abbrev sA:Stmt:=top 20
abbrev b33:List Str:=nm sA
abbrev aU7:List Str:=pm sA
abbrev aF4:Stmt:=top 22
abbrev cN1:List Str:=nm aF4
abbrev j8:List Str:=pm aF4
abbrev o7:Stmt:=top 23
abbrev aB8:List Str:=nm o7
abbrev aU8:List Str:=pm o7
abbrev aB9:Stmt:=top 40
abbrev c78:List Str:=nm aB9
abbrev bR6:List Str:=pm aB9
abbrev j9:Stmt:=top 41
abbrev yF:List Str:=nm j9
abbrev wH:List Str:=pm j9
abbrev jV:Stmt:=top 43
abbrev aU9:List Str:=nm jV
abbrev rJ:List Str:=pm jV
abbrev vG:Stmt:=top 54
abbrev c79:List Str:=nm vG
abbrev bR7:List Str:=pm vG
abbrev vH:Stmt:=top 55
abbrev c80:List Str:=nm vH
abbrev bR8:List Str:=pm vH
abbrev a31:Stmt:=top 58
abbrev aQ2:List Str:=["k","m","rows","triangle","row","table","i"]
abbrev b34:List Str:=["k","m","rows"]
abbrev yG:Stmt:=top 61
abbrev bG7:List Str:=nm yG
abbrev bR9:List Str:=pm yG
abbrev l7:Stmt:=top 63
abbrev aC0:List Str:=nm l7
abbrev a64:List Str:=pm l7
abbrev qP:Stmt:=top 65
abbrev bS0:List Str:=nm qP
abbrev aQ3:List Str:=pm qP
abbrev qQ:Stmt:=top 66
abbrev bS1:List Str:=nm qQ
abbrev bG8:List Str:=pm qQ
abbrev gX:Stmt:=top 69
abbrev qR:List Str:=nm gX
abbrev wI:List Str:=pm gX
abbrev i9:Stmt:=top 70
abbrev vI:List Str:=nm i9
abbrev tD:List Str:=pm i9
abbrev yH:Stmt:=top 72
abbrev bS2:List Str:=nm yH
abbrev bG9:List Str:=pm yH
abbrev oK:Stmt:=top 73
abbrev aV0:List Str:=nm oK
abbrev aI3:List Str:=pm oK
abbrev iO:Stmt:=top 74
abbrev wJ:List Str:=nm iO
abbrev vJ:List Str:=pm iO
abbrev fZ:Stmt:=top 75
abbrev sB:List Str:=nm fZ
abbrev pC:List Str:=pm fZ
abbrev oM:Stmt:=top 77
abbrev aV1:List Str:=nm oM
abbrev aI4:List Str:=pm oM
abbrev o8:Stmt:=top 79
abbrev aC1:List Str:=nm o8
abbrev aV2:List Str:=pm o8
abbrev k7:Stmt:=top 80
abbrev xE:List Str:=nm k7
abbrev aC2:List Str:=pm k7
abbrev lQ:Stmt:=top 82
abbrev a32:List Str:=nm lQ
abbrev aI5:List Str:=pm lQ
abbrev l8:Stmt:=top 83
abbrev aC3:List Str:=nm l8
abbrev a65:List Str:=pm l8
abbrev qS:Stmt:=top 84
abbrev aQ4:List Str:=nm qS
abbrev b35:List Str:=pm qS
abbrev l9:Stmt:=top 85
abbrev aC4:List Str:=nm l9
abbrev a66:List Str:=pm l9
abbrev oN:Stmt:=top 87
abbrev aV3:List Str:=nm oN
abbrev aI6:List Str:=pm oN
abbrev mU:Stmt:=top 88
abbrev aI7:List Str:=nm mU
abbrev aC5:List Str:=pm mU
abbrev fO:Stmt:=top 89
abbrev nT:List Str:=nm fO
abbrev tE:List Str:=pm fO
abbrev gA:Stmt:=top 90
abbrev sC:List Str:=nm gA
abbrev pE:List Str:=pm gA
abbrev k8:Stmt:=top 93
abbrev xF:List Str:=nm k8
abbrev aC6:List Str:=pm k8
abbrev lR:Stmt:=top 94
abbrev a33:List Str:=nm lR
abbrev aI8:List Str:=pm lR
abbrev jA:Stmt:=top 95
abbrev vK:List Str:=nm jA
abbrev a67:List Str:=pm jA
abbrev fA:Stmt:=top 99
abbrev wK:List Str:=nm fA
abbrev vL:List Str:=pm fA
abbrev gB:Stmt:=top 100
abbrev vM:List Str:=nm gB
abbrev a68:List Str:=pm gB
abbrev bH0:Stmt:=top 102
abbrev d85:List Str:=nm bH0
abbrev cN2:List Str:=pm bH0
abbrev aV4:Stmt:=top 103
abbrev cN3:List Str:=nm aV4
abbrev c81:List Str:=pm aV4
abbrev aV5:Stmt:=top 104
abbrev cN4:List Str:=nm aV5
abbrev c82:List Str:=pm aV5
abbrev yI:Stmt:=top 105
abbrev bS3:List Str:=nm yI
abbrev bH1:List Str:=pm yI
abbrev b05:Stmt:=top 106
abbrev cH8:List Str:=nm b05
abbrev cN5:List Str:=pm b05
abbrev oO:Stmt:=top 107
abbrev aV6:List Str:=nm oO
abbrev aI9:List Str:=pm oO
abbrev bH2:Stmt:=top 108
abbrev d86:List Str:=nm bH2
abbrev cN6:List Str:=pm bH2
abbrev aC7:Stmt:=top 109
abbrev c83:List Str:=nm aC7
abbrev bS4:List Str:=pm aC7
abbrev aV7:Stmt:=top 110
abbrev cN7:List Str:=nm aV7
abbrev c84:List Str:=pm aV7
abbrev bH3:Stmt:=top 111
abbrev d87:List Str:=nm bH3
abbrev qT:List Str:=pm bH3
abbrev b81:Stmt:=top 112
abbrev bY2:List Str:=["_law_poly_here","_law_x","_law_many","_law_turn","_law_rows","_law_row","_law_k"]
abbrev c85:List Str:=["_law_poly_here","_law_x"]
abbrev aV8:Stmt:=top 113
abbrev cN8:List Str:=nm aV8
abbrev c86:List Str:=pm aV8
abbrev aV9:Stmt:=top 114
abbrev cN9:List Str:=nm aV9
abbrev c87:List Str:=pm aV9
abbrev wL:Stmt:=top 115
abbrev a34:List Str:=["_law_many","_law_m","_law_rows","_law_table_here","_law_row","_law_left","_law_at","_law_part","_law_onward","_law_low","_law_i","_law_j"]
abbrev c88:List Str:=["_law_many","_law_m","_law_rows"]
abbrev bH4:Stmt:=top 116
abbrev d88:List Str:=nm bH4
abbrev cO0:List Str:=pm bH4
abbrev tT:Stmt:=top 117
abbrev b06:List Str:=nm tT
abbrev bH5:List Str:=pm tT
abbrev a35:Stmt:=top 118
abbrev b82:List Str:=nm a35
abbrev c89:List Str:=pm a35
abbrev aW0:Stmt:=top 119
abbrev cO1:List Str:=nm aW0
abbrev c90:List Str:=pm aW0
abbrev aW1:Stmt:=top 120
abbrev dO2:List Str:=nm aW1
abbrev PP_law:List Str:=pm aW1
local macro_rules| `(tactic| walk_at "s")=> `(tactic| exact⟨rfl,rfl,rfl,by decide +kernel,rfl,by decide +kernel,by decide +kernel⟩)
theorem bH6:aY cN0 c77 (aF aU6):=by walk_at "s"
theorem c91:aY bG6 b32 (aF vF):=by walk_at "s"
theorem dS:aY a63 yE (aF jX):=by walk_at "s"
theorem tL:aY b33 aU7 (aF sA):=by walk_at "s"
theorem oP:aY cN1 j8 (aF aF4):=by walk_at "s"
theorem bY3:aY aB8 aU8 (aF o7):=by walk_at "s"
theorem yJ:aY c78 bR6 (aF aB9):=by walk_at "s"
theorem aW2:aY yF wH (aF j9):=by walk_at "s"
theorem bL4:aY aU9 rJ (aF jV):=by walk_at "s"
theorem cT2:aY c79 bR7 (aF vG):=by walk_at "s"
theorem cT3:aY c80 bR8 (aF vH):=by walk_at "s"
theorem o9:aY aQ2 b34 (aF a31):=by walk_at "s"
theorem yK:aY bG7 bR9 (aF yG):=by walk_at "s"
theorem b50:aY aC0 a64 (aF l7):=by walk_at "s"
theorem cH9:aY bS0 aQ3 (aF qP):=by walk_at "s"
theorem bH7:aY bS1 bG8 (aF qQ):=by walk_at "s"
theorem aW3:aY qR wI (aF gX):=by walk_at "s"
theorem aG9:aY vI tD (aF i9):=by walk_at "s"
theorem aQ5:aY bS2 bG9 (aF yH):=by walk_at "s"
theorem xG:aY aV0 aI3 (aF oK):=by walk_at "s"
theorem nU:aY wJ vJ (aF iO):=by walk_at "s"
theorem fJ:aY sB pC (aF fZ):=by walk_at "s"
theorem xH:aY aV1 aI4 (aF oM):=by walk_at "s"
theorem a36:aY aC1 aV2 (aF o8):=by walk_at "s"
theorem jB:aY xE aC2 (aF k7):=by walk_at "s"
theorem bL5:aY a32 aI5 (aF lQ):=by walk_at "s"
theorem jY:aY aC3 a65 (aF l8):=by walk_at "s"
theorem c92:aY aQ4 b35 (aF qS):=by walk_at "s"
theorem mW:aY aC4 a66 (aF l9):=by walk_at "s"
theorem xI:aY aV3 aI6 (aF oN):=by walk_at "s"
theorem iA:aY aI7 aC5 (aF mU):=by walk_at "s"
theorem tF:aY nT tE (aF fO):=by walk_at "s"
theorem eA:aY sC pE (aF gA):=by walk_at "s"
theorem bH8:aY xF aC6 (aF k8):=by walk_at "s"
theorem bL6:aY a33 aI8 (aF lR):=by walk_at "s"
theorem iH:aY vK a67 (aF jA):=by walk_at "s"
theorem vO:aY wK vL (aF fA):=by walk_at "s"
theorem mY:aY vM a68 (aF gB):=by walk_at "s"
theorem dK7:aY d85 cN2 (aF bH0):=by walk_at "s"
theorem bH9:aY cN3 c81 (aF aV4):=by walk_at "s"
theorem yL:aY cN4 c82 (aF aV5):=by walk_at "s"
theorem a37:aY bS3 bH1 (aF yI):=by walk_at "s"
theorem aF5:aY cH8 cN5 (aF b05):=by walk_at "s"
theorem xJ:aY aV6 aI9 (aF oO):=by walk_at "s"
theorem aF6:aY d86 cN6 (aF bH2):=by walk_at "s"
theorem bS5:aY c83 bS4 (aF aC7):=by walk_at "s"
theorem sD:aY cN7 c84 (aF aV7):=by walk_at "s"
theorem aC8:aY d87 qT (aF bH3):=by walk_at "s"
theorem vP:aY bY2 c85 (aF b81):=by walk_at "s"
theorem aW4:aY cN8 c86 (aF aV8):=by walk_at "s"
theorem yM:aY cN9 c87 (aF aV9):=by walk_at "s"
theorem jC:aY a34 c88 (aF wL):=by walk_at "s"
theorem a38:aY d88 cO0 (aF bH4):=by walk_at "s"
theorem a39:aY b06 bH5 (aF tT):=by walk_at "s"
theorem fK:aY b82 c89 (aF a35):=by walk_at "s"
theorem yN:aY cO1 c90 (aF aW0):=by walk_at "s"
theorem a40:aY dO2 PP_law (aF aW1):=by walk_at "s"
abbrev oQ:Stmt:=(bV2<|top 3).getD 0 (.Pass ⟨0,0,0,0⟩)
theorem bL7:aY ["self","left","right"] ["self","left","right"] (aF oQ):=by walk_at "s"
abbrev vQ:Stmt:=(bV2<|top 5).getD 0 (.Pass ⟨0,0,0,0⟩)
theorem c93:aY ["self","prime","number"] ["self","prime","number"] (aF vQ):=by walk_at "s"
abbrev aC9:Stmt:=(bV2<|top 98).getD 0 (.Pass ⟨0,0,0,0⟩)
theorem cO2:aY ["self","poly","size"] ["self","poly"] (aF aC9):=by walk_at "s"
structure Zs (mg:Str->Option Value):Prop where
 z0:mg "len"=none
 z1:mg "max"=none
 z2:mg "list"=none
 z3:mg "reversed"=none
 z4:mg "range"=none
 z5:mg "enumerate"=none
 z6:mg "tuple"=none
 z7:mg "zip"=none
 z8:mg "all"=none
 z9:mg "abs"=none
 z10:mg "sum"=none
 z11:mg "min"=none
 z12:mg "sorted"=none
 z13:mg "int"=none
 z14:mg "isinstance"=none
 z15:mg "ValueError"=none
abbrev DT (P:Program)(w:World)(K:PySem.W.Frag)(mg:Str->Option Value)(base:Heap)(N:List Str)(q:Str)(t:Stmt)(k:Nat)(u:US):Prop:= ∀{f:Addr} {cdv:Value} {A:Around} {outer:List Env} {s:Shared} {H:Hp} {E:XK},fG k (A.deeper<|envOfC q (aF t) s.heap.objs.size f cdv)->qF (qE CX0 P w K mg base N q (aF t) f cdv A outer s H E).nox (cV t) u
section
variable (P:Program)(w:World)(K:PySem.W.Frag)(mg:Str->Option Value)(base:Heap)
abbrev c94:=Fn P w K mg base "cut" c77 1 a96
abbrev c95:=Fn P w K mg base "padded" b32 1 aA6
abbrev lU:=Fn P w K mg base "poly_parted" yE 2 fN
abbrev aW5:=Fn P w K mg base "poly_at" aU7 1 tJ
abbrev d89:=Fn P w K mg base "det" j8 5 (fW 4)
abbrev bY4:=Fn P w K mg base "without" aU8 1 a14
abbrev cT4:=Fn P w K mg base "root" bR6 1 aZ8
abbrev wM:=Fn P w K mg base "small_primes" wH 1 kG
abbrev c96:=Fn P w K mg base "stair" b34 2 aB4
abbrev cT5:=Fn P w K mg base "rest" bR9 1 aZ1
abbrev b51:=Fn P w K mg base "whole_ring" a64 3 sR
abbrev aW6:=Fn P w K mg base "is_ring_poly" wI 1 oH
abbrev mK:=Fn P w K mg base "need_ring_poly" tD 2 gQ
abbrev cI0:=Fn P w K mg base "apart" bG9 4 aO6
abbrev aJ0:=Fn P w K mg base "dividers" aI3 1 rH
abbrev aQ6:=Fn P w K mg base "line_and_rest" vJ 3 nR
abbrev a73:=Fn P w K mg base "two_by_two_apart" pC 3 kB
abbrev bL8:=Fn P w K mg base "two_with" aI4 2 wX
abbrev bY5:=Fn P w K mg base "measure" aV2 6 a26
abbrev bI0:=Fn P w K mg base "root_sums" aC2 1 uS
abbrev xK:=Fn P w K mg base "mod_poly" aI5 2 iW
abbrev b52:=Fn P w K mg base "mod_parted" a65 4 sL
abbrev c97:=Fn P w K mg base "scaled" b35 3 wG
abbrev b53:=Fn P w K mg base "inverse_of" a66 1 sJ
abbrev bL9:=Fn P w K mg base "split_by" aI6 6 wS
abbrev bI1:=Fn P w K mg base "lines_out" aC5 5 uX
abbrev aH0:=Fn P w K mg base "rootless_parts" tE 2 mG
abbrev a74:=Fn P w K mg base "two_by_two_split" pE 1 pA
abbrev bI2:=Fn P w K mg base "papers_of" aC6 8 uZ
abbrev bM0:=Fn P w K mg base "parts_at" aI8 7 wU
abbrev b54:=Fn P w K mg base "outside_of" a67 3 sP
abbrev cO3:=Fn P w K mg base "_law_cell" cN2 1 a13
abbrev c98:=Fn P w K mg base "_law_mixed" c81 1 a92
abbrev bI3:=Fn P w K mg base "_law_draws" c82 2 oF
abbrev bI4:=Fn P w K mg base "_law_shifted" bH1 1 vB
abbrev dK8:=Fn P w K mg base "_law_poly" cN5 3 bX0
abbrev bM1:=Fn P w K mg base "_law_known_ring" aI9 2 wZ
abbrev dK9:=Fn P w K mg base "_law_ring" cN6 12 bX1
abbrev bS6:=Fn P w K mg base "_law_shared" bS4 1 tQ
abbrev c99:=Fn P w K mg base "_law_times" c84 1 aT8
abbrev d90:=Fn P w K mg base "_law_det" qT 5 (kY 4)
abbrev cA0:=Fn P w K mg base "_law_table" c85 2 aU0
abbrev d91:=Fn P w K mg base "_law_value" c86 1 bF0
abbrev d92:=Fn P w K mg base "_law_known" c87 1 bF2
abbrev cA1:=Fn P w K mg base "_law_stair" c88 1 aT2
abbrev dL0:=Fn P w K mg base "_law_made" cO0 6 b80
abbrev cI1:=Fn P w K mg base "_law_product" bH5 2 aP0
abbrev d93:=Fn P w K mg base "_law_ideal" c89 7 aU3
abbrev d94:=Fn P w K mg base "_law_asked" c90 5 bF9
end
section
variable {P:Program}{w:World}{K:PySem.W.Frag}{mg:Str->Option Value}{base:Heap}
theorem cT6 (Z:Zs mg):DT<$>cN0 "cut" aU6 0 bD2:=λhr=>
 (bN 1 bH6.nd (eQ (bT 0) rfl Z.z0)<|bB (a80 gF (PUW.pt<|aR7 (gC b97 (aO 1) aE)<|a79<|gC fF (cF (bT 0)<|aI bL (aO 1) aE) aE)<|aX<|us_g 1 bH6.nd aE iu_sub)<|gD<|aY2 (aO 0) jW<|gO<|aO 1)
theorem bY6 (Z:Zs mg):DT<$>bG6 "padded" vF 0 aA7:=λhr=>
 (gD<|aI bX (aO 0)<|aI bU5 (d8<|bJ aB)<|aI bL (aO 1)<|eQ (bT 0) rfl Z.z0)
theorem aW7 (Z:Zs mg)(a43:c94<$>P):DT<$>a63 "poly_parted" jX 1 qL:=λhr=>
 (bN 2 dS.nd (aI bL (eQ (bT 1) rfl Z.z0) aE)<|bN 3 dS.nd (iL (cZ2 rfl) rfl Z.z1 d41 (bJ<|aD (aI bL (eQ (bT 0) rfl Z.z0)<|aO 2) aB))<|bN 4 dS.nd (bV bU0 rfl Z.z2 bV5 (aP 0 aB))<|bN 5 dS.nd (aI bM (cS<|bJ aB)<|aO 3)<|bB (mQ 6 dS.nd (cK9 rfl Z.z3 rfl Z.z4 (aP 3 aB))<|bN 7 dS.nd (cF (bT 4)<|aI bX (aO 6)<|aO 2)<|bB (jS 5 (pv 5) (aO 7)<|aO 6)<|aX<|aN6 gF rfl (cK7 (by rfl) Z.z5<|aP 1 aB) (uM rfl (dO 8 (cE dS.nd rfl (Or.inl rfl))<|dO 9 (cE dS.nd rfl (Or.inl rfl)) oC) (cT<|cT kW)) (aX<|dF6 4 (pv 4) (aI bX (aO 6)<|aO 8) (aI bM (aO 7)<|aO 9) cW2))<|gD<|d8<|aD (dI a43 hr<|aD (bV dA rfl Z.z6 dB (aP 5 aB)) aB)<|aD (dI a43 hr<|aD (bV dA rfl Z.z6 dB (aP 4 aB)) aB) aB)
theorem bM2 (Z:Zs mg):DT<$>b33 "poly_at" sA 0 a25:=λhr=>
 (bN 2 tL.nd aE<|bB (mQ 3 tL.nd (cL1 rfl Z.z3 (aP 0 aB))<|aX<|uO 2 tL.nd<|aI bX (aI bM (aO 2)<|aO 1)<|aO 3)<|aX<|kF 2<|pv 2)
theorem aF7 (Z:Zs mg){k:Nat}{fW:Φ}(hk:1<=k)(aW9:Fn<$>"det" j8 k fW)(oA:bY4<$>P):DT<$>cN1 "det" aF4 k (bC3 fW):=λhr=>
 (bB (c16 (aE3 fF (eQ (mD 0<|pv 0) rfl Z.z0) aE<|aX2 _) (aX<|cD4<|a57 (oW<|a57 (mD 0<|pv 0) aE λ_ _=>rfl) aE λ_ _=>rfl) b93)<|bB (sG 1 oP.nd rfl (Or.inl rfl) aE (hl:=il (n:=4) rfl ac))<|bB (sG 2 oP.nd rfl (Or.inl rfl) aE (hl:=il (n:=4) rfl ac))<|bB (aN6 gF rfl (cX rfl Z.z4 (aD (eQ (mD 0<|pv 0) rfl Z.z0) aB)) (tG 3<|cE oP.nd rfl (Or.inl rfl)) (bB (cY7 1 oP.nd rfl (Or.inl rfl) (aI bM (aI bM (cR 2<|pv 2)<|a57 (oW<|a57 (mD 0<|pv 0) (cR 3<|pv 3) λ_ _=>rfl) aE λ_ _=>rfl)<|a82 aW9 hr (aG _) rfl (aD (a82 oA hr hk rfl (aD (cR 0<|pv 0)<|aD (cR 3<|pv 3) aB)) aB)) cD6 (hl:=il (n:=4) rfl ac))<|aX<|sG 2 oP.nd rfl (Or.inl rfl) (iG<|cR 2<|pv 2) (hl:=il (n:=4) rfl ac)))<|aX<|kF 1<|pv 1)
theorem bM3 (Z:Zs mg):DT<$>aB8 "without" o7 0 a15:=λhr=>
 (gD<|bV dA rfl Z.z6 dB (aD (rQ ["row",".acc"] (aF o7).names aB8 (fV<|aI bX (kR (bT 0) jW<|gO<|aO 1)<|kR (bT 0) (gO<|aI bX (aO 1) aE) jW) (λ_ _ _ _ _ _=>eG) λ_ _ _ _ _ _=>(kR (bT 0) (gO aE) jW)) aB))
theorem cI2 (Z:Zs mg):DT<$>c78 "root" aB9 0 aZ9:=λhr=>
 (bN 1 yJ.nd (aO 0)<|bN 2 yJ.nd (aI sH (aI bX (aO 0) aE) aE)<|bB (a80 gF (gC cK3 (aO 2)<|aO 1)<|bN 1 yJ.nd (aO 2)<|aX<|uO 2 yJ.nd<|aI sH (aI bX (aO 1)<|aI sH (aO 0)<|aO 1) aE)<|aX<|kF 1<|pv 1)
theorem aQ7 (Z:Zs mg){jD:Addr}(iB:mg "SMALL_PRIMES"=some (.ref jD))(vR:KT K jD (T_SMALL_PRIMES.map V.int)):DT<$>yF "small_primes" j9 0 oG:=λhr=>
 (gD<|bV bU0 rfl Z.z2 bV5 (aD (dG2 rfl iB vR) aB))
theorem b55 (Z:Zs mg){cK:Addr}(mV:mg "NotTwo"=some (.ref cK))(oR:excIn K cK bmV vN=true){f:Addr}{cdv:Value}{A:Around}{outer:List Env}{s:Shared}{H:Hp}{E:XK}(hr:fG 1 (A.deeper<|envOfC "need_two" (aF jV) s.heap.objs.size f cdv)) :
  rR (qE (CXr P w base) P w K mg base aU9 "need_two" (aF jV) f cdv A outer s H E) E (cV jV) vC:=
 (uQ<|cL5 (aE3 c19 (bB6<|cR 0<|pv 0) aE<|aX2 _) (uQ<|c36 pF oR rfl mV rfl (aD cX8 aB) bV0 rfl) bV1)
theorem cA2 (Z:Zs mg)(fQ:FnX<$>"need_two" rJ 2 fY){f:Addr}{cdv:Value}{A:Around}{outer:List Env}{s:Shared}{H:Hp}{E:XK}(hr:fG 2 (A.deeper<|envOfC "home" (aF vG) s.heap.objs.size f cdv)) :
  rR (qE (CXr P w base) P w K mg base c79 "home" (aF vG) f cdv A outer s H E) E (cV vG) aP2:=
 (iZ (aS4 fQ hr ac bP5 rfl (aD (cR 0<|pv 0) aB))<|iZ (iF gM)<|uQ<|iF gM)
theorem cA3 (Z:Zs mg)(fQ:FnX<$>"need_two" rJ 2 fY){f:Addr}{cdv:Value}{A:Around}{outer:List Env}{s:Shared}{H:Hp}{E:XK}(hr:fG 2 (A.deeper<|envOfC "road" (aF vH) s.heap.objs.size f cdv)) :
  rR (qE (CXr P w base) P w K mg base c80 "road" (aF vH) f cdv A outer s H E) E (cV vH) aP3:=
 (iZ (aS4 fQ hr ac bP5 rfl (aD (cR 0<|pv 0) aB))<|iZ (iF gM)<|iZ (iF gM)<|iZ (iF gM)<|iZ (iF gM)<|uQ<|iF gM)
theorem bY7 (Z:Zs mg)(bJ1:cT5<$>P):DT<$>aQ2 "stair" a31 1 aB5:=λhr=>
 (bB (rP (js:=[1,0]) (N:=["i","m","k",".acc"]) (cap:=[none,some 1,some 0,none]) (last:=3) (esc:=(aF a31).names) (XN:=aQ2) 3 rfl rfl af ac ac rfl (cX rfl Z.z4 (aP 0 aB)) (λ_ _ _ _ _ _=>(tG 0<|cE (show Nodup (["i","m","k",".acc"]:List Str)by decide +kernel) rfl (Or.inl rfl))) (λ_ _ _ _ _ _=>eG) (λ_ _ _ _ _ _=>(aI bX (aI bX (aI bU5 (d8<|bJ aB)<|aO 0)<|d8<|aP 1 aB)<|aI bU5 (d8<|bJ aB)<|aI bL (aI bL (aO 2)<|aO 0) aE)) (cE o9.nd rfl (Or.inl rfl)) (il (n:=7) rfl ac))<|bB (mQ 4 o9.nd (fV<|aO 2)<|aX gM)<|bN 5 o9.nd (cS aB)<|bB (aN6 gF rfl (cK7 (by rfl) Z.z5<|aP 3 aB) (uM rfl (dO 6 (cE o9.nd rfl (Or.inl rfl))<|dO 4 (cE o9.nd rfl (Or.inl rfl)) oC) (cT<|cT kW)) (aX<|jZ 5 (pv 5)<|aI bX (d22<|dI bJ1 hr<|aP 5<|aD (aY2 (aO 4) jW<|gO<|aO 6) aB)<|aY2 (aO 4) (gO<|aO 6) jW))<|gD<|bV dA rfl Z.z6 dB (aP 5 aB))
theorem cI3 (Z:Zs mg):DT<$>bG7 "rest" yG 0 aZ2:=λhr=>
 (bN 2 yK.nd (aO 1)<|bB (mQ 3 yK.nd (cK9 rfl Z.z3 rfl Z.z4 (aD (eQ (bT 1) rfl Z.z0) aB))<|bN 4 yK.nd (aI sH (cF (bT 2)<|aO 3)<|cF (oW<|cF (bT 0)<|aO 3)<|aO 3)<|aX<|uO 2 yK.nd<|bV dA rfl Z.z6 dB (aD (a86 (js:=[4]) (N:=["c","d","many",".acc"]) (cap:=[none,none,some 4,none]) (last:=3) (esc:=(aF yG).names) (XN:=bG7) rfl rfl af ac ac rfl (cE5 (by rfl) Z.z7<|aP 2<|aD (cF (bT 0)<|aO 3) aB) (λ_ _ _ _ _ _=>(uM rfl (dO 0 (cE (show Nodup (["c","d","many",".acc"]:List Str)by decide +kernel) rfl (Or.inl rfl))<|dO 1 (cE (show Nodup (["c","d","many",".acc"]:List Str)by decide +kernel) rfl (Or.inl rfl)) oC) (cT<|cT kW))) (λ_ _ _ _ _ _=>eG) (λ_ _ _ _ _ _=>(aI bL (aO 0)<|aI bM (aO 2)<|aO 1))) aB))<|aX<|kF 2<|pv 2)
theorem b07 (Z:Zs mg)(aQ9:c96<$>P):DT<$>aC0 "whole_ring" l7 2 sS:=λhr=>
 (gD<|dI aQ9 hr<|aD (bB6<|aO 0)<|bJ<|aD (cS aB) aB)
theorem bY8 (Z:Zs mg)(fQ:FnX<$>"need_two" rJ 2 fY){f:Addr}{cdv:Value}{A:Around}{outer:List Env}{s:Shared}{H:Hp}{E:XK}(hr:fG 2 (A.deeper<|envOfC "alike" (aF qP) s.heap.objs.size f cdv)) :
  rR (qE (CXr P w base) P w K mg base bS0 "alike" (aF qP) f cdv A outer s H E) E (cV qP) aB3:=
 (iZ (aS4 fQ hr ac bP5 rfl (aD (cR 0<|pv 0) aB))<|iZ (iF gM)<|iZ (iF gM)<|iZ (iF gM)<|iZ (iF gM)<|uQ<|iF gM)
theorem bY9 (Z:Zs mg)(vS:b51<$>P)(lB:FnX<$>"alike" aQ3 3 jH){f:Addr}{cdv:Value}{A:Around}{outer:List Env}{s:Shared}{H:Hp}{E:XK}(hr:fG 3 (A.deeper<|envOfC "maker" (aF qQ) s.heap.objs.size f cdv)) :
  rR (qE (CXr P w base) P w K mg base bS1 "maker" (aF qQ) f cdv A outer s H E) E (cV qQ) aB6:=
 (iZ (dH7 2 bH7.nd rfl (Or.inl rfl) (dH6 lB hr ac bP5 rfl (aD (cR 0<|pv 0)<|aD (a82 vS hr ac rfl (aD (cR 0<|pv 0) aB))<|aD (cR 1<|pv 1) aB)) (hl:=il (n:=3) rfl ac))<|uQ<|iF gM)
theorem aQ8 (Z:Zs mg){qU:Tok}(fP:mg "GREATEST_PLACE"=some (.int 499 qU)):DT<$>qR "is_ring_poly" gX 0 oJ:=λhr=>
 (j5 (PUW.pt<|cY1 (gC cK3 (eQ (bT 0) rfl Z.z0) aE)<|cY1 (gC b97 (eQ (bT 0) rfl Z.z0) aE)<|dD4<|gC c19 (cF (bT 0)<|iG aE) aE) (gD cJ8)<|gD<|iL (cZ8 rfl) rfl Z.z8 cZ9 (aD (rQ ["c",".acc"] (aF gX).names qR (fV<|aO 0) (λ_ _ _ _ _ _=>eG) λ_ _ _ _ _ _=>(dG3 dN2 (iL b98 rfl Z.z9 bC1 (aP 0 aB))<|cK5 rfl fP)) aB))
theorem aD0 (Z:Zs mg)(qV:aW6<$>P):DT<$>vI "need_ring_poly" i9 1 mI:=λhr=>
 (aX<|aY5 (cJ9<|cY0<|dI qV hr<|aP 0 aB)<|aX gM)
theorem cA4 (Z:Zs mg)(d6:mK<$>P)(oS:aQ6<$>P)(lD:a73<$>P):DT<$>bS2 "apart" yH 3 aO7:=λhr=>
 (bB (tI<|dI d6 hr<|aP 0 aB)<|bN 1 aQ5.nd (dI oS hr<|aP 0 aB)<|j5 (PUW.pt<|aR7 (bU6<|aO 1)<|a79<|gC fF (eQ (bT 0) rfl Z.z0) aE) (aX<|uO 1 aQ5.nd<|dI lD hr<|aP 0 aB)<|aX<|kF 1<|pv 1)
theorem bI5 (Z:Zs mg):DT<$>aV0 "dividers" oK 0 wW:=λhr=>
 (j5 (gC fF (aO 0) aE) (gD<|cS<|bJ aB)<|bN 1 xG.nd (cS aB)<|bB (mQ 2 xG.nd (aX7 rfl Z.z4 (bJ<|aD (aI bX (iL b98 rfl Z.z9 bC1 (aP 0 aB)) aE) aB))<|aX<|aY5 (gC fF (aI eY (aO 0)<|aO 2) aE)<|bB (jZ 1 (pv 1)<|aO 2)<|aX<|jZ 1 (pv 1)<|iG<|aO 2)<|aX<|kF 1<|pv 1)
theorem aH1 (Z:Zs mg)(lW:aJ0<$>P)(oB:aW5<$>P)(cM:lU<$>P):DT<$>wJ "line_and_rest" iO 2 nS:=λhr=>
 (bB (mQ 1 nU.nd (fV<|dI lW hr<|aD (cF (bT 0) aE) aB)<|aX<|aY5 (gC fF (dI oB hr<|aP 0<|aP 1 aB) aE)<|bN 2 nU.nd (d8<|t7 (iG<|aO 1)<|bJ aB)<|gD<|d8<|aP 2<|aD (cF (oW<|dI cM hr<|aP 0<|aP 2 aB) aE) aB)<|gD b91)
theorem a41 (Z:Zs mg)(lW:aJ0<$>P)(a44:bL8<$>P):DT<$>sB "two_by_two" fZ 2 kC:=λhr=>
 (bB (mQ 1 fJ.nd (fV<|dI lW hr<|aD (cF (bT 0) aE) aB)<|bN 2 fJ.nd (aI sH (cF (bT 0) aE)<|aO 1)<|aX<|mQ 3 fJ.nd (fV<|dI a44 hr<|aD (cF (bT 0) aE)<|aD (aI bL (aI bL (cF (bT 0) aE)<|aO 1)<|aO 2) aB)<|bN 4 fJ.nd (aI bL (cF (bT 0) aE)<|aO 3)<|aX<|aY5 (gC fF (aI bX (aI bM (aO 3)<|aO 2)<|aI bM (aO 1)<|aO 4)<|cF (bT 0) aE)<|gD<|d8<|nZ (d8<|aP 1<|aP 3<|bJ aB)<|nZ (d8<|aP 2<|aP 4<|bJ aB) aB)<|gD b91)
theorem bI6 (Z:Zs mg)(bJ2:cT4<$>P):DT<$>aV1 "two_with" oM 1 wY:=λhr=>
 (bN 2 xH.nd (aI bL (aI bM (aO 0)<|aO 0)<|aI bM aE<|aO 1)<|j5 (gC cK3 (aO 2) aE) (gD<|cS aB)<|bN 3 xH.nd (dI bJ2 hr<|aP 2 aB)<|j5 (gC c19 (aI bM (aO 3)<|aO 3)<|aO 2) (gD<|cS aB)<|gD<|cS<|aD (aI sH (aI bX (aO 0)<|aO 3) aE)<|aD (aI sH (aI bL (aO 0)<|aO 3) aE) aB)
theorem bM4 (Z:Zs mg)(d6:mK<$>P)(xL:bI0<$>P)(aW9:d89<$>P):DT<$>aC1 "measure" o8 5 a27:=λhr=>
 (bB (tI<|dI d6 hr<|aP 0 aB)<|bN 1 a36.nd (aI bL (eQ (bT 0) rfl Z.z0) aE)<|bN 2 a36.nd (dI xL hr<|aP 0<|aD (aI bL (aI bM aE<|aO 1) aE) aB)<|gD<|dI aW9 hr<|aD (bV dA rfl Z.z6 dB (aD (rQ ["i","sums","n",".acc"] (aF o8).names aC1 (cX rfl Z.z4 (aP 1 aB)) (λ_ _ _ _ _ _=>eG) λ_ _ _ _ _ _=>(bV dA rfl Z.z6 dB (aD (kR (bT 1) (gO<|aO 0)<|gO<|aI bX (aO 0)<|aO 2) aB))) aB)) aB)
theorem b56 (Z:Zs mg):DT<$>xE "root_sums" k7 0 uT:=λhr=>
 (bN 2 jB.nd (aI bL (eQ (bT 0) rfl Z.z0) aE)<|bN 3 jB.nd (cS<|aP 2 aB)<|bB (mQ 4 jB.nd (aX7 rfl Z.z4 (bJ<|aP 1 aB))<|bN 5 jB.nd (iL (cu_sum rfl) rfl Z.z10 bt_sum (aD (rQ ["i","poly","n","sums","k",".acc"] (aF k7).names xE (aX7 rfl Z.z4 (bJ<|aD (aI bX (iL (cu_min rfl) rfl Z.z11 bt_min (aD (aI bL (aO 4) aE)<|aP 2 aB)) aE) aB)) (λ_ _ _ _ _ _=>eG) λ_ _ _ _ _ _=>(aI bM (cF (bT 1)<|aI bL (aO 2)<|aO 0)<|cF (bT 3)<|aI bL (aO 4)<|aO 0)) aB))<|j5 (gC dN2 (aO 4)<|aO 2) (aX<|us_g 5 jB.nd (aI bM (aO 4)<|cF (bT 0)<|aI bL (aO 2)<|aO 4) cD6)<|aX<|jZ 3 (pv 3)<|iG<|aO 5)<|aX<|kF 3<|pv 3)
theorem bI7 (Z:Zs mg)(a43:c94<$>P):DT<$>a32 "mod_poly" lQ 1 wR:=λhr=>
 (gD<|dI a43 hr<|aD (bV dA rfl Z.z6 dB (aD (rQ ["c","p",".acc"] (aF lQ).names a32 (fV<|aO 0) (λ_ _ _ _ _ _=>eG) λ_ _ _ _ _ _=>(aI eY (aO 0)<|aO 1)) aB)) aB)
theorem b08 (Z:Zs mg)(fB:xK<$>P)(vT:b53<$>P)(cM:lU<$>P)(a45:c97<$>P):DT<$>aC3 "mod_parted" l8 3 sM:=λhr=>
 (bN 3 jY.nd (dI fB hr<|aP 1<|aP 2 aB)<|bN 4 jY.nd (dI vT hr<|aD (cF (bT 3)<|iG aE)<|aP 2 aB)<|bB (cD5 (dI cM hr<|aD (dI fB hr<|aP 0<|aP 2 aB)<|aD (dI a45 hr<|aP 3<|aP 4<|aP 2 aB) aB)<|uM rfl (dO 5 (cE jY.nd rfl (Or.inl rfl))<|dO 6 (cE jY.nd rfl (Or.inl rfl)) oC) (cT<|cT kW))<|gD<|d8<|aD (dI a45 hr<|aP 5<|aP 4<|aP 2 aB)<|aD (dI fB hr<|aP 6<|aP 2 aB) aB)
theorem bZ0 (Z:Zs mg)(fB:xK<$>P):DT<$>aQ4 "scaled" qS 2 a97:=λhr=>
 (gD<|dI fB hr<|aD (bV dA rfl Z.z6 dB (aD (rQ ["c","k",".acc"] (aF qS).names aQ4 (fV<|aO 0) (λ_ _ _ _ _ _=>eG) λ_ _ _ _ _ _=>(aI bM (aO 1)<|aO 0)) aB))<|aP 2 aB)
theorem b09 (Z:Zs mg):DT<$>aC4 "inverse_of" l9 0 sK:=λhr=>
 (bN 2 mW.nd aE<|bB (mQ 3 mW.nd (cX rfl Z.z4 (aD (aI bL (aO 1) aE) aB))<|aX<|uO 2 mW.nd<|aI eY (aI bM (aO 2)<|aO 0)<|aO 1)<|aX<|kF 2<|pv 2)
theorem bI8 (Z:Zs mg)(gY:wM<$>P)(xM:bI1<$>P)(fB:xK<$>P)(nV:aH0<$>P):DT<$>aV3 "split_by" oN 5 wT:=λhr=>
 (j5 (aE3 d01 (aO 1) (cZ4 gY hr ac rfl) rfl) (aX gM)<|bB (cD5 (dI xM hr<|aD (dI fB hr<|aP 0<|aP 1 aB)<|aP 1 aB)<|uM rfl (dO 2 (cE xI.nd rfl (Or.inl rfl))<|dO 3 (cE xI.nd rfl (Or.inl rfl)) oC) (cT<|cT kW))<|gD<|aI bX (aO 2)<|dI nV hr<|aP 3<|aP 1 aB)
theorem b57 (Z:Zs mg)(oB:aW5<$>P)(vU:b52<$>P):DT<$>aI7 "lines_out" mU 4 uY:=λhr=>
 (bN 2 iA.nd (cS aB)<|bN 3 iA.nd (aO 0)<|bB (mQ 4 iA.nd (cX rfl Z.z4 (aP 1 aB))<|bN 5 iA.nd aE<|bB (a80 gF (gC fF (aI eY (dI oB hr<|aP 3<|t7 (iG<|aO 4) aB)<|aO 1) aE)<|bN 3 iA.nd (cF (oW<|dI vU hr<|aP 3<|nZ (d8<|aP 4<|bJ aB)<|aP 1 aB) aE)<|aX<|us_g 5 iA.nd aE cD6)<|aX<|aY5 (gC b97 (aO 5) aE)<|aX<|jZ 2 (pv 2)<|d8<|nZ (d8<|aP 4<|bJ aB)<|aP 5 aB)<|gD<|d8<|aP 2<|aP 3 aB)
theorem aD1 (Z:Zs mg)(lF:a74<$>P):DT<$>nT "rootless_parts" fO 1 mH:=λhr=>
 (j5 (gC fF (eQ (bT 0) rfl Z.z0) aE) (gD<|cS aB)<|bN 2 tF.nd (cY3 (gC fF (eQ (bT 0) rfl Z.z0) aE) (dI lF hr<|aP 0<|aP 1 aB)<|cS aB)<|j5 (gC fF (eQ (bT 2) rfl Z.z0) aE) (gD<|cS<|nZ (d8<|aP 0<|bJ aB) aB)<|j5 (gC (d10 hr.units) (cF (bT 2) aE)<|cF (bT 2) aE) (gD<|cS<|nZ (d8<|aD (cF (bT 2) aE)<|bJ aB) aB)<|gD<|rQ ["g",".acc"] (aF fO).names nT (fV<|iL d21 rfl Z.z12 cT1 (aP 2 aB)) (λ_ _ _ _ _ _=>eG) λ_ _ _ _ _ _=>(d8<|aP 0<|bJ aB))
theorem a42 (Z:Zs mg):DT<$>sC "two_by_two" gA 0 pB:=λhr=>
 (bB (mQ 2 eA.nd (cX rfl Z.z4 (aP 1 aB))<|bN 3 eA.nd (aI eY (aI bL (cF (bT 0) aE)<|aO 2)<|aO 1)<|bN 4 eA.nd (aI bL (cF (bT 0) aE)<|aI bM (aO 2)<|aO 3)<|aX<|mQ 5 eA.nd (cX rfl Z.z4 (aP 1 aB))<|bN 6 eA.nd (aI eY (aI bL (aO 4)<|aO 5)<|aO 1)<|aX<|aY5 (PUW.pt<|aR7 (gC fF (aI eY (aI bM (aO 5)<|aO 6)<|aO 1)<|cF (bT 0) aE)<|a79<|gC fF (aI eY (aI bX (aI bM (aO 2)<|aO 6)<|aI bM (aO 5)<|aO 3)<|aO 1)<|cF (bT 0) aE)<|gD<|cS<|nZ (d8<|aP 5<|aP 2<|bJ aB)<|nZ (d8<|aP 6<|aP 3<|bJ aB) aB)<|gD<|cS aB)
theorem b58 (Z:Zs mg)(gY:wM<$>P)(a46:bM0<$>P):DT<$>xF "papers_of" k8 7 v7:=λhr=>
 (gD<|rQ ["p","poly","size",".acc"] (aF k8).names xF (fV<|cZ4 gY hr ac rfl) (λ_ _ _ _ _ _=>(dE9<|gC fF (aI eY (aO 2)<|aI bM (aO 0)<|aO 0) aE)) λ_ _ _ _ _ _=>(d8<|aP 0<|aD (dI a46 hr<|aP 1<|aP 0 aB) aB))
theorem bI9 (Z:Zs mg)(a47:bL9<$>P)(cM:lU<$>P):DT<$>a33 "parts_at" lR 6 wV:=λhr=>
 (gD<|a86 (js:=[0]) (N:=["g","often","poly",".acc"]) (cap:=[none,none,some 0,none]) (last:=3) (esc:=(aF lR).names) (XN:=a33) rfl rfl af ac ac rfl (fV<|dI a47 hr<|aP 0<|aP 1 aB) (λ_ _ _ _ _ _=>(uM rfl (dO 0 (cE (show Nodup (["g","often","poly",".acc"]:List Str)by decide +kernel) rfl (Or.inl rfl))<|dO 1 (cE (show Nodup (["g","often","poly",".acc"]:List Str)by decide +kernel) rfl (Or.inl rfl)) oC) (cT<|cT kW))) (λ_ _ _ _ _ _=>eG) (λ_ _ _ _ _ _=>(d8<|aP 0<|aP 1<|aD (cF (oW<|dI cM hr<|aP 2<|aP 0 aB) aE) aB)))
theorem b10 (Z:Zs mg)(cM:lU<$>P):DT<$>vK "outside_of" jA 2 sQ:=λhr=>
 (bB (aN6 gF rfl (fV<|aO 1) (uM rfl (dO 2 (cE iH.nd rfl (Or.inr rfl))<|dO 3 (cE iH.nd rfl (Or.inl rfl)) oC) (cT<|cT kW)) (aX<|aN6 gF rfl (fV<|aO 3) (uM rfl (dO 4 (cE iH.nd rfl (Or.inl rfl))<|dO 5 (cE iH.nd rfl (Or.inl rfl))<|dO 6 (cE iH.nd rfl (Or.inl rfl)) oC) (cT<|cT<|cT kW)) (aX<|aY5 (PUW.pt<|aR7 (gC dN3 (aO 5) aE)<|a79<|cY0<|iL (cZ8 rfl) rfl Z.z8 cZ9 (aD (rQ ["c","p",".acc"] (aF jA).names vK (fV<|aO 6) (λ_ _ _ _ _ _=>eG) λ_ _ _ _ _ _=>(dG3 fF (aI eY (aO 0)<|aI bM (aO 1)<|aO 1) aE)) aB))<|gD<|d8<|aP 2<|aD (cF (oW<|dI cM hr<|aP 0<|aP 4 aB) aE) aB)))<|gD b91)
theorem aD2 (Z:Zs mg){eH:Addr}(iP:mg "FallsApart"=some (.ref eH)){gT:Addr}{bM5:FuncData}(lX:a59 K eH gT bmV vN=true)(a48:c35 K eH gT bM5 "left" "right")(b11:cI0<$>P){f:Addr}{cdv:Value}{A:Around}{outer:List Env}{s:Shared}{H:Hp}{E:XK}(hr:fG 4 (A.deeper<|envOfC "need_together" (aF fA) s.heap.objs.size f cdv)) :
  rR (qE (CXr P w base) P w K mg base wK "need_together" (aF fA) f cdv A outer s H E) E (cV fA) mJ:=
 (iZ (iF<|sG 1 vO.nd rfl (Or.inl rfl) (a82 b11 hr ac rfl (aD (cR 0<|pv 0) aB)) (hl:=il (n:=2) rfl ac))<|uQ<|cL5 (c28<|cR 1<|pv 1) (uQ<|bP6 (k:=0) pF lX a48 (hr.mono ac) rfl iP rfl (aD (a57 (mD 1<|pv 1) aE λ_ _=>rfl)<|aD (a57 (mD 1<|pv 1) aE λ_ _=>rfl) aB) bV0 rfl ac) bV1)
theorem aW8 (Z:Zs mg){gJ:Addr}(lH:mg "NotWhole"=some (.ref gJ)){jI:Addr}{cA7:FuncData}(qW:a59 K gJ jI bmV vN=true)(aR0:c35 K gJ jI cA7 "prime" "number")(vV:b54<$>P)(xN:bI2<$>P)(aR1:c95<$>P){f:Addr}{cdv:Value}{A:Around}{outer:List Env}{s:Shared}{H:Hp}{E:XK}(hr:fG 8 (A.deeper<|envOfC "need_whole" (aF gB) s.heap.objs.size f cdv)) :
  rR (qE (CXr P w base) P w K mg base vM "need_whole" (aF gB) f cdv A outer s H E) E (cV gB) qN:=
 (iZ (iF<|sG 2 mY.nd rfl (Or.inl rfl) (a82 vV hr ac rfl (aD (cR 0<|pv 0)<|aD (a82 xN hr ac rfl (aD (cR 0<|pv 0)<|aD (cR 1<|pv 1) aB)) aB)) (hl:=il (n:=5) rfl ac))<|uQ<|cL5 (c28<|cR 2<|pv 2) (iZ (iF<|cD5 (cR 2<|pv 2)<|uM rfl (dO 3 (cE mY.nd rfl (Or.inr rfl))<|dO 4 (cE mY.nd rfl (Or.inl rfl)) oC) (cT<|cT kW))<|uQ<|bP6 (k:=0) pF qW aR0 (hr.mono ac) rfl lH rfl (aD (cR 3<|pv 3)<|aD (a82 aR1 hr ac rfl (aD (bV dA rfl Z.z6 dB (aD (a86 (js:=[3]) (N:=["c","p",".acc"]) (cap:=[none,some 3,none]) (last:=2) (esc:=(aF gB).names) (XN:=vM) rfl rfl af ac ac rfl (fV<|cR 4<|pv 4) (λ_ _ _ _ _ _=>(tG 0<|cE (show Nodup (["c","p",".acc"]:List Str)by decide +kernel) rfl (Or.inl rfl))) (λ_ _ _ _ _ _=>eG) (λ_ _ _ _ _ _=>(aI eY (cR 0<|pv 0)<|cR 1<|pv 1))) aB))<|aD (aI bL (eQ (mD 0<|pv 0) rfl Z.z0) aE) aB)) aB) bV0 rfl ac) bV1)
theorem d95 (Z:Zs mg):DT<$>d85 "_law_cell" bH0 0 bV4:=λhr=>
 (j5 (gC fF (eQ (bT 0) rfl Z.z0) aE) (gD<|aI bM aE<|aI bX (aO 1) aE)<|j5 (gC cK3 (aO 1)<|eQ (bT 0) rfl Z.z0) (gD<|cF (bT 0)<|aO 1)<|gD<|aI bX (cF (bT 0)<|aI eY (aO 1)<|eQ (bT 0) rfl Z.z0)<|aI bM aE<|aO 1)
theorem cT7 (Z:Zs mg):DT<$>cN3 "_law_mixed" aV4 0 bB8:=λhr=>
 (bN 3 bH9.nd (aI eY (aI bM (aI bX (aI bX (aI bX (aO 0)<|aI bM (aI bM aE<|aO 1)<|aO 1)<|aI bM aE<|aO 1) aE) aE) aE)<|bN 3 bH9.nd (aI eY (aI bM (aO 3)<|aO 3) aE)<|gD<|aI eY (aI bM (aO 3) aE)<|aO 2)
theorem cT8 (Z:Zs mg)(aF8:c98<$>P):DT<$>cN4 "_law_draws" aV5 1 bB9:=λhr=>
 (bN 3 yL.nd aE<|j5 (gC dN3 (aO 0)<|aI a04 aE aE) (aX<|uO 3 yL.nd<|aI bL (aO 0)<|aI a04 aE aE)<|bN 4 yL.nd (cS aB)<|bB (mQ 5 yL.nd (cX rfl Z.z4 (aD (eQ (bT 1) rfl Z.z0) aB))<|aX<|c16 (gC b97 (aO 3) aE) (bB (jZ 4 (pv 4)<|aI eY (aO 3)<|cF (bT 1)<|aO 5)<|aX<|uO 3 yL.nd<|aI sH (aO 3)<|cF (bT 1)<|aO 5)<|aX<|jZ 4 (pv 4)<|aI eY (dI aF8 hr<|aP 0<|aP 5<|aP 2 aB)<|cF (bT 1)<|aO 5)<|aX<|kF 4<|pv 4)
theorem cA5 (Z:Zs mg):DT<$>bS3 "_law_shifted" yI 0 aO9:=λhr=>
 (bN 2 a37.nd (bV bU0 rfl Z.z2 bV5 (aP 0 aB))<|bB (mQ 3 a37.nd (cX rfl Z.z4 (aD (aI bL (eQ (bT 2) rfl Z.z0) aE) aB))<|aX<|mQ 4 a37.nd (aE4 rfl Z.z4 (aD (aI bL (eQ (bT 2) rfl Z.z0) aE)<|aD (aI bL (aO 3) aE)<|t7 (iG aE) aB))<|aX<|jS 2 (pv 2) (aI bX (cF (bT 2)<|aO 4)<|aI bM (aO 1)<|cF (bT 2)<|aI bX (aO 4) aE)<|aO 4)<|gD<|bV dA rfl Z.z6 dB (aP 2 aB))
theorem d96 (Z:Zs mg)(lY:bI3<$>P)(qX:bI4<$>P):DT<$>cH8 "_law_poly" b05 2 bX3:=λhr=>
 (bN 2 aF5.nd (dI lY hr<|aP 0<|aD (cS<|bJ<|bJ aB)<|aP 1 aB)<|bN 3 aF5.nd (kR (oW<|dI lY hr<|aP 0<|aD (by refine WE.out ?_;exact(d23<|eR<|eR<|eR<|eR<|eR<|eR jU))<|aP 1 aB) (gO aE)<|gO<|aI bX (cF (bT 2) aE) aE)<|j5 (gC fF (cF (bT 2) aE) aE) (gD<|bV dA rfl Z.z6 dB (aD (aI bX (rQ ["_law_place",".acc"] (aF b05).names cH8 (fV<|aO 3) (λ_ _ _ _ _ _=>eG) λ_ _ _ _ _ _=>(aI bL (aO 0) aE))<|cS<|bJ aB) aB))<|bN 4 aF5.nd (dI lY hr<|aP 0<|aD (by refine WE.out ?_;exact(d23<|eR<|eR<|eR<|eR<|eR<|eR<|eR jU))<|aP 1 aB)<|j5 (gC fF (cF (bT 2) aE) aE) (bN 4 aF5.nd (dI lY hr<|aP 0<|aD (by refine WE.out ?_;exact(d23<|eR<|eR<|eR<|eR jU))<|aP 1 aB)<|gD<|d8<|aD (aI bL (cF (bT 4) aE) aE)<|aD (aI bL (cF (bT 4) aE) aE)<|bJ aB)<|j5 (gC fF (cF (bT 2) aE) aE) (gD<|dI qX hr<|nZ (d8<|aD (aI bL (cF (bT 4) aE) aE)<|aD (aI bL (cF (bT 4) aE) aE)<|aD (aI bL (cF (bT 4) aE) aE)<|bJ aB)<|aD (aI bL (cF (bT 4) aE) aE) aB)<|bN 4 aF5.nd (dI lY hr<|aP 0<|aD (by refine WE.out ?_;exact(d23<|eR<|eR<|eR<|eR<|eR<|eR<|eR jU))<|aP 1 aB)<|gD<|dI qX hr<|nZ (d8<|aD (aI bL (cF (bT 4) aE) aE)<|aD (aI bL (cF (bT 4) aE) aE)<|aD (aI bL (cF (bT 4) aE) aE)<|aD (aI bL (cF (bT 4) aE) aE)<|bJ aB)<|aD (aI bL (cF (bT 4) aE) aE) aB)
theorem bJ0 (Z:Zs mg)(aF8:c98<$>P):DT<$>aV6 "_law_known_ring" oO 1 xA:=λhr=>
 (by refine WS.out ?_;exact dN5 (bB0 (eR<|eR<|eR jU)<|bB0 (bA9<|eR<|eR jU)<|bB0 (eR<|eR<|eR jU)<|bB0 (bA9<|eR<|eR jU)<|bB0 (bA9<|bA9<|eR<|eR jU)<|bB0 (bA9<|eR<|eR<|eR jU)<|bB0 (bA9<|eR<|eR<|eR jU) jU) (cL3<|bN 1 xJ.nd (aI bX (aO 1)<|cS<|nZ (d8<|bJ<|bJ<|bJ<|bJ<|bJ aB)<|nZ (d8<|t7 (iG aE)<|t7 (iG aE)<|bJ<|bJ<|bJ aB)<|nZ (d8<|bJ<|bJ<|bJ<|bJ<|bJ aB)<|nZ (d8<|t7 (iG aE)<|bJ<|bJ<|bJ<|bJ aB)<|nZ (d8<|bJ<|bJ<|t7 (iG aE)<|bJ<|bJ aB) aB)<|gD<|cF (bT 1)<|aI eY (dI aF8 hr<|aP 0<|bJ<|bJ aB) aE) xJ.nd)
theorem d97 (Z:Zs mg){dP:Addr}(gU:mg "RingError"=some (.ref dP))(lJ:excIn K dP bmV vN=true)(qY: ∀n∈(["FallsApart","TooGreat","NotWhole"]:List Str),∀C,mg n=some (.ref C)->a91 K dP C bmV vN)(a49:MkX<$>"Ring" 10 ["poly","degree","measure"] rZ)(cI5:dK8<$>P)(a50:cO3<$>P)(a51:bM1<$>P):DT<$>d86 "_law_ring" bH2 11 bX2:=λhr=>
 (bN 3 aF6.nd b91<|bB (mQ 4 aF6.nd (cX rfl Z.z4 (bJ aB))<|aX<|aY5 (bU6<|aO 3)<|aX<|dG8 3 ["FallsApart","TooGreat","NotWhole"] pF a49 hr ac rfl rfl rfl rfl rfl (λ_=>(aD (dI cI5 hr<|aD (dI a50 hr<|aP 0<|aD (aI bX (aO 1)<|aO 4) aB)<|aP 2 aB) aB)) aF6.nd rfl (Or.inl rfl) (λ_=>(aX<|uO 3 aF6.nd b91)) rfl gU lJ qY (il (n:=5) rfl ac))<|j5 (bU6<|aO 3) (aX<|uO 3 aF6.nd<|cL6 a49 hr ac rfl (aD (dI a51 hr<|aD (dI a50 hr<|aP 0<|aP 1 aB) aB) aB))<|aX<|kF 3<|pv 3)
theorem cI4 (Z:Zs mg):DT<$>c83 "_law_shared" aC7 0 b03:=λhr=>
 (bB (a80 gF (gC c19 (aO 1) aE)<|aX<|us_par 0 1 rfl bS5.nd rfl rfl ac rfl rfl (aP 1<|aD (aI eY (aO 0)<|aO 1) aB) rfl (hl:=il2 (n:=2) rfl ac ac))<|gD<|iL b98 rfl Z.z9 bC1 (aP 0 aB))
theorem cT9 (Z:Zs mg):DT<$>cN7 "_law_times" aV7 0 bE5:=λhr=>
 (bN 3 sD.nd (aI bL (eQ (bT 0) rfl Z.z0) aE)<|bN 4 sD.nd (aI bM (cS<|bJ aB)<|aI bL (aI bM aE<|aO 3) aE)<|bB (mQ 5 sD.nd (cX rfl Z.z4 (aP 3 aB))<|aX<|mQ 6 sD.nd (cX rfl Z.z4 (aP 3 aB))<|aX<|jS 4 (pv 4) (aI bX (cF (bT 4)<|aI bX (aO 5)<|aO 6)<|aI bM (cF (bT 1)<|aO 5)<|cF (bT 2)<|aO 6)<|aI bX (aO 5)<|aO 6)<|bB (mQ 7 sD.nd (aE4 rfl Z.z4 (aD (aI bL (aI bM aE<|aO 3) aE)<|aD (aI bL (aO 3) aE)<|t7 (iG aE) aB))<|aX<|mQ 6 sD.nd (cX rfl Z.z4 (aP 3 aB))<|bN 8 sD.nd (aI bX (aI bL (aO 7)<|aO 3)<|aO 6)<|aX<|jS 4 (pv 4) (aI bL (cF (bT 4)<|aO 8)<|aI bM (cF (bT 4)<|aO 7)<|cF (bT 0)<|aO 6)<|aO 8)<|gD<|bV dA rfl Z.z6 dB (aD (kR (bT 4) jW<|gO<|aO 3) aB))
theorem b83 (Z:Zs mg){k:Nat}{kY:Φ}(hk:1<=k)(b36:Fn<$>"_law_det" qT k kY):DT<$>d87 "_law_det" bH3 k (cH3 kY):=λhr=>
 (bB (c16 (aE3 fF (eQ (mD 0<|pv 0) rfl Z.z0) aE<|aX2 _) (aX<|cD4<|a57 (oW<|a57 (mD 0<|pv 0) aE λ_ _=>rfl) aE λ_ _=>rfl) b93)<|bB (sG 1 aC8.nd rfl (Or.inl rfl) aE (hl:=il (n:=4) rfl ac))<|bB (aN6 gF rfl (cX rfl Z.z4 (aD (eQ (mD 0<|pv 0) rfl Z.z0) aB)) (tG 2<|cE aC8.nd rfl (Or.inl rfl)) (bB (rP (js:=[]) (N:=["_law_row",".acc"]) (cap:=[none,none]) (last:=1) (esc:=(aF bH3).names) (XN:=d87) 3 rfl rfl af ac ac rfl (fV<|aI bX (kR (mD 0<|pv 0) jW<|gO<|cR 2<|pv 2)<|kR (mD 0<|pv 0) (gO<|aI bX (cR 2<|pv 2) aE) jW) (λ_ _ _ _ _ _=>(tG 0<|cE (show Nodup (["_law_row",".acc"]:List Str)by decide +kernel) rfl (Or.inl rfl))) (λ_ _ _ _ _ _=>eG) (λ_ _ _ _ _ _=>(kR (mD 0<|pv 0) (gO aE) jW)) (cE aC8.nd rfl (Or.inl rfl)) (il (n:=4) rfl ac))<|aX<|sG 1 aC8.nd rfl (Or.inl rfl) (aI bX (cR 1<|pv 1)<|aI bM (aI bM (aI bL aE<|aI bM aE<|aI eY (cR 2<|pv 2) aE)<|a57 (oW<|a57 (mD 0<|pv 0) (cR 2<|pv 2) λ_ _=>rfl) aE λ_ _=>rfl)<|a82 b36 hr (aG _) rfl (aD (cR 3<|pv 3) aB)) (hl:=il (n:=4) rfl ac)))<|aX<|kF 1<|pv 1)
theorem cU0 (Z:Zs mg)(aF9:c99<$>P):DT<$>bY2 "_law_table" b81 1 bE9:=λhr=>
 (bN 2 vP.nd (aI bL (eQ (bT 0) rfl Z.z0) aE)<|bN 3 vP.nd (bV dA rfl Z.z6 dB (aD (rQ ["_law_k",".acc"] (aF b81).names bY2 (cX rfl Z.z4 (aP 2 aB)) (λ_ _ _ _ _ _=>eG) λ_ _ _ _ _ _=>(bV cZ3 rfl Z.z13 d42 (aD (dG3 fF (aO 0) aE) aB))) aB))<|bN 4 vP.nd (cS aB)<|bN 5 vP.nd (bV dA rfl Z.z6 dB (aP 1 aB))<|bB (mQ 6 vP.nd (cX rfl Z.z4 (aP 2 aB))<|bB (jZ 4 (pv 4)<|aO 5)<|aX<|uO 5 vP.nd<|dI aF9 hr<|aP 0<|aP 3<|aP 5 aB)<|aX<|kF 4<|pv 4)
theorem cU1 (Z:Zs mg):DT<$>cN8 "_law_value" aV8 0 bF1:=λhr=>
 (bN 2 aW4.nd aE<|bB (mQ 3 aW4.nd (cL1 rfl Z.z3 (aP 0 aB))<|aX<|uO 2 aW4.nd<|aI bX (aI bM (aO 2)<|aO 1)<|aO 3)<|aX<|kF 2<|pv 2)
theorem cU2 (Z:Zs mg):DT<$>cN9 "_law_known" aV9 0 bF3:=λhr=>
 (bN 3 yM.nd (cS aB)<|bN 4 yM.nd aE<|bB (mQ 5 yM.nd (cX rfl Z.z4 (aP 0 aB))<|bN 6 yM.nd (aI bM (cS<|bJ aB)<|aO 0)<|bB (c16 (gC fF (aO 5) aE) (aX<|jS 6 (pv 6) (aO 1) aE)<|bN 4 yM.nd (aI eY (aI bM (aO 4)<|aO 2)<|aO 1)<|bB (jS 6 (pv 6) (aI eY (iG<|aO 4)<|aO 1) aE)<|aX<|jS 6 (pv 6) aE<|aO 5)<|aX<|jZ 3 (pv 3)<|bV dA rfl Z.z6 dB (aP 6 aB))<|gD<|bV dA rfl Z.z6 dB (aP 3 aB))
theorem cU3 (Z:Zs mg):DT<$>a34 "_law_stair" wL 0 bD0:=λhr=>
 (bB (rP (js:=[0,1]) (N:=["_law_i","_law_many","_law_m",".acc"]) (cap:=[none,some 0,some 1,none]) (last:=3) (esc:=(aF wL).names) (XN:=a34) 3 rfl rfl af ac ac rfl (cX rfl Z.z4 (aP 0 aB)) (λ_ _ _ _ _ _=>(tG 0<|cE (show Nodup (["_law_i","_law_many","_law_m",".acc"]:List Str)by decide +kernel) rfl (Or.inr rfl))) (λ_ _ _ _ _ _=>eG) (λ_ _ _ _ _ _=>(rQ ["_law_j","_law_m","_law_i",".acc"] [(".0",NameKind.local),("_law_i",NameKind.cell),("range",NameKind.globalImplicit),("_law_m",NameKind.cell),("_law_many",NameKind.cell)] ["_law_i","_law_many","_law_m",".acc"] (cX rfl Z.z4 (aP 1 aB)) (λ_ _ _ _ _ _=>eG) λ_ _ _ _ _ _=>(aI bM (aO 1)<|bV cZ3 rfl Z.z13 d42 (aD (dG3 fF (aO 2)<|aO 0) aB)))) (cE jC.nd rfl (Or.inl rfl)) (il (n:=12) rfl ac))<|bB (mQ 4 jC.nd (fV<|aO 2)<|bB (rP (js:=[1]) (N:=["_law_place","_law_m",".acc"]) (cap:=[none,some 1,none]) (last:=2) (esc:=(aF wL).names) (XN:=a34) 5 rfl rfl af ac ac rfl (fV<|aO 4) (λ_ _ _ _ _ _=>(tG 0<|cE (show Nodup (["_law_place","_law_m",".acc"]:List Str)by decide +kernel) rfl (Or.inl rfl))) (λ_ _ _ _ _ _=>eG) (λ_ _ _ _ _ _=>(aI eY (aO 0)<|aO 1)) (cE jC.nd rfl (Or.inl rfl)) (il (n:=12) rfl ac))<|aX<|mQ 6 jC.nd (aE4 rfl Z.z4 (aD (aI bL (aO 0) aE)<|t7 (iG aE)<|t7 (iG aE) aB))<|aX<|a80 gF (gC c19 (cF (bT 5)<|aO 6) aE)<|bN 7 jC.nd (aI sH (cF (oW<|cF (bT 3)<|aO 6)<|aO 6)<|cF (bT 5)<|aO 6)<|bN 8 jC.nd (aI bL (cF (oW<|cF (bT 3)<|aO 6)<|aO 6)<|aI bM (aO 7)<|cF (bT 5)<|aO 6)<|bN 9 jC.nd (kR (oW<|cF (bT 3)<|aO 6) jW<|gO<|aO 6)<|bB (rP (js:=[7,1]) (N:=["_law_a","_law_b","_law_part","_law_m",".acc"]) (cap:=[none,none,some 7,some 1,none]) (last:=4) (esc:=(aF wL).names) (XN:=a34) 9 rfl rfl af ac ac rfl (cE5 (by rfl) Z.z7<|aP 9<|aP 5 aB) (λ_ _ _ _ _ _=>(uM rfl (dO 0 (cE (show Nodup (["_law_a","_law_b","_law_part","_law_m",".acc"]:List Str)by decide +kernel) rfl (Or.inl rfl))<|dO 1 (cE (show Nodup (["_law_a","_law_b","_law_part","_law_m",".acc"]:List Str)by decide +kernel) rfl (Or.inl rfl)) oC) (cT<|cT kW))) (λ_ _ _ _ _ _=>eG) (λ_ _ _ _ _ _=>(aI eY (aI bL (aO 0)<|aI bM (aO 2)<|aO 1)<|aO 3)) (cE jC.nd rfl (Or.inl rfl)) (il (n:=12) rfl ac))<|bB (jS 3 (pv 3) (aO 5)<|aO 6)<|aX<|uO 5 jC.nd<|aI bX (aI bX (aO 9)<|cS<|aP 8 aB)<|aI bM (cS<|bJ aB)<|aI bL (aI bL (aO 0) aE)<|aO 6)<|bB (mQ 10 jC.nd (cX rfl Z.z4 (aP 0 aB))<|aX<|mQ 11 jC.nd (aE4 rfl Z.z4 (aD (aI bL (aO 10) aE)<|t7 (iG aE)<|t7 (iG aE) aB))<|bN 7 jC.nd (aI sH (cF (oW<|cF (bT 3)<|aO 10)<|aO 11)<|cF (oW<|cF (bT 3)<|aO 11)<|aO 11)<|aX<|jS 3 (pv 3) (a86 (js:=[7]) (N:=["_law_a","_law_b","_law_part",".acc"]) (cap:=[none,none,some 7,none]) (last:=3) (esc:=(aF wL).names) (XN:=a34) rfl rfl af ac ac rfl (cE5 (by rfl) Z.z7<|aD (cF (bT 3)<|aO 10)<|aD (cF (bT 3)<|aO 11) aB) (λ_ _ _ _ _ _=>(uM rfl (dO 0 (cE (show Nodup (["_law_a","_law_b","_law_part",".acc"]:List Str)by decide +kernel) rfl (Or.inl rfl))<|dO 1 (cE (show Nodup (["_law_a","_law_b","_law_part",".acc"]:List Str)by decide +kernel) rfl (Or.inl rfl)) oC) (cT<|cT kW))) (λ_ _ _ _ _ _=>eG) (λ_ _ _ _ _ _=>(aI bL (aO 0)<|aI bM (aO 2)<|aO 1)))<|aO 10)<|gD<|bV dA rfl Z.z6 dB (aD (rQ ["_law_row",".acc"] (aF wL).names a34 (fV<|aO 3) (λ_ _ _ _ _ _=>eG) λ_ _ _ _ _ _=>(bV dA rfl Z.z6 dB (aP 0 aB))) aB))
theorem d98 (Z:Zs mg)(aG0:cA0<$>P)(sE:bS6<$>P)(b36:d90<$>P)(aG1:cA1<$>P):DT<$>d88 "_law_made" bH4 5 bX8:=λhr=>
 (bN 2 a38.nd aE<|bN 3 a38.nd (cS aB)<|bB (mQ 4 a38.nd (fV<|aO 1)<|bN 5 a38.nd (dI aG0 hr<|aP 0<|aP 4 aB)<|bN 2 a38.nd (dI sE hr<|aP 2<|aD (dI b36 hr<|aP 5 aB) aB)<|aX<|uO 3 a38.nd<|aI bX (aO 3)<|aO 5)<|gD<|dI aG1 hr<|aD (aI bL (eQ (bT 0) rfl Z.z0) aE)<|aP 2<|aP 3 aB)
theorem cA6 (Z:Zs mg)(aF9:c99<$>P)(aG1:cA1<$>P):DT<$>b06 "_law_product" tT 1 aP1:=λhr=>
 (bN 3 a39.nd (cS aB)<|bB (mQ 4 a39.nd (fV<|aO 1)<|aX<|uO 3 a39.nd<|aI bX (aO 3)<|rQ ["_law_y","_law_poly_here","_law_x",".acc"] (aF tT).names b06 (fV<|aO 2) (λ_ _ _ _ _ _=>eG) λ_ _ _ _ _ _=>(dI aF9 hr<|aP 1<|aP 2<|aP 0 aB))<|gD<|dI aG1 hr<|aD (aI bL (eQ (bT 0) rfl Z.z0) aE)<|aD (aI bM (cF (oW<|cF (bT 1) aE) aE)<|cF (oW<|cF (bT 2) aE) aE)<|aP 3 aB)
theorem cU4 (Z:Zs mg)(lY:bI3<$>P)(bZ1:d91<$>P)(sE:bS6<$>P)(bZ2:d92<$>P)(b12:cI1<$>P)(b36:d90<$>P)(aG0:cA0<$>P)(cI6:dL0<$>P):DT<$>b82 "_law_ideal" a35 6 bF8:=λhr=>
 (bN 3 fK.nd (aI bL (eQ (bT 0) rfl Z.z0) aE)<|bN 4 fK.nd (dI lY hr<|aP 1<|aD (by refine WE.out ?_;exact(aG5 bX (d23<|eR<|eR<|eR<|eR<|wa_e (aG5 a04 a69 a69)<|wa_e (aG5 a04 a69 a69)<|eR jU)<|we_p<|aI bM (cS<|bJ aB)<|aO 3))<|aP 2 aB) (by refine WS.out ?_;exact ws_ew (aG5 bM (aG5 bM (aG5 bM (aG5 bM (aG5 bM (aG5 bM (aG5 bM (aG5 bM (aG5 a04 a69 a69)<|aG5 a04 a69 a69)<|aG5 a04 a69 a69)<|aG5 a04 a69 a69)<|aG5 a04 a69 a69) a69) a69) a69) a69) (cL3<|bN 6 fK.nd (cS aB)<|bB (mQ 7 fK.nd (cX rfl Z.z4 (bJ aB))<|bN 8 fK.nd (aI bL (cF (bT 4)<|aI bX aE<|aO 7) aE)<|bN 9 fK.nd (iL b98 rfl Z.z9 bC1 (aD (dI bZ1 hr<|aP 0<|aP 8 aB) aB))<|j5 (gC b97 (aI eY (cF (bT 4)<|aI bX aE<|aO 7) aE) aE) (aX<|uO 9 fK.nd<|dI sE hr<|aP 9<|aD (aI bM (aO 5)<|aI bX aE<|aI sH (cF (bT 4)<|aI bX aE<|aO 7) aE) aB)<|aX<|jZ 6 (pv 6)<|dI bZ2 hr<|aP 3<|aP 9<|aP 8 aB) (by refine WS.out ?_;exact ws_lx (eR<|eR<|eR jU) (cF (bT 4) aE) (cL3<|bN 11 fK.nd (bV dA rfl Z.z6 dB (aD (rQ ["_law_place","_law_wide",".acc"] (aF a35).names b82 (fV<|kR (bT 4) (gO aE) jW) (λ_ _ _ _ _ _=>eG) λ_ _ _ _ _ _=>(aI bL (aI eY (aO 0)<|aI bX (aI bM aE<|aO 1) aE)<|aO 1)) aB))<|j5 (gC (d10 hr.units) (aO 11)<|bV dA rfl Z.z6 dB (aD (aI bM (cS<|bJ aB)<|aO 3) aB)) (aX<|uO 11 fK.nd<|bV dA rfl Z.z6 dB (aD (aI bX (cS<|bJ aB)<|aI bM (cS<|bJ aB)<|aI bL (aO 3) aE) aB))<|bN 12 fK.nd (cF (bT 6) aE)<|j5 (gC fF (cF (bT 4) aE) aE) (aX<|uO 12 fK.nd<|dI b12 hr<|aP 0<|aD (cF (bT 6) aE)<|aD (cF (bT 6) aE) aB)<|j5 (gC b97 (cF (bT 4) aE) aE) (bN 9 fK.nd (dI sE hr<|aD (dI b36 hr<|aD (dI aG0 hr<|aP 0<|aP 11 aB) aB)<|aD (aI bM (aI bM (aO 5) aE) aE) aB)<|j5 (gC fF (cF (bT 4) aE) aE) (aX<|uO 9 fK.nd<|aI sH (aO 9)<|dI sE hr<|aP 9<|aD (aI bX aE<|aI eY (cF (bT 4) aE) aE) aB)<|j5 (PUW.pt<|aR7 (gC fF (cF (bT 4) aE) aE)<|a79<|gC fF (aI eY (cF (bT 4) aE) aE) aE) (aX<|uO 9 fK.nd<|aI bX aE<|cF (bT 4) aE)<|aX<|uO 12 fK.nd<|dI cI6 hr<|aP 0<|aD (cS<|aP 11<|aD (bV dA rfl Z.z6 dB (aD (aI bX (cS<|aP 9 aB)<|aI bM (cS<|bJ aB)<|aI bL (aO 3) aE) aB)) aB) aB)<|gD<|bV dA rfl Z.z6 dB (aD (rQ ["_law_row","_law_found",".acc"] (aF a35).names b82 (fV<|aO 12) (λ_ _ _ _ _ _=>eG) λ_ _ _ _ _ _=>(bV dA rfl Z.z6 dB (aD (rQ ["_law_place","_law_found",".acc"] [(".0",NameKind.local),("_law_row",NameKind.local),("tuple",NameKind.globalImplicit),("_law_found",NameKind.cell)] ["_law_row","_law_found",".acc"] (fV<|aO 0) (λ_ _ _ _ _ _=>eG) λ_ _ _ _ _ _=>(aI bM (iL (cZ2 rfl) rfl Z.z1 d41 (bJ<|aD (aI bL (cF (bT 1) aE) aE) aB))<|aO 0)) aB))) aB)) fK.nd)) fK.nd))
theorem cU5 (Z:Zs mg){cK:Addr}(mV:mg "NotTwo"=some (.ref cK))(oR:excIn K cK bmV vN=true){dP:Addr}(gU:mg "RingError"=some (.ref dP))(lJ:excIn K dP bmV vN=true){yO:Addr}(vW:mg "Beyond"=some (.ref yO)){tU:Addr}(qZ:mg "Endless"=some (.ref tU)){tV:Addr}(r6:mg "NoBasic"=some (.ref tV)){jE:Addr}(iC:mg "NoPolynomial"=some (.ref jE)){r8:Addr}(nW:mg "NotApart"=some (.ref r8)){tW:Addr}(rA:mg "NotHeld"=some (.ref tW)){tX:Addr}(rB:mg "NotUnit"=some (.ref tX)){yP:Addr}(vX:mg "Nought"=some (.ref yP)){tY:Addr}(rC:mg "NoPrime"=some (.ref tY)){yQ:Addr}(vY:mg "TooFar"=some (.ref yQ)){iD:Addr}(iE:mg "TooGreat"=some (.ref iD))(KX_NotTwo:cF8 K cK)(U1_NotTwo:a91 K cK cK bmV vN)(ki_NotTwo_RingError:kitOne K (.ref cK) (.ref dP)=some true)(ki_NotTwo_ValueError:kitOne K (.ref cK) (.type "ValueError")=some true)(ki_NotTwo_Beyond_Endless_NoBasic_NoPolynomial_NotApart_NotHeld_NotUnit:kitAny K (.ref cK) [.ref yO,.ref tU,.ref tV,.ref jE,.ref r8,.ref tW,.ref tX]=some false)(ki_NotTwo_Nought_NoPrime_TooFar_TooGreat:kitAny K (.ref cK) [.ref yP,.ref tY,.ref yQ,.ref iD]=some false)(b13:FnX<$>"home" bR7 3 vD)(aG2:FnX<$>"road" bR8 3 vE)(lB:FnX<$>"alike" aQ3 3 jH)(rD:FnX<$>"maker" bG8 4 kZ):DT<$>cO1 "_law_asked" aW0 4 bG1:=λhr=>
 (bN 4 yN.nd cJ8<|bB (dH5 5 (.inl ⟨rfl,rfl⟩) pF rfl rfl rfl rfl (b74 (λ_=>(gC fF (aO 0) aE)) (b73 b13 hr ac rfl (λ_=>(aP 1<|aP 2 aB))) (b74 (λ_=>(gC fF (aO 0) aE)) (b73 aG2 hr ac rfl (λ_=>(aP 1<|aP 2 aB))) (b74 (λ_=>(gC fF (aO 0) aE)) (b73 lB hr ac rfl (λ_=>(aP 1<|aP 2<|aP 3 aB))) (b74 (λ_=>(gC fF (aO 0) aE)) (b73 rD hr ac rfl (λ_=>(aP 1<|aP 2 aB))) uy_nil λ_=>b93) λ_=>(aX<|aY5 (gC fF (aO 0) aE)<|aX<|tI<|tP rD hr ac rfl (aP 1<|aP 2 aB))) λ_=>(j5 (gC fF (aO 0) aE) (aX<|tI<|tP lB hr ac rfl (aP 1<|aP 2<|aP 3 aB))<|aX<|aY5 (gC fF (aO 0) aE)<|aX<|tI<|tP rD hr ac rfl (aP 1<|aP 2 aB))) λ_=>(j5 (gC fF (aO 0) aE) (aX<|tI<|tP aG2 hr ac rfl (aP 1<|aP 2 aB))<|j5 (gC fF (aO 0) aE) (aX<|tI<|tP lB hr ac rfl (aP 1<|aP 2<|aP 3 aB))<|aX<|aY5 (gC fF (aO 0) aE)<|aX<|tI<|tP rD hr ac rfl (aP 1<|aP 2 aB))) (λa oe x ho hx=>(bN 4 yN.nd (cD3 (d36 5 KX_NotTwo (hJ ..) ho hx (pv 5) (sI rfl gU) rfl ki_NotTwo_RingError rfl Z.z14)<|cD2<|d36 5 KX_NotTwo (hJ ..) ho hx (pv 5) (pu_ty rfl Z.z15 bK3) rfl ki_NotTwo_ValueError rfl Z.z14)<|bN 4 yN.nd (cD3 (aO 4)<|cD2<|cY2<|cL9 5 KX_NotTwo (hJ ..) ho hx (pv 5) (d8<|aD (sI rfl vW)<|aD (sI rfl qZ)<|aD (sI rfl r6)<|aD (sI rfl iC)<|aD (sI rfl nW)<|aD (sI rfl rA)<|aD (sI rfl rB) aB) (rs:=[yO,tU,tV,jE,r8,tW,tX]) (λ_ _ q=>⟨aK9 rfl,q⟩) ki_NotTwo_Beyond_Endless_NoBasic_NoPolynomial_NotApart_NotHeld_NotUnit rfl Z.z14)<|aX<|uO 4 yN.nd<|cD3 (aO 4)<|cD2<|cY2<|cL9 5 KX_NotTwo (hJ ..) ho hx (pv 5) (d8<|aD (sI rfl vX)<|aD (sI rfl rC)<|aD (sI rfl vY)<|aD (sI rfl iE) aB) (rs:=[yP,tY,yQ,iD]) (λ_ _ q=>⟨aK9 rfl,q⟩) ki_NotTwo_Nought_NoPrime_TooFar_TooGreat rfl Z.z14)) rfl mV (.inl oR) U1_NotTwo yN.nd rfl rfl (il (n:=6) rfl ac))<|aX<|kF 4<|pv 4)
theorem dL1 (Z:Zs mg)(a49:MkX<$>"Ring" 10 ["poly","degree","measure"] rZ)(cI7:dK9<$>P)(lY:bI3<$>P)(a50:cO3<$>P)(qX:bI4<$>P)(b84:d93<$>P)(bZ3:d94<$>P):DT<$>dO2 "law" aW1 12 bY1:=λhr=>
 (bN 1 a40.nd (dI cI7 hr<|aP 0<|bJ<|bJ aB)<|j5 (gC fF (bB6<|aO 1) aE) (bN 2 a40.nd (dI lY hr<|aD (dI a50 hr<|aP 0<|bJ aB)<|aD (cS<|bJ<|bJ aB)<|bJ aB) (by refine WS.out ?_;exact dN5 (bB0 (bA9<|bA9<|eR<|eR jU)<|bB0 (bA9<|eR<|eR<|eR jU)<|bB0 (bA9<|eR<|eR<|eR jU)<|bB0 (eR<|bA9<|eR<|eR jU) jU) (cL3<|bN 3 a40.nd (aI bX (aO 3)<|cS<|nZ (d8<|bJ<|bJ<|bJ<|bJ<|bJ aB)<|nZ (d8<|t7 (iG aE)<|t7 (iG aE)<|bJ<|bJ<|bJ aB)<|nZ (d8<|bJ<|bJ<|bJ<|bJ<|bJ aB)<|nZ (d8<|bJ<|bJ<|t7 (iG aE)<|bJ<|bJ aB) aB)<|aX<|uO 1 a40.nd<|cL6 a49 hr ac rfl (aD (dI qX hr<|aD (cF (bT 3)<|cF (bT 2) aE)<|aD (aI bL (cF (bT 2) aE) aE) aB) aB)) a40.nd))<|bN 4 a40.nd (dI b84 hr<|aD (bB6<|aO 1)<|aD (dI a50 hr<|aP 0<|bJ aB)<|bJ aB)<|bN 5 a40.nd (dI b84 hr<|aD (bB6<|aO 1)<|aD (dI a50 hr<|aP 0<|bJ aB)<|bJ aB)<|bB (mQ 2 a40.nd (cX rfl Z.z4 (bJ aB))<|aX<|aY5 (cJ9<|cY0<|dI bZ3 hr<|aD (aI eY (aO 2) aE)<|aP 1<|aP 4<|aP 5 aB)<|gD cJ8)<|gD cJ8)
theorem cU6 (Z:Zs mg){nX:Tok}(eO:mg "GREATEST_MEASURE"=some (.int 39999 nX)){iD:Addr}(iE:mg "TooGreat"=some (.ref iD))(rE:excIn K iD bmV vN=true)(d6:mK<$>P)(aD3:bY5<$>P)(nY:FnX<$>"need_together" vL 5 j3)(sU:FnX<$>"need_whole" a68 9 lP){f:Addr}{cdv:Value}{A:Around}{outer:List Env}{s:Shared}{H:Hp}{E:XK}(hr:fG 9 (A.deeper<|envOfC "Ring.__init__" (aF aC9) s.heap.objs.size f cdv)) :
  PSs (qE (CXr P w base) P w K mg base ["self","poly","size"] "Ring.__init__" (aF aC9) f cdv A outer s H E) (cV aC9) (λD=>lSX K mg E bE0 {D with nx:=tS3 K "poly" "degree" "measure" bE1 bE2 bE3 D}):=
 (b71 (iF<|tI<|a82 d6 hr ac rfl (aD (cR 1<|pv 1) aB))<|b71 (aS4 nY hr ac bP5 rfl (aD (cR 1<|pv 1) aB))<|b71 (iF<|sG 2 cO2.nd rfl (Or.inl rfl) (a82 aD3 hr ac rfl (aD (cR 1<|pv 1) aB)) (hl:=il (n:=3) rfl ac))<|b71 (cL5 (aE3 b97 (iL b98 rfl Z.z9 bC1 (aD (cR 2<|pv 2) aB)) (cK5 rfl eO)<|aX2 _) (uQ<|c36 pF rE rfl iE rfl (aD cX8 aB) bV0 rfl) bV1)<|dG9 (aS4 sU hr ac bP5 rfl (aD (cR 1<|pv 1)<|aD (cR 2<|pv 2) aB))<|xV (cC2 (pv 0) (cR 1<|pv 1) rfl)<|xV (cC2 (pv 0) (aI bL (eQ (mD 1<|pv 1) rfl Z.z0) aE) rfl)<|bS9<|cC2 (pv 0) (cR 2<|pv 2) rfl)
end
theorem lC {P:List Value->Prop}{n:Nat}(h: ∀a us,us.length=n->P (a::us)): ∀us:List Value,us.length=n+1->P us:=λus=>us.casesOn (λe=>nomatch e) λa us e=>h a us (Nat.succ.inj e)
theorem lN0 {P:List Value->Prop}(h:P []): ∀us:List Value,us.length=0->P us:=λus=>us.casesOn (λ_=>h) λ_ _ e=>nomatch e
local macro_rules| `(tactic| walk_at "b0")=> `(tactic| exact λ_ _ _ _ _ _=>lN0 rfl)
theorem lN1 {P:List Value->Prop}(h: ∀a0,P [a0]): ∀us:List Value,us.length=1->P us:=lC λa0=>lN0 (h a0)
local macro_rules| `(tactic| walk_at "b1")=> `(tactic| exact λ_ _ _ _ _ _=>lN1 λ_=>rfl)
theorem lN2 {P:List Value->Prop}(h: ∀a0 a1,P [a0,a1]): ∀us:List Value,us.length=2->P us:=lC λa0=>lC λa1=>lN0 (h a0 a1)
local macro_rules| `(tactic| walk_at "b2")=> `(tactic| exact λ_ _ _ _ _ _=>lN2 λ_ _=>rfl)
theorem lN3 {P:List Value->Prop}(h: ∀a0 a1 a2,P [a0,a1,a2]): ∀us:List Value,us.length=3->P us:=lC λa0=>lC λa1=>lC λa2=>lN0 (h a0 a1 a2)
local macro_rules| `(tactic| walk_at "b3")=> `(tactic| exact λ_ _ _ _ _ _=>lN3 λ_ _ _=>rfl)
theorem lN4 {P:List Value->Prop}(h: ∀a0 a1 a2 a3,P [a0,a1,a2,a3]): ∀us:List Value,us.length=4->P us:=lC λa0=>lC λa1=>lC λa2=>lC λa3=>lN0 (h a0 a1 a2 a3)
local macro_rules| `(tactic| walk_at "b4")=> `(tactic| exact λ_ _ _ _ _ _=>lN4 λ_ _ _ _=>rfl)
local macro_rules| `(tactic| walk_at "n")=> `(tactic| (intro _ _ h;repeat (first| (obtain⟨e,_⟩:=h;subst e;rfl)|obtain⟨_,h⟩:=h)))
structure FD where
 oc:Value
 od:Option Addr
 kV:Value
 dc:Value
 pm:Value
 an:Option Addr
 cd:Value
 ct:Value
 sl:Array (Option Value)
abbrev eS (K:PySem.W.Frag)(x y:Str)(s:Stmt)(f:Addr):Prop:= ∃d:FD,nsIn K mainGlobals y=some (some<|.ref f)/\K.lookup f=some ⟨d.oc,d.od,.func<|fnOf x x (iY s) (cV s) (aF s) .none d.kV d.dc d.pm d.an d.cd d.ct,d.sl⟩/\codeIn K d.cd x=true/\keepIn K (.ref f)=true
theorem fnAt {K:PySem.W.Frag}{x y:Str}{s:Stmt}{f:Addr}{oc:Value}{od:Option Addr}{kV dc pm:Value}{an:Option Addr}{cd ct:Value}{sl:Array (Option Value)}(a:nsIn K mainGlobals y=some (some<|.ref f))(b:K.lookup f=some ⟨oc,od,.func<|fnOf x x (iY s) (cV s) (aF s) .none kV dc pm an cd ct,sl⟩)(c:codeIn K cd x=true)(k:keepIn K (.ref f)=true):eS K x y s f:=⟨⟨oc,od,kV,dc,pm,an,cd,ct,sl⟩,a,b,c,k⟩
theorem d99 {K:PySem.W.Frag}{x y:Str}{s:Stmt}{f:Addr}(p:eS K x y s f): ∃fd,Fun K x x s f fd/\nsIn K mainGlobals y=some (some<|.ref f):=let ⟨_,a,b,c,k⟩:=p;⟨_,aX5 b c k,a⟩
section
variable {P:Program}{w:World}{K:PySem.W.Frag}{mg:Str->Option Value}{base h:Heap}(X:K.In h)(G:h.Ns mainGlobals mg){x y:Str}{st:Stmt}{f:Addr}{N ps:List Str}{k:Nat}(p:eS K x y st f)(b: ∀(kV doc pm:Value) (an:Option Addr) (cdv ct:Value) (us:List Value),us.length=ps.length->bindArgs (fnOf x x (iY st) (cV st) (aF st) .none kV doc pm an cdv ct) ⟨us,[]⟩=pure (ps.zip us))(S:aY N ps (aF st))
include X G p b S
theorem fn_b {φ:Φ}(len: ∀ds Q,φ ds Q->ds.length=ps.length){t:US}(der:DT<$>N x st k t)(rd: ∀ds Q,φ ds Q->t {Q with} (init N ds)):Fn<$>y ps (k+1) φ:=
 let ⟨_,U,m⟩:=d99 p
 Fn.mkA U (bK X G m) (U.binds b) S len (λ_ _ _ _ _ _=>der) rd
theorem fnX_b {φ:ΦX}(q:x=y)(len: ∀ds Q Ex,φ ds Q Ex->ds.length=ps.length){t:USX}(der: ∀(cdv:Value) (A:Around) (outer:List Env) (s:Shared) (H:Hp) (E:XK),fG k (A.deeper<|envOfC x (aF st) s.heap.objs.size f cdv)->rR (qE (CXr P w base) P w K mg base N x (aF st) f cdv A outer s H E) E (cV st) t)(rd: ∀ds Q Ex,φ ds Q Ex->t Ex {Q with} (init N ds)):FnX<$>y ps (k+1) φ:=
 let ⟨_,U,m⟩:=d99 p
 q▸FnX.mk' U (bK X G<|q▸m) (U.binds b) S len der rd
end
theorem all_mk {l:PySem.W.OpenLaw}{w:World}{K:PySem.W.Frag}{h:Heap}{mg:Str->Option Value}{fa f1 f2 f3 f4 f5 f6 f7 f8 f9 f10 f11 f12 f13 f14 f15 f16 f17 f18 f19 f20 f21 f22 f23 f24 f25 f26 f27 f28 f29 f30 f31 f32 f33 f34 f35 f36 f37 f38 f39 f40 f41 f42 f43 f44 f45 f46 f47 f48 f49 f50 f51 f52 f53 f54 f55 f56 f57 gT jI aX0 cK dP eH gJ iD yO tU tV jE r8 tW tX yP tY yQ rF jD:Addr}(X:K.In h)(G:h.Ns mainGlobals mg)(hfa:mg "law"=some (.ref fa))
  {bM6 bM7 cA8 cA9 dL2 dL3 b59:Option Addr} {bM8 cB0 dL4 b60:Array (Option Value)} {bM9 bN0 bN1 aJ1 bN2 cB1 cB2 cB3 b37 cB4 dL5 dL6 dL7 cO4 dL8 dL9:Value} {cB5 tM a52 bJ3:ClassData} {qU nX:Tok} {b14:Array Value} {n_SMALL_PRIMES:Nat}
  (P1:eS K "cut" "cut" aU6 f1)
  (P2:eS K "padded" "padded" vF f2)
  (P3:eS K "poly_parted" "poly_parted" jX f3)
  (P4:eS K "poly_at" "poly_at" sA f4)
  (P5:eS K "det" "det" aF4 f5)
  (P6:eS K "without" "without" o7 f6)
  (P7:eS K "root" "root" aB9 f7)
  (P8:eS K "small_primes" "small_primes" j9 f8)
  (P9:eS K "need_two" "need_two" jV f9)
  (P10:eS K "home" "home" vG f10)
  (P11:eS K "road" "road" vH f11)
  (P12:eS K "stair" "stair" a31 f12)
  (P13:eS K "rest" "rest" yG f13)
  (P14:eS K "whole_ring" "whole_ring" l7 f14)
  (P15:eS K "alike" "alike" qP f15)
  (P16:eS K "maker" "maker" qQ f16)
  (P17:eS K "is_ring_poly" "is_ring_poly" gX f17)
  (P18:eS K "need_ring_poly" "need_ring_poly" i9 f18)
  (P19:eS K "apart" "apart" yH f19)
  (P20:eS K "dividers" "dividers" oK f20)
  (P21:eS K "line_and_rest" "line_and_rest" iO f21)
  (P22:eS K "two_by_two" "two_by_two_apart" fZ f22)
  (P23:eS K "two_with" "two_with" oM f23)
  (P24:eS K "measure" "measure" o8 f24)
  (P25:eS K "root_sums" "root_sums" k7 f25)
  (P26:eS K "mod_poly" "mod_poly" lQ f26)
  (P27:eS K "mod_parted" "mod_parted" l8 f27)
  (P28:eS K "scaled" "scaled" qS f28)
  (P29:eS K "inverse_of" "inverse_of" l9 f29)
  (P30:eS K "split_by" "split_by" oN f30)
  (P31:eS K "lines_out" "lines_out" mU f31)
  (P32:eS K "rootless_parts" "rootless_parts" fO f32)
  (P33:eS K "two_by_two" "two_by_two_split" gA f33)
  (P34:eS K "papers_of" "papers_of" k8 f34)
  (P35:eS K "parts_at" "parts_at" lR f35)
  (P36:eS K "outside_of" "outside_of" jA f36)
  (P37:eS K "need_together" "need_together" fA f37)
  (P38:eS K "need_whole" "need_whole" gB f38)
  (P39:eS K "_law_cell" "_law_cell" bH0 f39)
  (P40:eS K "_law_mixed" "_law_mixed" aV4 f40)
  (P41:eS K "_law_draws" "_law_draws" aV5 f41)
  (P42:eS K "_law_shifted" "_law_shifted" yI f42)
  (P43:eS K "_law_poly" "_law_poly" b05 f43)
  (P44:eS K "_law_known_ring" "_law_known_ring" oO f44)
  (P45:eS K "_law_ring" "_law_ring" bH2 f45)
  (P46:eS K "_law_shared" "_law_shared" aC7 f46)
  (P47:eS K "_law_times" "_law_times" aV7 f47)
  (P48:eS K "_law_det" "_law_det" bH3 f48)
  (P49:eS K "_law_table" "_law_table" b81 f49)
  (P50:eS K "_law_value" "_law_value" aV8 f50)
  (P51:eS K "_law_known" "_law_known" aV9 f51)
  (P52:eS K "_law_stair" "_law_stair" wL f52)
  (P53:eS K "_law_made" "_law_made" bH4 f53)
  (P54:eS K "_law_product" "_law_product" tT f54)
  (P55:eS K "_law_ideal" "_law_ideal" a35 f55)
  (P56:eS K "_law_asked" "_law_asked" aW0 f56)
  (P57:eS K "law" "law" aW1 f57)
  (mV:nsIn K mainGlobals "NotTwo"=some (some<|.ref cK))
  (gU:nsIn K mainGlobals "RingError"=some (some<|.ref dP))
  (iP:nsIn K mainGlobals "FallsApart"=some (some<|.ref eH))
  (lH:nsIn K mainGlobals "NotWhole"=some (some<|.ref gJ))
  (iE:nsIn K mainGlobals "TooGreat"=some (some<|.ref iD))
  (vW:nsIn K mainGlobals "Beyond"=some (some<|.ref yO))
  (qZ:nsIn K mainGlobals "Endless"=some (some<|.ref tU))
  (r6:nsIn K mainGlobals "NoBasic"=some (some<|.ref tV))
  (iC:nsIn K mainGlobals "NoPolynomial"=some (some<|.ref jE))
  (nW:nsIn K mainGlobals "NotApart"=some (some<|.ref r8))
  (rA:nsIn K mainGlobals "NotHeld"=some (some<|.ref tW))
  (rB:nsIn K mainGlobals "NotUnit"=some (some<|.ref tX))
  (vX:nsIn K mainGlobals "Nought"=some (some<|.ref yP))
  (rC:nsIn K mainGlobals "NoPrime"=some (some<|.ref tY))
  (vY:nsIn K mainGlobals "TooFar"=some (some<|.ref yQ))
  (bJ4:nsIn K mainGlobals "Ring"=some (some<|.ref rF))
  (aJ2:PySem.W.findIn K (.ref eH) "__init__"=some (some<|.ref gT))
  (b38:PySem.W.findIn K (.ref gJ) "__init__"=some (some<|.ref jI))
  (bZ4:PySem.W.findIn K (.ref rF) "__init__"=some (some<|.ref aX0))
  (a53:K.lookup gT=some ⟨.type "function",bM6,.func<|fnOf "__init__" "FallsApart.__init__" (iY oQ) (cV oQ) (aF oQ) .none bM9 bN0 bN1 bM7 aJ1 bN2,bM8⟩)
  (aR2:K.lookup jI=some ⟨.type "function",cA8,.func<|fnOf "__init__" "NotWhole.__init__" (iY vQ) (cV vQ) (aF vQ) .none cB1 cB2 cB3 cA9 b37 cB4,cB0⟩)
  (cI8:K.lookup aX0=some ⟨dL9,dL2,.func<|fnOf "__init__" "Ring.__init__" (iY aC9) (cV aC9) (aF aC9) .none dL5 dL6 dL7 dL3 cO4 dL8,dL4⟩)
  (xO:codeIn K aJ1 "FallsApart.__init__"=true)
  (xP:keepIn K (.ref gT)=true)
  (aD4:codeIn K b37 "NotWhole.__init__"=true)
  (aD5:keepIn K (.ref jI)=true)
  (bZ5:codeIn K cO4 "Ring.__init__"=true)
  (bZ6:keepIn K (.ref aX0)=true)
  (lX:a59 K eH gT [.type "ValueError",.type "Exception",.type "BaseException",.type "object"] "ValueError.__new__"=true)
  (qW:a59 K gJ jI [.type "ValueError",.type "Exception",.type "BaseException",.type "object"] "ValueError.__new__"=true)
  (oR:excIn K cK [.type "ValueError",.type "Exception",.type "BaseException",.type "object"] "ValueError.__new__"=true)
  (lJ:excIn K dP [.type "ValueError",.type "Exception",.type "BaseException",.type "object"] "ValueError.__new__"=true)
  (rE:excIn K iD [.type "ValueError",.type "Exception",.type "BaseException",.type "object"] "ValueError.__new__"=true)
  (aG3:PySem.W.clsIn K cK=some cB5)
  (rK:PySem.W.clsIn K eH=some tM)
  (wN:PySem.W.clsIn K gJ=some a52)
  (aD6:PySem.W.clsIn K iD=some bJ3)
  (jF:(tM).mro.contains (.ref dP)=true)
  (kD:(bJ3).mro.contains (.ref dP)=true)
  (kE:(a52).mro.contains (.ref dP)=true)
  (se_NotTwo:(cB5).mro.contains (.ref cK)=true)
  (kg_NotTwo:PySem.W.findIn K (.ref cK) "__getattribute__"=some (some<|.builtin "BaseException.__getattribute__"))
  (kh_NotTwo:PySem.W.findIn K (.ref cK) "__getattr__"=some none)
  (ka_NotTwo:PySem.W.findIn K (.ref cK) "__class__"=some (some<|.builtin "object.__class__"))
  (kn_NotTwo:PySem.W.specialIn K (.builtin "object.__class__") "__get__"=some (some<|.builtin "getset_descriptor.__get__"))
  (kt_NotTwo:PySem.W.takesIn K (.builtin "object.__class__")=some true)
  (km_NotTwo:PySem.W.mroIn K cK (.type "object")=some true)
  (kb_NotTwo:PySem.W.mroIn K cK (.type "BaseException")=some true)
  (ki_NotTwo_RingError:kitOne K (.ref cK) (.ref dP)=some true)
  (ki_NotTwo_ValueError:kitOne K (.ref cK) (.type "ValueError")=some true)
  (ki_NotTwo_Beyond_Endless_NoBasic_NoPolynomial_NotApart_NotHeld_NotUnit:kitAny K (.ref cK) [.ref yO,.ref tU,.ref tV,.ref jE,.ref r8,.ref tW,.ref tX]=some false)
  (ki_NotTwo_Nought_NoPrime_TooFar_TooGreat:kitAny K (.ref cK) [.ref yP,.ref tY,.ref yQ,.ref iD]=some false)
  (xQ:uP (tM).mro=true)
  (xR:(tM).hasDict=true)
  (xS:PySem.W.findIn K (.ref eH) "__setattr__"=some (some<|.builtin "object.__setattr__"))
  (xT:PySem.W.findIn K (.ref eH) "left"=some none)
  (xU:PySem.W.findIn K (.ref eH) "right"=some none)
  (aD7:uP (a52).mro=true)
  (aD8:(a52).hasDict=true)
  (aD9:PySem.W.findIn K (.ref gJ) "__setattr__"=some (some<|.builtin "object.__setattr__"))
  (aE0:PySem.W.findIn K (.ref gJ) "prime"=some none)
  (aE1:PySem.W.findIn K (.ref gJ) "number"=some none)
  (mk_Ring:makesIn K rF=true)
  (fn_Ring:PySem.W.isFn K (.ref aX0)=true)
  (kc_Ring:keepIn K (.ref rF)=true)
  (pg_Ring:plainGet K rF Str.empty=true)
  (bZ7:hasDictIn K rF=true)
  (po_Ring:plainOver K rF=true)
  (bZ8:PySem.W.findIn K (.ref rF) "__setattr__"=some (some<|.builtin "object.__setattr__"))
  (bZ9:PySem.W.findIn K (.ref rF) "poly"=some none)
  (b15:PySem.W.findIn K (.ref rF) "degree"=some none)
  (aR3:PySem.W.findIn K (.ref rF) "measure"=some none)
  (dA0:nsIn K mainGlobals "len"=some none)
  (dA1:nsIn K mainGlobals "max"=some none)
  (cI9:nsIn K mainGlobals "list"=some none)
  (aR4:nsIn K mainGlobals "reversed"=some none)
  (c00:nsIn K mainGlobals "range"=some none)
  (aE2:nsIn K mainGlobals "enumerate"=some none)
  (c01:nsIn K mainGlobals "tuple"=some none)
  (dA2:nsIn K mainGlobals "zip"=some none)
  (dA3:nsIn K mainGlobals "all"=some none)
  (dA4:nsIn K mainGlobals "abs"=some none)
  (dA5:nsIn K mainGlobals "sum"=some none)
  (dA6:nsIn K mainGlobals "min"=some none)
  (bJ5:nsIn K mainGlobals "sorted"=some none)
  (dA7:nsIn K mainGlobals "int"=some none)
  (a54:nsIn K mainGlobals "isinstance"=some none)
  (a55:nsIn K mainGlobals "ValueError"=some none)
  (fP:nsIn K mainGlobals "GREATEST_PLACE"=some (some<|.int 499 qU))
  (eO:nsIn K mainGlobals "GREATEST_MEASURE"=some (some<|.int 39999 nX))
  (iB:nsIn K mainGlobals "SMALL_PRIMES"=some (some<|.ref jD))
  (sV:K.lookup jD=some ⟨.type "tuple",b59,.seq b14 n_SMALL_PRIMES,b60⟩)
  (sW:b14.size<=sizeLine)
  (sX:Vals (T_SMALL_PRIMES.map V.int) b14.toList) :
  ∃fd:FuncData,(∀(s:Shared) (v:Value),BindsTo s fd ⟨[v],[]⟩ [("_law_script",v)])/\ ∀base:Heap,K.In base->base.Ns mainGlobals mg->sF l.prog w K mg base CX0 13 fa fd ["_law_script"] (spP K bO2):=by
 have h5:=P5.choose_spec;have h48:=P48.choose_spec;have h57:=P57.choose_spec;have e:=hfa.symm.trans (bK X G h57.1);cases e;have Z:Zs mg:=⟨dW X G dA0,dW X G dA1,dW X G cI9,dW X G aR4,dW X G c00,dW X G aE2,dW X G c01,dW X G dA2,dW X G dA3,dW X G dA4,dW X G dA5,dW X G dA6,dW X G bJ5,dW X G dA7,dW X G a54,dW X G a55⟩;have fP:=bK X G fP;have eO:=bK X G eO;have iB:=bK X G iB
 have vR:KT K jD (T_SMALL_PRIMES.map V.int):=kt_of sV sW sX;have mV:=bK X G mV;have gU:=bK X G gU;have iP:=bK X G iP;have lH:=bK X G lH;have iE:=bK X G iE;have vW:=bK X G vW;have qZ:=bK X G qZ;have r6:=bK X G r6;have iC:=bK X G iC;have nW:=bK X G nW;have rA:=bK X G rA;have rB:=bK X G rB;have vX:=bK X G vX;have rC:=bK X G rC;have vY:=bK X G vY;have bJ4:=bK X G bJ4
 have a48:c35 K eH gT _ "left" "right":=cL7 (st:=oQ) (x0:="self") (x1:="left") (x2:="right") a53 xO xP rfl bL7 rfl rfl rfl ac ac ac (λ_ _ _ _ _ _=>lN3 λ_ _ _=>rfl) rK xQ xR xS xT xU
 have aR0:c35 K gJ jI _ "prime" "number":=cL7 (st:=vQ) (x0:="self") (x1:="prime") (x2:="number") aR2 aD4 aD5 rfl c93 rfl rfl rfl ac ac ac (λ_ _ _ _ _ _=>lN3 λ_ _ _=>rfl) wN aD7 aD8 aD9 aE0 aE1
 have qY: ∀n∈(["FallsApart","TooGreat","NotWhole"]:List Str),∀C,mg n=some (.ref C)->a91 K dP C bmV vN:=by
  intro n hn C hm;simp only[aZ,dE,dG]at hn;rcases hn with rfl|rfl|rfl
  . (have e:=hm.symm.trans iP;cases e;exact aE8 (.inr ⟨_,lX⟩) rK jF)
  . (have e:=hm.symm.trans iE;cases e;exact aE8 (.inl rE) aD6 kD)
  . (have e:=hm.symm.trans lH;cases e;exact aE8 (.inr ⟨_,qW⟩) wN kE)
 have KX_NotTwo:cF8 K cK:=⟨by rw[aG3];rfl,kg_NotTwo,kh_NotTwo,ka_NotTwo,kn_NotTwo,kt_NotTwo,km_NotTwo,kb_NotTwo⟩
 have U1_NotTwo:a91 K cK cK bmV vN:=aE8 (.inl oR) aG3 se_NotTwo;have U5:=aX5 (st:=aF4) h5.2.1 h5.2.2.1 h5.2.2.2;have U48:=aX5 (st:=bH3) h48.2.1 h48.2.2.1 h48.2.2.2;have U57:=aX5 (st:=aW1) h57.2.1 h57.2.2.1 h57.2.2.2;have UR:=aX5 (st:=aC9) cI8 bZ5 bZ6
 refine⟨fnOf "law" "law" (iY aW1) (cV aW1) (aF aW1) .none P57.choose.kV P57.choose.dc P57.choose.pm P57.choose.an P57.choose.cd P57.choose.ct,λs v=> .of_eq rfl,λbase _ _=> ?_⟩
 have mB:= @fn_b l.prog w K mg base h X G;have mX:= @fnX_b l.prog w K mg base h X G;have a43:=mB P1 (by walk_at "b1") bH6 ag (cT6 Z) d50
 have aR1:=mB P2 ah c91 ag (bY6 Z) c55
 have cM:=mB P3 ah dS ag (aW7 Z a43) aZ3
 have oB:=mB P4 ah tL ag (bM2 Z) bW4
 have oA:=mB P6 ah bY3 ag (bM3 Z) bV7
 have cU7:Fn l.prog w K mg base "det" j8 1 (fW 0):=Fn.void U5 (bK X G h5.1) (U5.binds (ps:=j8)<|by walk_at "b1") cG0
 have cU8:Fn l.prog w K mg base "det" j8 2 (fW 1):=Fn.mk' U5 (bK X G h5.1) (U5.binds (ps:=j8)<|by walk_at "b1") oP (aE9 _) (λcdv A outer s H E hr=>aF7 Z ac cU7 oA hr) (aS8 0 ac)
 have cU9:Fn l.prog w K mg base "det" j8 3 (fW 2):=Fn.mk' U5 (bK X G h5.1) (U5.binds (ps:=j8)<|by walk_at "b1") oP (aE9 _) (λcdv A outer s H E hr=>aF7 Z ac cU8 oA hr) (aS8 1 ac)
 have cV0:Fn l.prog w K mg base "det" j8 4 (fW 3):=Fn.mk' U5 (bK X G h5.1) (U5.binds (ps:=j8)<|by walk_at "b1") oP (aE9 _) (λcdv A outer s H E hr=>aF7 Z ac cU9 oA hr) (aS8 2 ac)
 have cV1:Fn l.prog w K mg base "det" j8 5 (fW 4):=Fn.mk' U5 (bK X G h5.1) (U5.binds (ps:=j8)<|by walk_at "b1") oP (aE9 _) (λcdv A outer s H E hr=>aF7 Z ac cV0 oA hr) (aS8 3 ac)
 have aW9:=cV1;have bJ2:=mB P7 (by walk_at "b1") yJ ag (cI2 Z) cS0
 have gY:=mB P8 (by walk_at "b0") aW2 ag (aQ7 Z iB vR) aT4
 have fQ:=mX P9 (by walk_at "b1") bL4 rfl b48 (λ_ _ _ _ _ _ hr=>b55 Z mV oR hr) bF4
 have b13:=mX P10 ah cT2 rfl b31 (λ_ _ _ _ _ _ hr=>cA2 Z fQ hr) cH5
 have aG2:=mX P11 ah cT3 rfl c69 (λ_ _ _ _ _ _ hr=>cA3 Z fQ hr) cH6
 have bJ1:=mB P13 ah yK ag (cI3 Z) cR6
 have aQ9:=mB P12 (by walk_at "b3") o9 ag (bY7 Z bJ1) c71
 have vS:=mB P14 (by walk_at "b1") b50 ag (b07 Z aQ9) b49
 have lB:=mX P15 (by walk_at "b3") cH9 rfl bX9 (λ_ _ _ _ _ _ hr=>bY8 Z fQ hr) c70
 have rD:=mX P16 ah bH7 rfl bY0 (λ_ _ _ _ _ _ hr=>bY9 Z vS lB hr) c72
 have qV:=mB P17 (by walk_at "b1") aW3 ag (aQ8 Z fP) aT5
 have d6:=mB P18 (by walk_at "b1") aG9 ag (aD0 Z qV) aG7
 have lW:=mB P20 (by walk_at "b1") xG ag (bI5 Z) bK8
 have oS:=mB P21 (by walk_at "b1") nU ag (aH1 Z lW oB cM) aO5
 have a44:=mB P23 ah xH ag (bI6 Z bJ2) bK9
 have lD:=mB P22 (by walk_at "b1") fJ ag (a41 Z lW a44) a70
 have b11:=mB P19 (by walk_at "b1") aQ5 ag (cA4 Z d6 oS lD) cG8
 have xL:=mB P25 ah jB ag (b56 Z) bC4
 have aD3:=mB P24 (by walk_at "b1") a36 ag (bM4 Z d6 xL aW9) bW6
 have fB:=mB P26 ah bL5 ag (bI7 Z a43) bK4
 have vT:=mB P29 ah mW ag (b09 Z) b43
 have a45:=mB P28 (by walk_at "b3") c92 ag (bZ0 Z fB) c48
 have vU:=mB P27 (by walk_at "b3") jY ag (b08 Z fB vT cM a45) b44
 have xM:=mB P31 ah iA ag (b57 Z oB vU) bD6
 have lF:=mB P33 ah eA ag (a42 Z) a72
 have nV:=mB P32 ah tF ag (aD1 Z lF) aG6
 have a47:=mB P30 ah xI ag (bI8 Z gY xM fB nV) bK5
 have a46:=mB P35 ah bL6 ag (bI9 Z a47 cM) bK6
 have xN:=mB P34 ah bH8 ag (b58 Z gY a46) bD8
 have vV:=mB P36 ah iH ag (b10 Z cM) b46
 have nY:=mX P37 (by walk_at "b1") vO rfl aA8 (λ_ _ _ _ _ _ hr=>aD2 Z iP lX a48 b11 hr) aG8
 have sU:=mX P38 ah mY rfl aT6 (λ_ _ _ _ _ _ hr=>aW8 Z lH qW aR0 vV xN aR1 hr) b00
 have a50:=mB P39 ah dK7 ag (d95 Z) dH8
 have aF8:=mB P40 (by walk_at "b3") bH9 ag (cT7 Z) d38
 have lY:=mB P41 (by walk_at "b3") yL ag (cT8 Z aF8) d39
 have qX:=mB P42 ah a37 ag (cA5 Z) cH2
 have cI5:=mB P43 ah aF5 ag (d96 Z lY qX) dJ9
 have a51:=mB P44 (by walk_at "b1") xJ ag (bJ0 Z aF8) bL2
 have okR:OkC K rF ["poly","degree","measure"]:=⟨⟨pg_Ring,bZ7,po_Ring,bZ8⟩,λf hf=>by
  simp only[aZ,dE,dG]at hf;rcases hf with rfl|rfl|rfl
  .exact bZ9
  .exact b15
  .exact aR3⟩
 have fR:=d35 UR cO2 okR ac ac ac cS2 ac (λcdv A outer s H E hr=>cU6 Z eO iE rE d6 aD3 nY sU hr) d62
 have bR:=UR.binds (ps:=["self","poly"]) λ_ _ _ _ _ _ us hl=>match us,hl with| [_,_],_=>rfl
 have a49:MkX l.prog w K mg base "Ring" 10 ["poly","degree","measure"] rZ:=⟨rF,aX0,_,["self","poly"],Mk.mk mk_Ring bZ4 fn_Ring kc_Ring,okR,fR,bR,bJ4⟩;have cI7:=mB P45 (by walk_at "b3") aF6 ag (d97 Z gU lJ qY a49 cI5 a50 a51) dJ7
 have sE:=mB P46 ah bS5 ag (cI4 Z) cS8
 have aF9:=mB P47 (by walk_at "b3") sD ag (cT9 Z) d64
 have dM0:Fn l.prog w K mg base "_law_det" qT 1 (kY 0):=Fn.void U48 (bK X G h48.1) (U48.binds (ps:=qT)<|by walk_at "b1") d74
 have dM1:Fn l.prog w K mg base "_law_det" qT 2 (kY 1):=Fn.mk' U48 (bK X G h48.1) (U48.binds (ps:=qT)<|by walk_at "b1") aC8 (b79 _) (λcdv A outer s H E hr=>b83 Z ac dM0 hr) (bX4 0 ac)
 have dM2:Fn l.prog w K mg base "_law_det" qT 3 (kY 2):=Fn.mk' U48 (bK X G h48.1) (U48.binds (ps:=qT)<|by walk_at "b1") aC8 (b79 _) (λcdv A outer s H E hr=>b83 Z ac dM1 hr) (bX4 1 ac)
 have dM3:Fn l.prog w K mg base "_law_det" qT 4 (kY 3):=Fn.mk' U48 (bK X G h48.1) (U48.binds (ps:=qT)<|by walk_at "b1") aC8 (b79 _) (λcdv A outer s H E hr=>b83 Z ac dM2 hr) (bX4 2 ac)
 have dM4:Fn l.prog w K mg base "_law_det" qT 5 (kY 4):=Fn.mk' U48 (bK X G h48.1) (U48.binds (ps:=qT)<|by walk_at "b1") aC8 (b79 _) (λcdv A outer s H E hr=>b83 Z ac dM3 hr) (bX4 3 ac)
 have b36:=dM4;have aG0:=mB P49 ah vP ag (cU0 Z aF9) d73
 have bZ1:=mB P50 ah aW4 ag (cU1 Z) d75
 have bZ2:=mB P51 (by walk_at "b3") yM ag (cU2 Z) d76
 have aG1:=mB P52 (by walk_at "b3") jC ag (cU3 Z) d49
 have cI6:=mB P53 ah a38 ag (d98 Z aG0 sE b36 aG1) dK1
 have b12:=mB P54 (by walk_at "b3") a39 ag (cA6 Z aF9 aG1) cH4
 have b84:=mB P55 (by walk_at "b3") fK ag (cU4 Z lY bZ1 sE bZ2 b12 b36 aG0 cI6) d80
 have bZ3:=mB P56 (by walk_at "b4") yN ag (cU5 Z mV oR gU lJ vW qZ r6 iC nW rA rB vX rC vY iE KX_NotTwo U1_NotTwo ki_NotTwo_RingError ki_NotTwo_ValueError ki_NotTwo_Beyond_Endless_NoBasic_NoPolynomial_NotApart_NotHeld_NotUnit ki_NotTwo_Nought_NoPrime_TooFar_TooGreat b13 aG2 lB rD) d84
 exact bU2 U57 a40 dH9 (λcdv A outer s H E hr=>⟨bY1,dL1 Z a49 cI7 lY a50 qX b84 bZ3 hr,rd_law⟩)
end M
open PySem PySem.W PyProof.Rows
local macro_rules| `(tactic| walk_at "f")=> `(tactic| (refine' M.fnAt ?x1 ?x2 ?x3 ?x4;(case x1=>k_is);(case x2=>k_is);(case x3=>k_is);(case x4=>k_is)))
namespace PySem.W.Fast
def tw695326293409708957:=()
def tw14257060427909417977:=()
def tw15088380034656639278:=()
def tw8915872702064416128:=()
def tw4734753352068189619:=()
def tw1496994360901975771:=()
def tw9032995762626735315:=()
def tw9867035029421201413:=()
def tw17877224993292479198:=()
def tw13324203997752615439:=()
def tw8739341240392043890:=()
def tw13076478508774306511:=()
def tw8270255793098359042:=()
def tw348704184888206204:=()
def tw6080683500074589102:=()
def tw14471966663479665814:=()
def tw11490427053201500900:=()
def tw5073854880784811264:=()
def tw2239825147486870652:=()
def tw2232903532848417832:=()
def tw17020034194915561182:=()
def tw15488531722389408979:=()
def tw3447367189282441736:=()
def tw17642441524982891939:=()
def tw2022047959397017940:=()
def tw906290187462692818:=()
def tw2330088180923763556:=()
def tw17378578459611373663:=()
def tw10581069844131992853:=()
def tw6165637142517390738:=()
def tw11825952077455793099:=()
def tw12259907956533469426:=()
def tw2175230214861449983:=()
def tw9966843976065088477:=()
def tw1885111897030164777:=()
def tw305536710297497515:=()
def tw10295147957802086048:=()
def tw12058840265474230730:=()
def tw9353988103169782423:=()
def tw16050411319990405970:=()
def tw9756281170465271647:=()
def tw1541071443415558165:=()
def tw3600724181752548676:=()
def tw2869301507590406657:=()
def tw1950392269895830865:=()
def tw6459805211754900513:=()
def tw5779141068992025573:=()
def tw1145249166118801565:=()
def tw5509270138709772602:=()
def tw1627248446357631319:=()
def tw9310545286604146155:=()
def tw16325385936127227356:=()
def tw3252541795461458573:=()
def tw1552383910978492925:=()
def tw8873085162818323575:=()
def tw13676599698843186437:=()
def tw17793943255577074693:=()
def tw6098434998895313144:=()
def tw15527051815834527434:=()
def tw7886872943921316993:=()
def tw2527972698959166779:=()
def tw7806082464956081413:=()
def tw12505628274825078420:=()
def tw863404572804678428:=()
def tw11755832550826181688:=()
def tw12032028207373492041:=()
def tw967012150931641571:=()
def tw11021872802043873839:=()
def tw3601144070445539451:=()
def tw8680578446775086331:=()
def tw2835226858261343512:=()
def tw8744329967848200467:=()
def tw15140598582226929718:=()
def tw17603904488930520341:=()
def tw13899143506230290508:=()
def tw12828936990464547991:=()
def tw2472932207367285100:=()
def tw10076150806131225923:=()
def tw18054183289332978497:=()
def tw12875481976020175156:=()
def tw16634130712852897639:=()
def tw10923126476170147984:=()
def tw3973809600603746819:=()
def tw11315030553243664679:=()
def tw10094090830605390897:=()
def tw12927771765083021495:=()
def tw14333071697443333326:=()
def tw4141515100775176129:=()
def tw3449377442760131998:=()
def tw12673492966279955915:=()
def tw5674023645015538577:=()
def tw10311448046400121913:=()
def tw8590303476355571778:=()
def tw496564732525143355:=()
def tw16440290868895467546:=()
def tw17745761111641491079:=()
def tw12274666028199561853:=()
def tw6323692306908447899:=()
def tw2653836987870651041:=()
def tw12177434010051423688:=()
def tw11265600628352100986:=()
def tw10359121352321155287:=()
def tw2059652043090358923:=()
def tw8177966839498849619:=()
def tw5165212292444115314:=()
def tw2813407563838847961:=()
def tw1553125793947579489:=()
def tw9037601146371806377:=()
def tw3016466434501303186:=()
def tw17958131136704918580:=()
def tw34768225833160474:=()
def tw5501566668128167089:=()
def tw1428897828538674009:=()
def tw10956936238207335701:=()
def tw3804256230612247761:=()
def tw6162533019419527225:=()
def tw7353097163400308885:=()
def tw2593974039275880754:=()
def tw10039896262177415009:=()
def tw5160425248869403185:=()
def tw5484730162515913823:=()
def tw11714678019058018430:=()
def tw16962251285981230091:=()
def tw9526943789711940477:=()
def tw2540430132280577035:=()
def tw17788742967891741241:=()
def tw10784256980661907403:=()
def tw2963082998253150730:=()
def tw8293335514982590288:=()
def tw2819983227559848626:=()
def tw13539849234191417557:=()
def tw13467116353100494373:=()
def tw2521196038593646064:=()
def tw8016367862946160578:=()
def tw4354252407030218147:=()
def tw10863754600289902522:=()
def tw1484772825803725057:=()
def tw3462444876607282817:=()
def tw10488794473729894491:=()
def tw15894363500158942860:=()
def tw10370590355228489472:=()
def tw10789511837442520355:=()
def tw9379268740678922923:=()
def tw5386681920071991132:=()
def tw2963985654502974749:=()
def tw17360621539329747607:=()
def tw14443203217470355310:=()
def tw11404741747663100847:=()
def tw7368472215705855201:=()
def tw15423073205808853236:=()
def tw6952204718931335140:=()
def tw1033321237918744414:=()
def tw18181796189953313078:=()
def tw16217214744713239332:=()
def tw15309857481883799203:=()
def tw8173627468150160126:=()
def tw3315009199944774030:=()
def tw15306841798615320294:=()
def tw14564822402728931916:=()
def tw1777986565402146861:=()
def tw4351720146679783911:=()
def tw14570920908906046755:=()
def tw1241803098871103398:=()
def tw10150447474342144055:=()
def tw2076008358355592022:=()
def tw15618360093199915476:=()
def tw17913050140588635842:=()
def tw15575116511673454582:=()
def tw17038773223217700771:=()
def tw13360870617020612887:=()
def tw1631275492067019591:=()
def tw17455343944640657129:=()
def tw10300363786688327520:=()
def tw7550321276506549470:=()
def tw216445762173848950:=()
def tw4740248792896688548:=()
def tw1964171666500513023:=()
def tw12255701972032301709:=()
def tw11776619834260129881:=()
def tw8897014125661734678:=()
def tw4753503715179383362:=()
def tw13997352292563591224:=()
def tw4107720721958776690:=()
def tw8436394718550555221:=()
def tw13425660743165851177:=()
def tw5499760991451739045:=()
def tw4311820920812711777:=()
def tw6176623082596554614:=()
def tw1921736217573216268:=()
def tw15925799457899437205:=()
def tw6580584473657064339:=()
def tw8149684528173288831:=()
def tw3543998717483266528:=()
def tw14834553718646231035:=()
def tw13660822664987058944:=()
def tw5916888972972573155:=()
def tw15334798058732184075:=()
def tw1309836346039394550:=()
def tw16725946083914854073:=()
def tw17493123128094729101:=()
def tw16005819094777780356:=()
def tw15778438685563416693:=()
def tw762945014859003706:=()
def tw15148935167993767878:=()
def tw15373252413188433277:=()
def tw3877739159346428055:=()
def tw17266295818243880722:=()
def tw14327786316528043360:=()
def tw5079988628997990917:=()
def tw4203545714734313781:=()
def tw1805458772734784019:=()
def tw18126561618716261747:=()
def tw8324528242805217759:=()
def tw6144011163929867307:=()
def tw17729437715815905232:=()
def tw14029965893131836850:=()
def tw5751791649859095687:=()
def tw2128939575049090554:=()
def tw15814050505522514428:=()
def tw17972824005377421557:=()
def tw15986638534612481237:=()
def tw6771991320051415899:=()
def tw11312418572609955695:=()
def tw10403492273103768147:=()
def tw6089616454620615074:=()
def tw10181489347262151148:=()
def tw9450980226330198452:=()
def tw2792041143964351382:=()
def tw8994738180861271040:=()
def tw13140659004898190347:=()
def tw16245484238140195862:=()
def tw15442359020763499258:=()
def tw10975868512681831923:=()
def tw7629624526693184324:=()
def tw8819866028229450975:=()
def tw3064410831625193824:=()
def tw17769204650405949620:=()
def tw4761603381552397241:=()
def tw5188058593254528468:=()
def tw10210347910702531843:=()
def tw17864820104347813813:=()
def tw3527079184219028819:=()
def tw17047091268264700336:=()
def tw8606067311797329896:=()
end PySem.W.Fast
set_option maxRecDepth 100000 in
set_option maxHeartbeats 0 in
theorem PySem.Challenge.cw_ringhouse_k60_degree_two_alone_holds : PySem.Challenge.rw_ringhouse_k60_degree_two_alone.Holds := by
 w_on;o_law;k_head;(case hw=>w_witness2)
 k_fill
 refine M.walkM (l:=PySem.Challenge.rw_ringhouse_k60_degree_two_alone) (k:=13) (x:="_law_script") rfl rfl ⟨rfl,ac,ac⟩ (λw h Y=>PySem.W.kIn_of Y) ?F
 case F=>
  intro w mg fa h KX G hmg
  refine' M.all_mk KX G hmg ?P1 ?P2 ?P3 ?P4 ?P5 ?P6 ?P7 ?P8 ?P9 ?P10 ?P11 ?P12 ?P13 ?P14 ?P15 ?P16 ?P17 ?P18 ?P19 ?P20 ?P21 ?P22 ?P23 ?P24 ?P25 ?P26 ?P27 ?P28 ?P29 ?P30 ?P31 ?P32 ?P33 ?P34 ?P35 ?P36 ?P37 ?P38 ?P39 ?P40 ?P41 ?P42 ?P43 ?P44 ?P45 ?P46 ?P47 ?P48 ?P49 ?P50 ?P51 ?P52 ?P53 ?P54 ?P55 ?P56 ?P57 ?mV ?gU ?iP ?lH ?iE ?vW ?qZ ?r6 ?iC ?nW ?rA ?rB ?vX ?rC ?vY ?bJ4 ?aJ2 ?b38 ?bZ4 ?a53 ?aR2 ?cI8 ?xO ?xP ?aD4 ?aD5 ?bZ5 ?bZ6 ?lX ?qW ?oR ?lJ ?rE ?aG3 ?rK ?wN ?aD6 ?jF ?kD ?kE ?se_NotTwo ?kg_NotTwo ?kh_NotTwo ?ka_NotTwo ?kn_NotTwo ?kt_NotTwo ?km_NotTwo ?kb_NotTwo ?ki_NotTwo_RingError ?ki_NotTwo_ValueError ?ki_NotTwo_Beyond_Endless_NoBasic_NoPolynomial_NotApart_NotHeld_NotUnit ?ki_NotTwo_Nought_NoPrime_TooFar_TooGreat ?xQ ?xR ?xS ?xT ?xU ?aD7 ?aD8 ?aD9 ?aE0 ?aE1 ?mk_Ring ?fn_Ring ?kc_Ring ?pg_Ring ?bZ7 ?po_Ring ?bZ8 ?bZ9 ?b15 ?aR3 ?dA0 ?dA1 ?cI9 ?aR4 ?c00 ?aE2 ?c01 ?dA2 ?dA3 ?dA4 ?dA5 ?dA6 ?bJ5 ?dA7 ?a54 ?a55 ?fP ?eO ?iB ?sV ?sW ?sX
  (case P1|P2|P3|P4|P5|P6|P7|P8|P9|P10|P11|P12|P13|P14|P15|P16|P17|P18|P19|P20|P21|P22|P23|P24|P25|P26|P27|P28|P29|P30|P31|P32|P33|P34|P35|P36|P37|P38|P39|P40|P41|P42|P43|P44|P45|P46|P47|P48|P49|P50|P51|P52|P53|P54|P55|P56|P57=>walk_at "f");(case mV|gU|iP|lH|iE|vW|qZ|r6|iC|nW|rA|rB|vX|rC|vY|bJ4|aJ2|b38|bZ4|a53|aR2|cI8|xO|xP|aD4|aD5|bZ5|bZ6|aG3|rK|wN|aD6|kg_NotTwo|kh_NotTwo|ka_NotTwo|kn_NotTwo|kt_NotTwo|km_NotTwo|kb_NotTwo|xS|xT|xU|aD9|aE0|aE1|mk_Ring|fn_Ring|kc_Ring|pg_Ring|bZ7|po_Ring|bZ8|bZ9|b15|aR3|dA0|dA1|cI9|aR4|c00|aE2|c01|dA2|dA3|dA4|dA5|dA6|bJ5|dA7|a54|a55|fP|eO|iB|sV=>k_is);(case lX|qW=>first|kernel_rfl|rfl);(case oR|lJ|rE=>k_exc);(case jF|kD|kE|se_NotTwo|xQ|xR|aD7|aD8=>first|kernel_rfl|rfl|decide);(case ki_NotTwo_RingError|ki_NotTwo_ValueError|ki_NotTwo_Beyond_Endless_NoBasic_NoPolynomial_NotApart_NotHeld_NotUnit|ki_NotTwo_Nought_NoPrime_TooFar_TooGreat=>first|k_is|kernel_rfl|rfl);(case sW=>first|decide| (trace_state;decide +kernel));(case sX=>first| (show L2.Vals (List.map _ _) (List.toList _);simp only[M.T_SMALL_PRIMES,List.map];repeat (first|exact .nil|refine .cons (.int _ _) ?_))| (repeat constructor)|trace_state)
